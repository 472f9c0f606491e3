import PyProof.Rows.All
import Wide.All
import OpenK.AllK
import Wide.FinOn
import Lean
import PyProof.EqAt
import PyProof.EqKinds
import PyProof.TupleCall
import PyProof.ZipIter
import PyProof.SumWalkG
import PyProof.ListCopy
import PyProof.ListStr
import PyProof.DictItems
import PyProof.DictWalks
import PyProof.DictTruth
import PyProof.EnumMake
import PyProof.InstStoreFacts
import PyProof.Rows.SortWalk
import PyProof.ListRange
import PyProof.DictValues
import KE.KRevSl
import KE.KDictOf
import PyProof.DictIter
import PyProof.FactsAll.dict_1
import KE.KDictList
import KE.KItemsList
import PyProof.StrLawsTight
import PyProof.StrCalls2
import PyProof.Rows.StrItems
import PySem.Challenge.RW_trussyard_k81_shown_and_read
set_option Elab.async false
set_option linter.all false
set_option maxRecDepth 100000
theorem gE.{u} {α : Type u} {l : List α} {i : Nat} (h : i < l.length) : l[i]? = some l[i] := List.getElem?_eq_getElem h
def PySem.W.Fast.tw16231835441760329677 : Unit := ()
def PySem.W.Fast.tw7386641180187881446 : Unit := ()
def PySem.W.Fast.tw17573545687062821487 : Unit := ()
def PySem.W.Fast.tw3832367487635097801 : Unit := ()
def PySem.W.Fast.tw9656423592003569978 : Unit := ()
def PySem.W.Fast.tw9304692125392717196 : Unit := ()
def PySem.W.Fast.tw17200861586042533212 : Unit := ()
def PySem.W.Fast.tw5917641269891143729 : Unit := ()
def PySem.W.Fast.tw7931363010492680958 : Unit := ()
def PySem.W.Fast.tw15646396764725371639 : Unit := ()
def PySem.W.Fast.tw16316152175662256066 : Unit := ()
def PySem.W.Fast.tw12368983830680382092 : Unit := ()
def PySem.W.Fast.tw8448501939935914594 : Unit := ()
def PySem.W.Fast.tw11376599602411040855 : Unit := ()
def PySem.W.Fast.tw17455440901588862026 : Unit := ()
def PySem.W.Fast.tw4386258647569833672 : Unit := ()
def PySem.W.Fast.tw4567326120372402219 : Unit := ()
def PySem.W.Fast.tw16222031487939311569 : Unit := ()
def PySem.W.Fast.tw12399790744983579188 : Unit := ()
def PySem.W.Fast.tw16941645977869183468 : Unit := ()
def PySem.W.Fast.tw3596370542941807718 : Unit := ()
def PySem.W.Fast.tw16502519781138819445 : Unit := ()
def PySem.W.Fast.tw12164371096351697830 : Unit := ()
def PySem.W.Fast.tw17998586045282015221 : Unit := ()
def PySem.W.Fast.tw5060967272243903894 : Unit := ()
def PySem.W.Fast.tw18430244127483230224 : Unit := ()
def PySem.W.Fast.tw243003399568590563 : Unit := ()
def PySem.W.Fast.tw1815524646405048950 : Unit := ()
def PySem.W.Fast.tw14746640655614100406 : Unit := ()
def PySem.W.Fast.tw4788505546438080214 : Unit := ()
def PySem.W.Fast.tw13354843503414460237 : Unit := ()
def PySem.W.Fast.tw2252147568484015998 : Unit := ()
def PySem.W.Fast.tw8226044150186876614 : Unit := ()
def PySem.W.Fast.tw11577650978564919896 : Unit := ()
def PySem.W.Fast.tw8384442843574822652 : Unit := ()
def PySem.W.Fast.tw9801328090581222100 : Unit := ()
def PySem.W.Fast.tw14018253775257509826 : Unit := ()
def PySem.W.Fast.tw9082375788072796911 : Unit := ()
def PySem.W.Fast.tw6061761696969063513 : Unit := ()
def PySem.W.Fast.tw4593789467082976664 : Unit := ()
def PySem.W.Fast.tw6307446059975962257 : Unit := ()
def PySem.W.Fast.tw9166318084716318131 : Unit := ()
def PySem.W.Fast.tw486332363801774602 : Unit := ()
def PySem.W.Fast.tw9385055688406204389 : Unit := ()
def PySem.W.Fast.tw15950847564790669682 : Unit := ()
def PySem.W.Fast.tw13589342780446796162 : Unit := ()
def PySem.W.Fast.tw16063855957995021539 : Unit := ()
def PySem.W.Fast.tw4275944815431091310 : Unit := ()
def PySem.W.Fast.tw1735839568480060080 : Unit := ()
def PySem.W.Fast.tw8162548461871452616 : Unit := ()
def PySem.W.Fast.tw5517176408230864743 : Unit := ()
def PySem.W.Fast.tw13655712144302866053 : Unit := ()
def PySem.W.Fast.tw8968890838710054033 : Unit := ()
open PySem.W (Frag nsIn codeIn keepIn fnOf mg_of mg_none_of)
def PySem.W.Fast.tw5237702690736100088 : Unit := ()
def PySem.W.Fast.tw9536308630890198167 : Unit := ()
def PySem.W.Fast.tw14505872219656524810 : Unit := ()
def PySem.W.Fast.tw7433584368056021933 : Unit := ()
def PySem.W.Fast.tw11657726020032569030 : Unit := ()
def PySem.W.Fast.tw3714479925730098807 : Unit := ()
def PySem.W.Fast.tw5951072859714282887 : Unit := ()
def PySem.W.Fast.tw2724571198801497133 : Unit := ()
def PySem.W.Fast.tw11389567598086878578 : Unit := ()
def PySem.W.Fast.tw490624126226014821 : Unit := ()
def PySem.W.Fast.tw9041184237383886604 : Unit := ()
def PySem.W.Fast.tw6287545811540205909 : Unit := ()
def PySem.W.Fast.tw13058755663980604759 : Unit := ()
def PySem.W.Fast.tw6522505949506734593 : Unit := ()
def PySem.W.Fast.tw11338220826024258562 : Unit := ()
def PySem.W.Fast.tw7998016642238769420 : Unit := ()
def PySem.W.Fast.tw6788718805619308557 : Unit := ()
def PySem.W.Fast.tw13063528761418669419 : Unit := ()
def PySem.W.Fast.tw8143884748532679773 : Unit := ()
def PySem.W.Fast.tw4431266361495370396 : Unit := ()
def PySem.W.Fast.tw10325012719132646187 : Unit := ()
def PySem.W.Fast.tw9914753869609463785 : Unit := ()
def PySem.W.Fast.tw15541808555552818519 : Unit := ()
def PySem.W.Fast.tw5997528449095159700 : Unit := ()
def PySem.W.Fast.tw9074280875269235050 : Unit := ()
def PySem.W.Fast.tw18227542061958215975 : Unit := ()
def PySem.W.Fast.tw13329336152765799213 : Unit := ()
namespace L2
open PySem PySem.Spec PyProof.Rows
abbrev Key := Sum Int Str
def keyIs : Key → Value → Bool
 | .inl k, v => Value.isInt k v
 | .inr x, v => Value.isStrOf x v
def keyH (w : World) : Key → Int
 | .inl k => hashInt k
 | .inr x => hashStr w x
theorem keyIs_shape : ∀ {k : Key} {v : Value}, keyIs k v = true → (∃ i t, k = Sum.inl i ∧ v = Value.int i t) ∨ (∃ x t, k = Sum.inr x ∧ v = Value.str x t)
 | .inl i, v, h => by
  obtain ⟨t, e⟩ := Value.isInt_shape (k := i) (v := v) h
  exact .inl ⟨i, t, rfl, e⟩
 | .inr x, v, h => by
  obtain ⟨t, e⟩ := Value.isStrOf_shape (x := x) (v := v) h
  exact .inr ⟨x, t, rfl, e⟩
theorem keyIs_int (i : Int) (t : Tok) : keyIs (.inl i) (.int i t) = true := by simp [keyIs, Value.isInt]
theorem keyIs_str (x : Str) (t : Tok) : keyIs (.inr x) (.str x t) = true := by simp [keyIs, Value.isStrOf]
theorem key_ll (a b : Int) : decide ((Sum.inl a : Key) = Sum.inl b) = (a == b) := by
 by_cases e : a = b
 ·subst e; simp
 ·have h : ¬ (Sum.inl a : Key) = Sum.inl b := fun q => e (Sum.inl.inj q)
  rw [decide_eq_false h]
  exact (beq_eq_false_iff_ne.mpr e).symm
theorem key_rr (a b : Str) : decide ((Sum.inr a : Key) = Sum.inr b) = decide (a = b) := by
 by_cases e : a = b
 ·subst e; simp
 ·have h : ¬ (Sum.inr a : Key) = Sum.inr b := fun q => e (Sum.inr.inj q)
  rw [decide_eq_false h, decide_eq_false e]
theorem key_lr (a : Int) (b : Str) : decide ((Sum.inl a : Key) = Sum.inr b) = false := decide_eq_false (fun q => nomatch q)
theorem key_rl (a : Str) (b : Int) : decide ((Sum.inr a : Key) = Sum.inl b) = false := decide_eq_false (fun q => nomatch q)
def mixKind (prog : Program) (w : World) : PySem.KeyKind prog w Key where
 is := keyIs
 hash := keyH w
 inj := fun v a b ha hb => by
  rcases keyIs_shape ha with ⟨i, t, rfl, rfl⟩ | ⟨x, t, rfl, rfl⟩
  ·rcases keyIs_shape hb with ⟨j, u, rfl, e⟩ | ⟨y, u, rfl, e⟩
   ·injection e with e1 _; rw [e1]
   ·exact nomatch e
  ·rcases keyIs_shape hb with ⟨j, u, rfl, e⟩ | ⟨y, u, rfl, e⟩
   ·exact nomatch e
   ·injection e with e1 _; rw [e1]
 byValue := fun k v h => by
  rcases keyIs_shape h with ⟨i, t, rfl, rfl⟩ | ⟨x, t, rfl, rfl⟩ <;> rfl
 pyHash := fun hv h => by
  rcases keyIs_shape hv with ⟨i, t, rfl, rfl⟩ | ⟨x, t, rfl, rfl⟩
  ·exact wpAny_pyHash_int h
  ·exact wpAny_pyHash_str h
 eqBool := fun hu hv h => by
  rcases keyIs_shape hu with ⟨i, t, rfl, rfl⟩ | ⟨x, t, rfl, rfl⟩
  ·rcases keyIs_shape hv with ⟨j, u, rfl, rfl⟩ | ⟨y, u, rfl, rfl⟩
   ·rw [key_ll] at h; exact wpAny_eqBool_int h
   ·rw [key_lr] at h; exact SeqAt.EqAt.int_str i t y u _ _ _ _ h
  ·rcases keyIs_shape hv with ⟨j, u, rfl, rfl⟩ | ⟨y, u, rfl, rfl⟩
   ·rw [key_rl] at h; exact SeqAt.EqAt.str_int x t j u _ _ _ _ h
   ·rw [key_rr] at h; exact wpAny_eqBool_str h
 «strs» := fun k x t v h => by
  rcases keyIs_shape h with ⟨i, u, rfl, e⟩ | ⟨y, u, rfl, e⟩
  ·exact nomatch e
  ·injection e with e1 _
   subst e1
   cases v <;> rfl
theorem mixKind_int (prog : Program) (w : World) (i : Int) (t : Tok) : (mixKind prog w).is (.inl i) (.int i t) = true := keyIs_int i t
theorem mixKind_str (prog : Program) (w : World) (x : Str) (t : Tok) : (mixKind prog w).is (.inr x) (.str x t) = true := keyIs_str x t
end L2
namespace L2
open PySem PySem.Spec PyProof.Rows
inductive V where
 | non | bl (b : Bool) | int (i : Int) | str (x : Str) | byt (b : Array UInt8) | flt (b : UInt64) | ref (a : Addr) | ty (n : String)
 deriving DecidableEq
def RelV : V → Value → Prop
 | .non, u => u = Value.none
 | .bl b, u => u = Value.bool b
 | .int i, u => ∃ t, u = Value.int i t
 | .str x, u => ∃ t, u = Value.str x t
 | .byt b, u => ∃ t, u = Value.bytes b t
 | .flt b, u => ∃ t, u = Value.float b t
 | .ref a, u => u = Value.ref a
 | .ty n, u => u = Value.type n
abbrev Vals : List V → List Value → Prop := Paired RelV
theorem Vals.length {xs : List V} {us : List Value} (r : Vals xs us) : xs.length = us.length := Paired.length r
theorem Vals.get : ∀ {xs : List V} {us : List Value} {i : Nat} {x : V}, Vals xs us → xs[i]? = some x → ∃ u, us[i]? = some u ∧ RelV x u
 | _, _, _, _, .nil, e => by simp at e
 | _, _, 0, _, .cons r _, e => by simp at e; subst e; exact ⟨_, rfl, r⟩
 | _, _, i + 1, x, .cons _ t, e => by
  obtain ⟨u, h1, h2⟩ := Vals.get (i := i) (x := x) t (by simpa using e)
  exact ⟨u, by simpa using h1, h2⟩
theorem Vals.append : ∀ {xs ys : List V} {us ws : List Value}, Vals xs us → Vals ys ws → Vals (xs ++ ys) (us ++ ws)
 | _, _, _, _, .nil, s => s
 | _, _, _, _, .cons r t, s => .cons r (Vals.append t s)
theorem Vals.take : ∀ {xs : List V} {us : List Value} (n : Nat), Vals xs us → Vals (xs.take n) (us.take n)
 | _, _, 0, _ => .nil
 | _, _, _ + 1, .nil => .nil
 | _, _, n + 1, .cons r t => .cons r (Vals.take n t)
theorem Vals.drop : ∀ {xs : List V} {us : List Value} (n : Nat), Vals xs us → Vals (xs.drop n) (us.drop n)
 | _, _, 0, r => r
 | _, _, _ + 1, .nil => .nil
 | _, _, n + 1, .cons _ t => Vals.drop n t
def RelO : Option V → Option Value → Prop
 | some v, some u => RelV v u
 | none, none => True
 | _, _ => False
def KV {κ : Type} : List (κ × V) → List (κ × Value) → Prop := Paired fun (p : κ × V) (q : κ × Value) => p.1 = q.1 ∧ RelV p.2 q.2
def kV : Key → V
 | .inl i => .int i
 | .inr x => .str x
inductive HO where
 | lst (xs : List V)
 | tup (xs : List V)
 | dK (kvs : List (Key × V)) | dT (kvs : List (List Key × V))
 | set (S : Int → Bool) (n : Nat)
 | ins (C dx : Addr) (fs : List (Str × V))
 | own (x : Addr)
 | xd (fs : List (Str × V))
 | met (f x : Addr)
 | rng (lo hi : Int)
 | frz (o : Obj) (u : HO)
 | tbl (ps : Array Value)
 | ext (φ : Heap → Prop)
abbrev Hp := Addr → Option HO
def upd (H : Hp) (a : Addr) (o : HO) : Hp := fun b => if b = a then some o else H b
theorem upd_same {H : Hp} {a : Addr} {o : HO} : upd H a o a = some o := by unfold upd; rw [if_pos rfl]
theorem upd_ne {H : Hp} {a b : Addr} {o : HO} (h : b ≠ a) : upd H a o b = H b := by unfold upd; rw [if_neg h]
theorem ne_of {H : Hp} {a b : Addr} {o u : HO} (h : H a = some o) (h' : H b = some u) (d : o ≠ u) : a ≠ b := by
 intro e; subst e; rw [h] at h'; exact d (Option.some.inj h')
theorem ne_of_none {H : Hp} {a b : Addr} {o : HO} (h : H a = some o) (h' : H b = none) : a ≠ b := by
 intro e; subst e; rw [h] at h'; cases h'
section
variable (P : Program) (w : World)
def ObjOk (H : Hp) (h : Heap) (a : Addr) : HO → Prop
 | .lst xs => xs.length ≤ sizeLine ∧ ∃ (its : List Value) (n : Nat), Vals xs its ∧ h.get? a = some { cls := .type "list", data := .seq its.toArray n }
 | .tup xs => xs.length ≤ sizeLine ∧ ∃ its : List Value, Vals xs its ∧ IsTup h a its.toArray
 | .dK kvs => kvs.length ≤ sizeLine ∧ (a == sysModules) = false ∧ ∃ vs, KV kvs vs ∧ h.DictOf (mixKind P w) a vs
 | .dT kvs => kvs.length ≤ sizeLine ∧ (a == sysModules) = false ∧ ∃ xs : List (List Key × Addr × Value),
   Paired (fun (p : List Key × V) (q : List Key × Addr × Value) => p.1 = q.1 ∧ H q.2.1 = some (.tup (p.1.map kV)) ∧ RelV p.2 q.2.2) kvs xs ∧
   ∃ o es ep, h.get? a = some o ∧ o.ExactDict ∧ o.data = .dict es ep ∧ es.toList = xs.map (entryOfKey (tupleKind (mixKind P w))) ∧ (xs.map (·.1)).Nodup
 | .set S n => h.SetOf (intKind P w) a S n
 | .ins C dx fs => H dx = some (.own a) ∧ fs.length ≤ 1000 ∧ dx ≠ a ∧ h.get? a = some (PySem.W.instObj C dx) ∧
   ∃ mA, h.Ns1 dx mA ∧ (∀ f, RelO (fs.lookup f) (mA f)) ∧ PySem.Within mA (fs.map (·.1))
 | .own _ => ∃ o, h.get? a = some o
 | .xd fs => ∃ mA, h.Ns1 a mA ∧ ∀ f, RelO (fs.lookup f) (mA f)
 | .rng lo hi => ∃ t u v, h.get? a = some { cls := .type "range", data := .fields #[.int lo t, .int hi u, .int 1 v] }
 | .frz o u => h.get? a = some o ∧ ObjOk H h a u
 | .tbl ps => h.get? a = some { cls := .none, data := .fields ps }
 | .met f x => h.get? a = some (PySem.W.methodObj (.ref f) (.ref x))
 | .ext φ => φ h ∧ (∃ o, h.get? a = some o) ∧ ∀ h1 h2 : Heap, φ h1 → (∀ o, h1.get? a = some o → h2.get? a = some o) → φ h2
def HOk (H : Hp) (h : Heap) : Prop := ∀ a o, H a = some o → ObjOk P w H h a o
end
section
variable {P : Program} {w : World} {H H' : Hp} {h h' : Heap} {a : Addr} {o : HO}
theorem ObjOk.lt (x : ObjOk P w H h a o) : a < h.objs.size := by
 cases o with
 | lst xs => obtain ⟨_, _, _, _, e⟩ := x; exact Heap.lt_size e
 | tup xs => obtain ⟨_, _, _, p⟩ := x; exact p.lt
 | dK kvs => obtain ⟨_, _, _, _, o, _, _, e, _⟩ := x; exact Heap.lt_size e
 | dT kvs => obtain ⟨_, _, _, _, o, _, _, e, _⟩ := x; exact Heap.lt_size e
 | set S n => obtain ⟨o, _, _, _, e, _⟩ := x; exact Heap.lt_size e
 | ins C dx fs => obtain ⟨_, _, _, e, _⟩ := x; exact Heap.lt_size e
 | own y => obtain ⟨_, e⟩ := x; exact Heap.lt_size e
 | xd fs => obtain ⟨_, ⟨_, _, _, e, _⟩, _⟩ := x; exact Heap.lt_size e
 | rng lo hi => obtain ⟨_, _, _, e⟩ := x; exact Heap.lt_size e
 | frz ob u => obtain ⟨e, _⟩ := x; exact Heap.lt_size e
 | tbl ps => exact Heap.lt_size (show h.get? a = some _ from x)
 | met f y => exact Heap.lt_size (show h.get? a = some _ from x)
 | ext φ => obtain ⟨_, ⟨_, e⟩, _⟩ := x; exact Heap.lt_size e
theorem Paired.mapP {α β : Type} {F G : α → β → Prop} : ∀ {l₁ : List α} {l₂ : List β}, Paired F l₁ l₂ → (∀ a b, F a b → G a b) → Paired G l₁ l₂
 | _, _, .nil, _ => .nil
 | _, _, .cons r t, f => .cons (f _ _ r) (Paired.mapP t f)
theorem ObjOk.stay (x : ObjOk P w H h a o) (k : ∀ b u, (b = a ∨ H b = some (.own a)) → h.get? b = some u → h'.get? b = some u)
  (ho : ∀ b, H b = some (.own a) → H' b = some (.own a)) (ht : ∀ b xs, H b = some (.tup xs) → H' b = some (.tup xs)) : ObjOk P w H' h' a o := by
 induction o with
 | lst xs => obtain ⟨z, its, n, r, e⟩ := x; exact ⟨z, its, n, r, k _ _ (.inl rfl) e⟩
 | tup xs => obtain ⟨z, its, r, ob, e, c⟩ := x; exact ⟨z, its, r, ob, k _ _ (.inl rfl) e, c⟩
 | dK kvs => obtain ⟨z, y, vs, r, ob, es, ep, e, c⟩ := x; exact ⟨z, y, vs, r, ob, es, ep, k _ _ (.inl rfl) e, c⟩
 | dT kvs =>
  obtain ⟨z, y, xs, r, ob, es, ep, e, c⟩ := x
  exact ⟨z, y, xs, Paired.mapP r fun p q z => ⟨z.1, ht _ _ z.2.1, z.2.2⟩, ob, es, ep, k _ _ (.inl rfl) e, c⟩
 | set S n => obtain ⟨ob, es, ep, t, e, c⟩ := x; exact ⟨ob, es, ep, t, k _ _ (.inl rfl) e, c⟩
 | ins C dx fs =>
  obtain ⟨d, z, ne, e, mA, ⟨od, es, ep, e2, c⟩, r⟩ := x
  exact ⟨ho _ d, z, ne, k _ _ (.inl rfl) e, mA, ⟨od, es, ep, k _ _ (.inr d) e2, c⟩, r⟩
 | own y => obtain ⟨ob, e⟩ := x; exact ⟨ob, k _ _ (.inl rfl) e⟩
 | xd fs => obtain ⟨mA, ⟨od, es, ep, e, c⟩, r⟩ := x; exact ⟨mA, ⟨od, es, ep, k _ _ (.inl rfl) e, c⟩, r⟩
 | rng lo hi => obtain ⟨t, u, v, e⟩ := x; exact ⟨t, u, v, k _ _ (.inl rfl) e⟩
 | frz ob u ih => obtain ⟨e, q⟩ := x; exact ⟨k _ _ (.inl rfl) e, ih q⟩
 | tbl ps =>
  have e : h.get? a = some { cls := .none, data := .fields ps } := x
  show h'.get? a = some { cls := .none, data := .fields ps }
  exact k a _ (.inl rfl) e
 | met f y =>
  have e : h.get? a = some (PySem.W.methodObj (.ref f) (.ref y)) := x
  show h'.get? a = some (PySem.W.methodObj (.ref f) (.ref y))
  exact k a _ (.inl rfl) e
 | ext φ => obtain ⟨p, ⟨o, e⟩, st⟩ := x; exact ⟨st _ _ p fun o q => k _ _ (.inl rfl) q, ⟨o, k _ _ (.inl rfl) e⟩, st⟩
theorem HOk.lt (x : HOk P w H h) (e : H a = some o) : a < h.objs.size := (x a o e).lt
theorem HOk.fresh (x : HOk P w H h) (e : h.objs.size ≤ a) : H a = none := by
 cases q : H a with
 | none => rfl
 | some u => exact absurd (Nat.lt_of_lt_of_le (x.lt q) e) (Nat.lt_irrefl _)
theorem HOk.kept (x : HOk P w H h) (k : ∀ b u, h.get? b = some u → h'.get? b = some u) : HOk P w H h' := fun a o e =>
 (x a o e).stay (fun b u _ q => k b u q) (fun _ q => q) fun _ _ q => q
theorem HOk.laid (x : HOk P w H h) (k : ∀ b u, h.get? b = some u → h'.get? b = some u) (hp : h.objs.size ≤ a) (new : ObjOk P w (upd H a o) h' a o) : HOk P w (upd H a o) h' := fun b u e => by
 have hn := x.fresh hp
 by_cases hb : b = a
 ·subst hb; rw [upd_same] at e; cases e; exact new
 ·rw [upd_ne hb] at e
  exact (x b u e).stay (fun c v _ q => k c v q) (fun c q => by rw [upd_ne (ne_of_none q hn)]; exact q) fun c xs q => by rw [upd_ne (ne_of_none q hn)]; exact q
end
def Rd (H : Hp) (a : Addr) (u : HO) : Prop := H a = some u ∨ ∃ o, H a = some (.frz o u)
theorem Rd.ok {P : Program} {w : World} {H : Hp} {h : Heap} {a : Addr} {u : HO} (r : Rd H a u) (x : HOk P w H h) : ObjOk P w H h a u := by
 rcases r with r | ⟨o, r⟩
 ·exact x a u r
 ·obtain ⟨_, q⟩ := x a _ r
  exact q
def Mut : Option HO → Prop
 | some (.lst _) => True
 | some (.dK _) => True
 | some (.dT _) => True
 | some (.set _ _) => True
 | some (.ins _ _ _) => True
 | some (.ext _) => True
 | _ => False
section
variable {P : Program} {w : World} {H : Hp} {h h' : Heap} {x e : Addr} {o' : HO}
theorem HOk.write (ok : HOk P w H h) (mu : Mut (H x)) (he : e = x ∨ H e = some (.own x)) (k : ∀ b u, b ≠ e → h.get? b = some u → h'.get? b = some u) (heo : ∃ u, h'.get? e = some u)
  (new : ObjOk P w (upd H x o') h' x o') : HOk P w (upd H x o') h' := fun b u q => by
 have nown : ∀ c y, H c = some (.own y) → c ≠ x := fun c y r z => by subst z; rw [r] at mu; exact mu
 have ntup : ∀ c xs, H c = some (.tup xs) → c ≠ x := fun c xs r z => by subst z; rw [r] at mu; exact mu
 by_cases hb : b = x
 ·subst hb; rw [upd_same] at q; cases q; exact new
 ·rw [upd_ne hb] at q
  by_cases hbe : b = e
  ·have q' : H b = some (.own x) := by
    rcases he with z | z
    ·exact absurd (hbe.trans z) hb
    ·rw [hbe]; exact z
   rw [q] at q'; cases q'
   obtain ⟨v, hv⟩ := heo
   exact ⟨v, by rw [hbe]; exact hv⟩
  ·refine (ok b u q).stay (fun c v hc r => k c v ?_ r) (fun c r => by rw [upd_ne (nown c b r)]; exact r) fun c xs r => by rw [upd_ne (ntup c xs r)]; exact r
   rcases hc with rfl | hc
   ·exact hbe
   ·rintro rfl
    rcases he with z | z
    ·exact nown c b hc z
    ·rw [hc] at z; cases z; exact hb rfl
end
structure Un (fs ex : List Addr) (H H' : Hp) (h h' : Heap) : Prop where
 keep : ∀ b o, h.get? b = some o → H b = none → b ∉ fs → b ∉ ex → h'.get? b = some o
 slot : ∀ b o, h.get? b = some o → H b = none → b ∈ fs → b ∉ ex → ∃ sl, h'.get? b = some { o with slots := sl }
 free : ∀ b o, h.get? b = some o → H b = none → b ∉ ex → H' b = none
 there : ∀ b o, h.get? b = some o → b ∉ ex → ∃ o', h'.get? b = some o'
 tups : ∀ b xs, H b = some (.tup xs) → H' b = some (.tup xs)
 frzs : ∀ b o u, H b = some (.frz o u) → H' b = some (.frz o u)
 tbls : ∀ b ps, H b = some (.tbl ps) → ∃ more, H' b = some (.tbl (ps ++ more))
section
variable {fs fs' ex ex' : List Addr} {H H1 H2 : Hp} {h h1 h2 h' : Heap} {a x e : Addr} {o : HO}
theorem Un.any (u : Un fs ex H H1 h h1) {b : Addr} {ob : Obj} (q : h.get? b = some ob) (n : H b = none) (hx : b ∉ ex) : ∃ sl, h1.get? b = some { ob with slots := sl } := by
 by_cases hb : b ∈ fs
 ·exact u.slot b ob q n hb hx
 ·exact ⟨ob.slots, u.keep b ob q n hb hx⟩
theorem Un.trans (a : Un fs ex H H1 h h1) (b : Un fs ex H1 H2 h1 h2) : Un fs ex H H2 h h2 where
 keep := fun c ob q n hc hx => b.keep c ob (a.keep c ob q n hc hx) (a.free c ob q n hx) hc hx
 slot := fun c ob q n hc hx => by
  obtain ⟨sl, e1⟩ := a.slot c ob q n hc hx
  obtain ⟨sl', e2⟩ := b.slot c _ e1 (a.free c ob q n hx) hc hx
  exact ⟨sl', e2⟩
 free := fun c ob q n hx => by
  obtain ⟨o', e1⟩ := a.there c ob q hx
  exact b.free c o' e1 (a.free c ob q n hx) hx
 there := fun c ob q hx => by
  obtain ⟨o', e1⟩ := a.there c ob q hx
  exact b.there c o' e1 hx
 tups := fun c xs q => b.tups c xs (a.tups c xs q)
 frzs := fun c ob xs q => b.frzs c ob xs (a.frzs c ob xs q)
 tbls := fun c ps q => by
  obtain ⟨m1, e1⟩ := a.tbls c ps q
  obtain ⟨m2, e2⟩ := b.tbls c _ e1
  exact ⟨m1 ++ m2, by rw [e2, Array.append_assoc]⟩
theorem Un.kept (k : ∀ b u, h.get? b = some u → h'.get? b = some u) : Un fs ex H H h h' :=
 ⟨fun b ob q _ _ _ => k b ob q, fun b ob q _ _ _ => ⟨ob.slots, k b ob q⟩, fun _ _ _ n _ => n, fun b ob q _ => ⟨ob, k b ob q⟩, fun _ _ q => q, fun _ _ _ q => q, fun _ ps q => ⟨#[], by rw [q]; simp⟩⟩
theorem Un.refl : Un fs ex H H h h := Un.kept fun _ _ q => q
theorem Un.laid (k : ∀ b u, h.get? b = some u → h'.get? b = some u) (hp : h.objs.size ≤ a) (hn : H a = none) : Un fs ex H (upd H a o) h h' where
 keep := fun b u q _ _ _ => k b u q
 slot := fun b u q _ _ _ => ⟨u.slots, k b u q⟩
 free := fun b u q n _ => by rw [upd_ne (Nat.ne_of_lt (Nat.lt_of_lt_of_le (Heap.lt_size q) hp))]; exact n
 there := fun b u q _ => ⟨u, k b u q⟩
 tups := fun b xs q => by rw [upd_ne (ne_of_none q hn)]; exact q
 frzs := fun b u xs q => by rw [upd_ne (ne_of_none q hn)]; exact q
 tbls := fun b ps q => ⟨#[], by rw [upd_ne (ne_of_none q hn), q]; simp⟩
theorem Un.write (mu : Mut (H x)) (he : e = x ∨ H e = some (.own x)) (k : ∀ b u, b ≠ e → h.get? b = some u → h'.get? b = some u) (heo : ∃ u, h'.get? e = some u) : Un fs ex H (upd H x o) h h' := by
 have hx : ∀ b, H b = none → b ≠ x := fun b n z => by subst z; rw [n] at mu; exact mu
 have hb : ∀ b, H b = none → b ≠ e := fun b n z => by
  subst z
  rcases he with r | r
  ·exact hx b n r
  ·rw [n] at r; cases r
 have hm : ∀ b u, H b = some u → ¬ Mut (some u) → b ≠ x := fun b u q nm z => by subst z; rw [q] at mu; exact nm mu
 refine ⟨fun b u q n _ _ => k b u (hb b n) q, fun b u q n _ _ => ⟨u.slots, k b u (hb b n) q⟩, fun b u q n _ => by rw [upd_ne (hx b n)]; exact n, fun b u q _ => ?_,
  fun b xs q => by rw [upd_ne (hm b _ q fun z => z)]; exact q, fun b u xs q => by rw [upd_ne (hm b _ q fun z => z)]; exact q, fun b ps q => ⟨#[], by rw [upd_ne (hm b _ q fun z => z), q]; simp⟩⟩
 by_cases hbe : b = e
 ·subst hbe; exact heo
 ·exact ⟨u, k b u hbe q⟩
theorem Un.mono (u : Un fs ex H H1 h h1) (hs : ∀ b ∈ fs, b ∈ fs') (hx : ∀ b ∈ ex, b ∈ ex') : Un fs' ex' H H1 h h1 :=
 ⟨fun b ob q n hb he => u.keep b ob q n (fun z => hb (hs b z)) fun z => he (hx b z), fun _ _ q n _ he => u.any q n fun z => he (hx _ z), fun b ob q n he => u.free b ob q n fun z => he (hx b z), fun b ob q he => u.there b ob q fun z => he (hx b z), u.tups, u.frzs, u.tbls⟩
end
def trk (h : Heap) (H : Hp) : List Addr := (List.range h.objs.size).filter fun a => (H a).isSome
def hidT (h : Heap) (H : Hp) : Heap := PySem.W.hideAll h (trk h H)
theorem hidT_size (h : Heap) (H : Hp) : (hidT h H).objs.size = h.objs.size := PySem.W.hideAll_size _ _
theorem hidT_get {h : Heap} {H : Hp} {b : Addr} {o : Obj} (e : h.get? b = some o) (n : H b = none) : (hidT h H).get? b = some o :=
 PySem.W.hideAll_get _ e fun hm => by
  have q : (H b).isSome = true := (List.mem_filter.mp hm).2
  rw [n] at q; simp at q
theorem of_hidT {h : Heap} {H : Hp} {b : Addr} {o : Obj} (e : (hidT h H).get? b = some o) : h.get? b = some o ∧ H b = none := by
 have e' : h.get? b = some o := PySem.W.of_hideAll (trk h H) e
 refine ⟨e', ?_⟩
 cases q : H b with
 | none => rfl
 | some x =>
  have hm : b ∈ trk h H := List.mem_filter.mpr ⟨List.mem_range.mpr (Heap.lt_size e'), by simp [q]⟩
  have z : (hidT h H).get? b = none := PySem.W.hideAll_none (trk h H) hm
  rw [z] at e; cases e
def allNews (g h : Heap) (L : Addr) : List (Addr × Obj) := (List.range h.objs.size).filterMap fun a => if a = L ∨ (g.get? a).isSome = true then none else (h.get? a).map fun o => (a, o)
def rest (g h : Heap) (L d : Addr) : List (Addr × Obj) := (allNews g h L).filter fun p => decide (p.1 ≠ d)
end L2
namespace L2
open PySem PySem.Spec PyProof.Rows
structure Mod (K : Frag) (mg : Str → Option Value) (base : Heap) : Prop where
 kin : K.In base
 glob : base.Ns mainGlobals mg
 blt : ∃ mb, base.Ns builtinsNs mb ∧ ∀ x : Str, x ≠ "__name__" → mb x = bootBuiltins x
 nolimit : base.NoLimit
 seer : base.NoSeer
structure Cx where
 prog : Program
 w : World
 K : Frag
 mg : Str → Option Value
 base : Heap
 A : Around
 N : List Str
 s₀ : Shared
 H₀ : Hp
 env : Env
 outer : List Env
 stack : List Env
 ex : List Addr
 fn : Str → Bool
 calm : Bool
 pn : List (Addr × Obj)
 xe : Value → Shared → Prop
def frs (l : List Env) : List Addr := l.filterMap (·.frame)
abbrev Cx.fs (X : Cx) : List Addr := frs X.outer
def Vis (sc : Scope) (x : Str) : Prop := sc.names.lookup x = some .local ∨ sc.names.lookup x = some .cell ∨ sc.names.lookup x = some .free
def Loc (sc : Scope) (x : Str) : Prop := sc.names.lookup x = some .local ∨ sc.names.lookup x = some .cell
def Look (env : Env) (h : Heap) (m : Str → Option Value) (x : Str) (u : Value) : Prop :=
 (env.kindOf x = some .local ∧ m x = some u) ∨ ((env.kindOf x = some .cell ∨ env.kindOf x = some .free) ∧ ∃ c, env.cells.lookup x = some c ∧ h.IsCell c (some u))
structure Cx.Ok (X : Cx) : Prop where
 mod : Mod X.K X.mg X.base
 kind : X.env.scope.kind = .function
 glob : X.env.globals = mainGlobals
 blt : X.env.builtins = builtinsNs
 above : X.s₀.heap.objs.size ≤ X.env.locals
 inj : ∀ x y c, X.env.cells.lookup x = some c → X.env.cells.lookup y = some c → x = y
 has : ∀ x, (X.env.kindOf x = some .cell ∨ X.env.kindOf x = some .free) → ∃ c, X.env.cells.lookup x = some c
 cab : ∀ x c, X.fn x = true → X.env.cells.lookup x = some c → X.s₀.heap.objs.size ≤ c
 hd : X.calm = true → X.A.handled = none
 frames : X.A.frames = some X.stack
 stk : X.stack = X.outer ∨ (X.stack = X.env :: X.outer ∧ X.env.frame = some X.env.locals)
 exf : ∀ b ∈ X.ex, b ≠ X.env.locals ∧ ∀ x c, X.env.cells.lookup x = some c → c ≠ b
 bs : ∀ b o, X.base.get? b = some o → X.s₀.heap.get? b = some o ∧ X.H₀ b = none
 bsz : X.base.objs.size ≤ X.s₀.heap.objs.size
 noex : ∀ b o, X.base.get? b = some o → b ∉ X.ex
 exfs : ∀ b ∈ X.ex, b ∉ X.fs
 funs : X.s₀.heap.FunFrames X.base X.outer
 frf : ∀ b ∈ X.fs, X.H₀ b = none
structure Inv (X : Cx) (pins : List (Addr × Obj)) (σ : List (Option V)) (H : Hp) (s : Shared) : Prop where
 ok : X.Ok
 os : s.os = X.s₀.os
 bare : AllBare s.gens
 base : Un X.fs X.ex X.H₀ H X.s₀.heap s.heap
 loc : ∃ m, s.heap.Ns X.env.locals m ∧ ∀ (i : Nat) (x : Str) (v : V), X.N[i]? = some x → σ[i]? = some (some v) → Vis X.env.scope x → ∃ u, RelV v u ∧ Look X.env s.heap m x u
 cell : ∀ x c, X.env.cells.lookup x = some c → ∃ v, s.heap.IsCell c v
 free : H X.env.locals = none
 freeC : ∀ x c, X.env.cells.lookup x = some c → H c = none
 pin : ∀ p ∈ X.pn ++ pins, s.heap.get? p.1 = some p.2 ∧ H p.1 = none ∧ p.1 ≠ X.env.locals ∧ p.1 ∉ X.fs ∧ ∀ v, p.2.data ≠ .cell v
 hok : HOk X.prog X.w H s.heap
 len : σ.length = X.N.length
section
variable {X : Cx} {pins : List (Addr × Obj)} {σ : List (Option V)} {H H' : Hp} {s : Shared} {h' : Heap}
theorem Cx.Ok.nofr (ok : X.Ok) {b : Addr} {o : Obj} (e : X.base.get? b = some o) : b ∉ X.fs := fun hb => by
 have := (ok.funs.mem hb).1
 rw [e] at this; cases this
theorem Inv.bs (I : Inv X pins σ H s) : ∀ b o, X.base.get? b = some o → s.heap.get? b = some o ∧ H b = none := fun b o e =>
 ⟨I.base.keep b o (I.ok.bs b o e).1 (I.ok.bs b o e).2 (I.ok.nofr e) (I.ok.noex b o e), I.base.free b o (I.ok.bs b o e).1 (I.ok.bs b o e).2 (I.ok.noex b o e)⟩
theorem Inv.bk (I : Inv X pins σ H s) : ∀ b o, X.base.get? b = some o → s.heap.get? b = some o := fun b o e => (I.bs b o e).1
theorem Inv.mod (I : Inv X pins σ H s) : Mod X.K X.mg X.base := I.ok.mod
theorem Inv.kIn (I : Inv X pins σ H s) : X.K.In s.heap := I.ok.mod.kin.keeps I.bk
theorem Inv.nolimit (I : Inv X pins σ H s) : s.heap.NoLimit := I.ok.mod.nolimit.keeps I.bk
theorem Inv.lt (I : Inv X pins σ H s) : X.env.locals < s.heap.objs.size := let ⟨_, hn, _⟩ := I.loc; hn.lt
theorem Inv.sz (I : Inv X pins σ H s) : X.s₀.heap.objs.size ≤ s.heap.objs.size := Nat.le_trans I.ok.above (Nat.le_of_lt I.lt)
theorem Inv.nofs (I : Inv X pins σ H s) {a : Addr} (h : s.heap.objs.size ≤ a) : a ∉ X.fs := fun hb => by
 obtain ⟨_, o, ho, _⟩ := I.ok.funs.mem hb
 exact absurd (Nat.lt_of_lt_of_le (Heap.lt_size ho) (Nat.le_trans I.sz h)) (Nat.lt_irrefl _)
theorem Inv.cne (I : Inv X pins σ H s) : ∀ x c, X.env.cells.lookup x = some c → c ≠ X.env.locals := fun x c e z => by
 obtain ⟨v, o, ho, hd⟩ := I.cell x c e
 obtain ⟨m, ⟨o', es, ep, ho', hd', _⟩, _⟩ := I.loc
 rw [z, ho'] at ho; cases ho; rw [hd'] at hd; cases hd
theorem Inv.funs (I : Inv X pins σ H s) : s.heap.FunFrames X.base X.outer := by
 have all : ∀ (l : List Env), (∀ b ∈ frs l, b ∈ X.fs) → X.s₀.heap.FunFrames X.base l → s.heap.FunFrames X.base l := by
  intro l
  induction l with
  | nil => intro _ _; trivial
  | cons env r ih =>
   intro hs hl
   obtain ⟨hk, ⟨L, o, hf, hn, ho, hd⟩, hr⟩ := hl
   have hL : L ∈ X.fs := hs L (by unfold frs; rw [List.filterMap_cons, hf]; exact List.mem_cons_self)
   obtain ⟨sl, e⟩ := I.base.slot L o ho (I.ok.frf L hL) hL fun z => I.ok.exfs L z hL
   exact ⟨hk, ⟨L, _, hf, hn, e, hd⟩, ih (fun b hb => hs b (by unfold frs; rw [List.filterMap_cons, hf]; exact List.mem_cons_of_mem _ hb)) hr⟩
 exact all X.outer (fun _ hb => hb) I.ok.funs
theorem Inv.stack (I : Inv X pins σ H s) : s.heap.FunFrames X.base X.stack := by
 rcases I.ok.stk with e | ⟨e, hf⟩
 ·rw [e]; exact I.funs
 ·rw [e]
  obtain ⟨m, hn, _⟩ := I.loc
  refine .cons (by rw [I.ok.kind]; decide) hf hn ?_ I.funs
  exact Heap.get?_none_of_le (Nat.le_trans I.ok.bsz I.ok.above)
theorem Inv.stkSub (I : Inv X pins σ H s) : ∀ b ∈ frs X.stack, b ∈ X.env.locals :: X.fs := fun b hb => by
 rcases I.ok.stk with e | ⟨e, hf⟩
 ·rw [e] at hb; exact List.mem_cons_of_mem _ hb
 ·rw [e] at hb
  unfold frs at hb
  rw [List.filterMap_cons, hf] at hb
  exact hb
theorem Inv.stkFree (I : Inv X pins σ H s) : ∀ b ∈ frs X.stack, H b = none := fun b hb => by
 rcases List.mem_cons.mp (I.stkSub b hb) with e | hb
 ·rw [e]; exact I.free
 ·obtain ⟨_, o, ho, _⟩ := I.ok.funs.mem hb
  exact I.base.free b o ho (I.ok.frf b hb) fun z => I.ok.exfs b z hb
theorem Inv.step {g' : Array GenState} {t' : Nat} {d' : Drawn} {ch : List Addr} (I : Inv X pins σ H s)
  (hch : ∀ b ∈ ch, (b ∈ X.ex ∨ X.s₀.heap.objs.size ≤ b) ∧ b ≠ X.env.locals ∧ (∀ x c, X.env.cells.lookup x = some c → c ≠ b) ∧ ∀ p ∈ X.pn ++ pins, p.1 ≠ b)
  (keep : ∀ b o, b ≠ X.env.locals → b ∉ X.fs → b ∉ ch → s.heap.get? b = some o → H b = none → h'.get? b = some o)
  (slot : ∀ b o, b ≠ X.env.locals → b ∈ X.fs → b ∉ ch → s.heap.get? b = some o → H b = none → ∃ sl, h'.get? b = some { o with slots := sl }) (free : ∀ b o, b ∉ ch → s.heap.get? b = some o → H b = none → H' b = none)
  (there : ∀ b o, b ∉ ch → s.heap.get? b = some o → ∃ o', h'.get? b = some o')
  (tups : ∀ b xs, H b = some (.tup xs) → H' b = some (.tup xs)) (frzs : ∀ b o u, H b = some (.frz o u) → H' b = some (.frz o u)) (tbls : ∀ b ps, H b = some (.tbl ps) → ∃ more, H' b = some (.tbl (ps ++ more)))
  (ns : ∀ m, s.heap.Ns X.env.locals m → h'.Ns X.env.locals m) (hok : HOk X.prog X.w H' h') (hg : AllBare g') :
  Inv X pins σ H' { s with heap := h', gens := g', drawn := d', toks := t' } := by
 have neL : ∀ b o, X.s₀.heap.get? b = some o → b ≠ X.env.locals := fun b o e => Nat.ne_of_lt (Nat.lt_of_lt_of_le (Heap.lt_size e) I.ok.above)
 have neC : ∀ b o, X.s₀.heap.get? b = some o → b ∉ X.ex → b ∉ ch := fun b o e hx hb => by
  rcases (hch b hb).1 with z | z
  ·exact hx z
  ·exact absurd (Nat.lt_of_lt_of_le (Heap.lt_size e) z) (Nat.lt_irrefl _)
 have cellK : ∀ x c, X.env.cells.lookup x = some c → ∀ v, s.heap.IsCell c v → h'.IsCell c v := fun x c e v ⟨o, ho, hd⟩ => by
  have nch : c ∉ ch := fun z => (hch c z).2.2.1 x c e rfl
  by_cases hc : c ∈ X.fs
  ·obtain ⟨sl, q⟩ := slot c o (I.cne x c e) hc nch ho (I.freeC x c e)
   exact ⟨_, q, hd⟩
  ·exact ⟨o, keep c o (I.cne x c e) hc nch ho (I.freeC x c e), hd⟩
 refine ⟨I.ok, I.os, hg, ⟨fun b o e n hb hx => ?_, fun b o e n hb hx => ?_, fun b o e n hx => ?_, fun b o e hx => ?_, fun b xs e => tups b xs (I.base.tups b xs e), fun b o xs e => frzs b o xs (I.base.frzs b o xs e), fun b ps e => ?_⟩, ?_, fun x c e => ?_, ?_, fun x c e => ?_, fun p hp => ?_, hok, I.len⟩
 ·exact keep b o (neL b o e) hb (neC b o e hx) (I.base.keep b o e n hb hx) (I.base.free b o e n hx)
 ·obtain ⟨sl, e1⟩ := I.base.slot b o e n hb hx
  obtain ⟨sl', e2⟩ := slot b _ (neL b o e) hb (neC b o e hx) e1 (I.base.free b o e n hx)
  exact ⟨sl', e2⟩
 ·obtain ⟨o', e1⟩ := I.base.there b o e hx
  exact free b o' (neC b o e hx) e1 (I.base.free b o e n hx)
 ·obtain ⟨o', e1⟩ := I.base.there b o e hx
  exact there b o' (neC b o e hx) e1
 ·obtain ⟨m1, e1⟩ := I.base.tbls b ps e
  obtain ⟨m2, e2⟩ := tbls b _ e1
  exact ⟨m1 ++ m2, by rw [e2, Array.append_assoc]⟩
 ·obtain ⟨m, hn, hl⟩ := I.loc
  refine ⟨m, ns m hn, fun i x v e1 e2 e3 => ?_⟩
  obtain ⟨u, r, l⟩ := hl i x v e1 e2 e3
  refine ⟨u, r, ?_⟩
  rcases l with l | ⟨k, c, e, z⟩
  ·exact .inl l
  ·exact .inr ⟨k, c, e, cellK x c e _ z⟩
 ·obtain ⟨v, z⟩ := I.cell x c e
  exact ⟨v, cellK x c e v z⟩
 ·obtain ⟨m, ⟨o, _, _, ho, _⟩, _⟩ := I.loc
  exact free _ o (fun z => (hch _ z).2.1 rfl) ho I.free
 ·obtain ⟨v, o, ho, hd⟩ := I.cell x c e
  exact free c o (fun z => (hch c z).2.2.1 x c e rfl) ho (I.freeC x c e)
 ·obtain ⟨e, n, ne, nf, d⟩ := I.pin p hp
  have nch : p.1 ∉ ch := fun z => (hch p.1 z).2.2.2 p hp rfl
  exact ⟨keep p.1 p.2 ne nf nch e n, free p.1 p.2 nch e n, ne, nf, d⟩
theorem Inv.un {t' : Nat} (I : Inv X pins σ H s) (u : Un X.fs [] H H' s.heap h') (hok : HOk X.prog X.w H' h') : Inv X pins σ H' { s with heap := h', toks := t' } := by
 obtain ⟨m, ⟨o, es, ep, ho, r⟩, _⟩ := id I.loc
 obtain ⟨sl, hL⟩ := u.any ho I.free (by simp)
 exact I.step (g' := s.gens) (d' := s.drawn) (ch := []) (fun _ z => nomatch z) (fun b o _ hb _ e n => u.keep b o e n hb (by simp)) (fun b o _ hb _ e n => u.slot b o e n hb (by simp)) (fun b o _ e n => u.free b o e n (by simp)) (fun b o _ e => u.there b o e (by simp)) u.tups u.frzs u.tbls (fun m' hm => by
  obtain ⟨o', es', ep', ho', r'⟩ := hm
  rw [ho] at ho'; cases ho'
  exact ⟨_, es', ep', hL, r'⟩) hok I.bare
theorem Inv.call {g' : Array GenState} {t' : Nat} {d' : Drawn} {ch : List Addr} (I : Inv X pins σ H s) (u : Un (frs X.stack) ch H H' s.heap h') (hok : HOk X.prog X.w H' h') (hg : AllBare g')
  (hch : ∀ b ∈ ch, (b ∈ X.ex ∨ X.s₀.heap.objs.size ≤ b) ∧ b ≠ X.env.locals ∧ (∀ x c, X.env.cells.lookup x = some c → c ≠ b) ∧ ∀ p ∈ X.pn ++ pins, p.1 ≠ b) :
  Inv X pins σ H' { s with heap := h', gens := g', drawn := d', toks := t' } := by
 obtain ⟨m, ⟨o, es, ep, ho, r⟩, _⟩ := id I.loc
 obtain ⟨sl, hL⟩ := u.any ho I.free fun z => (hch _ z).2.1 rfl
 exact I.step (ch := ch) hch (fun b o hL hb hc e n => u.keep b o e n (fun z => (List.mem_cons.mp (I.stkSub b z)).elim hL hb) hc) (fun b o _ _ hc e n => u.any e n hc) (fun b o hc e n => u.free b o e n hc) (fun b o hc e => u.there b o e hc) u.tups u.frzs u.tbls (fun m' hm => by
  obtain ⟨o', es', ep', ho', r'⟩ := hm
  rw [ho] at ho'; cases ho'
  exact ⟨_, es', ep', hL, r'⟩) hok hg
theorem Inv.turned {t' : Nat} {it : Addr} (I : Inv X pins σ H s) (k : ∀ b o, b ≠ it → s.heap.get? b = some o → h'.get? b = some o) (hn : H it = none) (hL : it ≠ X.env.locals)
  (h1 : it ∈ X.ex ∨ X.s₀.heap.objs.size ≤ it) (h2 : ∀ x c, X.env.cells.lookup x = some c → c ≠ it) (h3 : ∀ p ∈ X.pn ++ pins, p.1 ≠ it) : Inv X pins σ H { s with heap := h', toks := t' } := by
 have nit : ∀ b u, H b = some u → b ≠ it := fun b u e z => by rw [z, hn] at e; cases e
 refine I.step (g' := s.gens) (d' := s.drawn) (ch := [it]) (fun b hb => ?_) (fun b o _ _ hc e _ => k b o (fun z => hc (by simp [z])) e) (fun b o _ _ hc e _ => ⟨o.slots, k b o (fun z => hc (by simp [z])) e⟩) (fun _ _ _ _ n => n)
  (fun b o hc e => ⟨o, k b o (fun z => hc (by simp [z])) e⟩) (fun _ _ e => e) (fun _ _ _ e => e) (fun b ps e => ⟨#[], by rw [e]; simp⟩) (fun m hm => ?_) (fun b u e => ?_) I.bare
 ·have e : b = it := by simpa using hb
  subst e
  exact ⟨h1, hL, h2, h3⟩
 ·obtain ⟨o, es, ep, ho, r⟩ := hm
  exact ⟨o, es, ep, k _ o (Ne.symm hL) ho, r⟩
 ·refine (I.hok b u e).stay (fun c v hc q => k c v ?_ q) (fun _ q => q) fun _ _ q => q
  rcases hc with z | z
  ·rw [z]; exact nit b u e
  ·exact nit c _ z
theorem Inv.tok (I : Inv X pins σ H s) (t : Nat) : Inv X pins σ H { s with toks := t } := I.un (h' := s.heap) (t' := t) Un.refl I.hok
theorem Inv.kept {t' : Nat} (I : Inv X pins σ H s) (k : ∀ b u, s.heap.get? b = some u → h'.get? b = some u) : Inv X pins σ H { s with heap := h', toks := t' } := I.un (Un.kept k) (I.hok.kept k)
theorem Inv.laid {a : Addr} {o : HO} {t' : Nat} (I : Inv X pins σ H s) (k : ∀ b u, s.heap.get? b = some u → h'.get? b = some u) (hp : s.heap.objs.size ≤ a) (new : ObjOk X.prog X.w (upd H a o) h' a o) :
  Inv X pins σ (upd H a o) { s with heap := h', toks := t' } := I.un (Un.laid k hp (I.hok.fresh hp)) (I.hok.laid k hp new)
theorem Inv.write {x e : Addr} {o : HO} {t' : Nat} (I : Inv X pins σ H s) (mu : Mut (H x)) (he : e = x ∨ H e = some (.own x)) (k : ∀ b u, b ≠ e → s.heap.get? b = some u → h'.get? b = some u) (heo : ∃ u, h'.get? e = some u)
  (new : ObjOk X.prog X.w (upd H x o) h' x o) : Inv X pins σ (upd H x o) { s with heap := h', toks := t' } := I.un (Un.write mu he k heo) (I.hok.write mu he k heo new)
theorem Inv.pins_of {pins' : List (Addr × Obj)} (I : Inv X pins σ H s) (h : ∀ p ∈ pins', s.heap.get? p.1 = some p.2 ∧ H p.1 = none ∧ p.1 ≠ X.env.locals ∧ p.1 ∉ X.fs ∧ ∀ v, p.2.data ≠ .cell v) : Inv X pins' σ H s :=
 ⟨I.ok, I.os, I.bare, I.base, I.loc, I.cell, I.free, I.freeC, fun p hp => (List.mem_append.mp hp).elim (fun z => I.pin p (List.mem_append_left _ z)) (h p), I.hok, I.len⟩
theorem nodup_ix {N : List Str} (hN : N.Nodup) {i j : Nat} {x : Str} (a : N[i]? = some x) (b : N[j]? = some x) : i = j := by
 obtain ⟨h1, e1⟩ := List.getElem?_eq_some_iff.mp a
 obtain ⟨h2, e2⟩ := List.getElem?_eq_some_iff.mp b
 exact (List.getElem_inj hN).mp (e1.trans e2.symm)
theorem store_ok2 {M : Model} {A : Around} {E : Value → Shared → Prop} {i : Nat} {x : Str} {v : V} {u : Value} {Q : Unit → Shared → Prop} (I : Inv X pins σ H s) (hN : X.N.Nodup) (hi : X.N[i]? = some x) (hx : Loc X.env.scope x) (r : RelV v u)
  (h : ∀ s', Inv X pins (σ.set i (some v)) H s' → (∃ a, Heap.SameBut a s.heap s'.heap ∧ (a = X.env.locals ∨ X.env.cells.lookup x = some a)) → Q () s') (hf : X.fn x = true ∨ X.env.scope.names.lookup x = some .local := by first | exact .inl rfl | exact .inr rfl | assumption) : wpAny M A (storeName X.env x u) Q E s := by
 obtain ⟨m, hn, hl⟩ := id I.loc
 have hcls : (X.env.scope.kind == .class || (X.env.scope.kind == .module && X.env.locals != X.env.globals)) = false := by rw [I.ok.kind]; rfl
 have hiσ : i < σ.length := by rw [I.len]; exact (List.getElem?_eq_some_iff.mp hi).1
 have cne := I.cne
 have tracked : ∀ {a : Addr} {h' : Heap}, (∃ o, s.heap.get? a = some o ∧ H a = none) → Heap.SameBut a s.heap h' → HOk X.prog X.w H h' := fun {a h'} ha hs b ob e => by
  obtain ⟨_, _, hfree⟩ := ha
  refine (I.hok b ob e).stay (fun c w' hc q => (hs.2 c ?_).trans q) (fun _ q => q) fun _ _ q => q
  rintro rfl
  rcases hc with rfl | hc
  ·rw [hfree] at e; cases e
  ·rw [hfree] at hc; cases hc
 rcases hx with hk | hk
 ·refine wpAny_storeName_local hk hn (fun h' hn' hs => ?_) hcls
  obtain ⟨oL, _, _, hoL, _⟩ := id hn
  refine h _ ⟨I.ok, I.os, I.bare, ⟨fun b o e n hb hx => ?_, fun b o e n hb hx => ?_, I.base.free, fun b o e hx => ?_, I.base.tups, I.base.frzs, I.base.tbls⟩, ⟨_, hn', fun j y v' e1 e2 e3 => ?_⟩, fun y c e => ?_, I.free, I.freeC, fun p hp => ?_, tracked ⟨oL, hoL, I.free⟩ hs, by simpa using I.len⟩ ⟨_, hs, .inl rfl⟩
  ·exact (hs.2 b (Nat.ne_of_lt (Nat.lt_of_lt_of_le (Heap.lt_size e) I.ok.above))).trans (I.base.keep b o e n hb hx)
  ·obtain ⟨sl, e1⟩ := I.base.slot b o e n hb hx
   exact ⟨sl, (hs.2 b (Nat.ne_of_lt (Nat.lt_of_lt_of_le (Heap.lt_size e) I.ok.above))).trans e1⟩
  ·obtain ⟨o', e1⟩ := I.base.there b o e hx
   exact ⟨o', (hs.2 b (Nat.ne_of_lt (Nat.lt_of_lt_of_le (Heap.lt_size e) I.ok.above))).trans e1⟩
  ·by_cases hj : j = i
   ·subst hj
    rw [hi] at e1; cases e1
    rw [List.getElem?_set_self hiσ] at e2
    cases e2
    exact ⟨u, r, .inl ⟨hk, by simp⟩⟩
   ·rw [List.getElem?_set_ne (Ne.symm hj)] at e2
    obtain ⟨u', r', q⟩ := hl j y v' e1 e2 e3
    refine ⟨u', r', ?_⟩
    rcases q with ⟨k, e⟩ | ⟨k, c, e, z⟩
    ·refine .inl ⟨k, ?_⟩
     have : y ≠ x := fun e => hj (nodup_ix hN e1 (e ▸ hi))
     simp [this, e]
    ·exact .inr ⟨k, c, e, z.sameBut hs (cne y c e)⟩
  ·obtain ⟨w', z⟩ := I.cell y c e
   exact ⟨w', z.sameBut hs (cne y c e)⟩
  ·obtain ⟨e, n, ne, nf, d⟩ := I.pin p hp
   exact ⟨(hs.2 p.1 ne).trans e, n, ne, nf, d⟩
 ·have hfn : X.fn x = true := by
   rcases hf with z | z
   ·exact z
   ·rw [z] at hk; cases hk
  obtain ⟨c, hc⟩ := I.ok.has x (.inl hk)
  obtain ⟨w', z⟩ := I.cell x c hc
  refine wpAny_storeName_cell I.ok.kind hk hc z (fun h' hc' hs => ?_)
  obtain ⟨oc, hoc, hocd⟩ := id z
  refine h { s with heap := h' } ⟨I.ok, I.os, I.bare, ⟨fun b o e n hb hx => ?_, fun b o e n hb hx => ?_, I.base.free, fun b o e hx => ?_, I.base.tups, I.base.frzs, I.base.tbls⟩, ⟨m, hn.sameBut hs (Ne.symm (cne x c hc)), fun j y v' e1 e2 e3 => ?_⟩, fun y c' e => ?_, I.free, I.freeC, fun p hp => ?_, tracked ⟨oc, hoc, I.freeC x c hc⟩ hs, by simpa using I.len⟩ ⟨c, hs, .inr hc⟩
  ·exact (hs.2 b (Nat.ne_of_lt (Nat.lt_of_lt_of_le (Heap.lt_size e) (I.ok.cab x c hfn hc)))).trans (I.base.keep b o e n hb hx)
  ·obtain ⟨sl, e1⟩ := I.base.slot b o e n hb hx
   exact ⟨sl, (hs.2 b (Nat.ne_of_lt (Nat.lt_of_lt_of_le (Heap.lt_size e) (I.ok.cab x c hfn hc)))).trans e1⟩
  ·obtain ⟨o', e1⟩ := I.base.there b o e hx
   exact ⟨o', (hs.2 b (Nat.ne_of_lt (Nat.lt_of_lt_of_le (Heap.lt_size e) (I.ok.cab x c hfn hc)))).trans e1⟩
  ·by_cases hj : j = i
   ·subst hj
    rw [hi] at e1; cases e1
    rw [List.getElem?_set_self hiσ] at e2
    cases e2
    exact ⟨u, r, .inr ⟨.inl hk, c, hc, hc'⟩⟩
   ·rw [List.getElem?_set_ne (Ne.symm hj)] at e2
    obtain ⟨u', r', q⟩ := hl j y v' e1 e2 e3
    refine ⟨u', r', ?_⟩
    rcases q with q | ⟨k, c', e, z'⟩
    ·exact .inl q
    ·refine .inr ⟨k, c', e, z'.sameBut hs ?_⟩
     rintro rfl
     exact hj (nodup_ix hN e1 (I.ok.inj _ _ _ e hc ▸ hi))
  ·by_cases hcc : c' = c
   ·subst hcc; exact ⟨_, hc'⟩
   ·obtain ⟨w2, z2⟩ := I.cell y c' e
    exact ⟨w2, z2.sameBut hs hcc⟩
  ·obtain ⟨e, n, ne, nf, d⟩ := I.pin p hp
   refine ⟨(hs.2 p.1 ?_).trans e, n, ne, nf, d⟩
   intro q
   rw [q, hoc] at e
   have q' : oc = p.2 := Option.some.inj e
   exact d w' (by rw [← q']; exact hocd)
theorem store_ok {M : Model} {A : Around} {E : Value → Shared → Prop} {i : Nat} {x : Str} {v : V} {u : Value} {Q : Unit → Shared → Prop} (I : Inv X pins σ H s) (hN : X.N.Nodup) (hi : X.N[i]? = some x) (hx : Loc X.env.scope x) (r : RelV v u)
  (h : ∀ s', Inv X pins (σ.set i (some v)) H s' → Q () s') (hf : X.fn x = true ∨ X.env.scope.names.lookup x = some .local := by first | exact .inl rfl | exact .inr rfl | assumption) : wpAny M A (storeName X.env x u) Q E s :=
 store_ok2 I hN hi hx r (fun s' I' _ => h s' I') hf
theorem Inv.call' {s' : Shared} {ch : List Addr} (I : Inv X pins σ H s) (ho : s'.os = s.os) (u : Un (frs X.stack) ch H H' s.heap s'.heap) (hok : HOk X.prog X.w H' s'.heap) (hg : AllBare s'.gens)
  (hch : ∀ b ∈ ch, (b ∈ X.ex ∨ X.s₀.heap.objs.size ≤ b) ∧ b ≠ X.env.locals ∧ (∀ x c, X.env.cells.lookup x = some c → c ≠ b) ∧ ∀ p ∈ X.pn ++ pins, p.1 ≠ b) : Inv X pins σ H' s' := by
 obtain ⟨h', g', d', t', o'⟩ := s'
 have e : o' = s.os := ho
 subst e
 exact I.call (g' := g') (t' := t') (d' := d') u hok hg hch
end
abbrev XK := Value → Option Addr → Hp → Prop
abbrev St := List (Option V)
abbrev VK := V → Hp → Prop
abbrev TE := St → Hp → VK → Prop
abbrev TT := St → Hp → (Bool → Hp → Prop) → Prop
abbrev TA := St → Hp → (List V → Hp → Prop) → Prop
structure Ends where
 nx : St → Hp → Prop
 rt : VK
 bk : St → Hp → Prop := fun _ _ => False
 ct : St → Hp → Prop := fun _ _ => False
abbrev TS := Ends → St → Hp → Prop
def EP (X : Cx) (pins : List (Addr × Obj)) (σ : St) (Q : VK) (u : Value) (s' : Shared) : Prop := ∃ v H', Inv X pins σ H' s' ∧ RelV v u ∧ Q v H'
def TP (X : Cx) (pins : List (Addr × Obj)) (σ : St) (Q : Bool → Hp → Prop) (b : Bool) (s' : Shared) : Prop := ∃ H', Inv X pins σ H' s' ∧ Q b H'
def AP (X : Cx) (pins : List (Addr × Obj)) (σ : St) (Q : List V → Hp → Prop) (us : List Value) (s' : Shared) : Prop := ∃ vs H', Inv X pins σ H' s' ∧ Vals vs us ∧ Q vs H'
def SP (X : Cx) (pins : List (Addr × Obj)) (D : Ends) (f : Flow) (s' : Shared) : Prop :=
 match f with
 | .next => ∃ σ' H', Inv X pins σ' H' s' ∧ D.nx σ' H'
 | .brk => ∃ σ' H', Inv X pins σ' H' s' ∧ D.bk σ' H'
 | .cont => ∃ σ' H', Inv X pins σ' H' s' ∧ D.ct σ' H'
 | .ret u => ∃ v σ' H', Inv X pins σ' H' s' ∧ RelV v u ∧ D.rt v H'
def PE (X : Cx) (e : Expr) (t : TE) : Prop :=
 ∀ (pins : List (Addr × Obj)) (s : Shared) (σ : St) (H : Hp) (Q : VK), Inv X pins σ H s → t σ H Q → wpAny (model X.prog X.w) X.A (eval e X.env) (EP X pins σ Q) X.xe s
def PT (X : Cx) (e : Expr) (t : TT) : Prop :=
 ∀ (pins : List (Addr × Obj)) (s : Shared) (σ : St) (H : Hp) (Q : Bool → Hp → Prop), Inv X pins σ H s → t σ H Q → wpAny (model X.prog X.w) X.A (isTrue e X.env (eval e X.env)) (TP X pins σ Q) X.xe s
def PW (X : Cx) (e : Expr) (t : TT) : Prop :=
 ∀ (whole : Sem Value) (pins : List (Addr × Obj)) (s : Shared) (σ : St) (H : Hp) (Q : Bool → Hp → Prop), Inv X pins σ H s → t σ H Q → wpAny (model X.prog X.w) X.A (isTrue e X.env whole) (TP X pins σ Q) X.xe s
theorem PW.pt {X : Cx} {e : Expr} {t : TT} (h : PW X e t) : PT X e t := h _
def PA (X : Cx) (es : List Expr) (t : TA) : Prop :=
 ∀ (pos : Pos) (pins : List (Addr × Obj)) (s : Shared) (σ : St) (H : Hp) (Q : List V → Hp → Prop), Inv X pins σ H s → t σ H Q → wpAny (model X.prog X.w) X.A (spliced (backTo pos (starEach es X.env))) (AP X pins σ Q) X.xe s
def PS (X : Cx) (st : Stmt) (t : TS) : Prop :=
 ∀ (pins : List (Addr × Obj)) (s : Shared) (σ : St) (H : Hp) (D : Ends), Inv X pins σ H s → t D σ H → wpAny (model X.prog X.w) X.A (exec st X.env) (SP X pins D) X.xe s
def PSs (X : Cx) (st : List Stmt) (t : TS) : Prop :=
 ∀ (pins : List (Addr × Obj)) (s : Shared) (σ : St) (H : Hp) (D : Ends), Inv X pins σ H s → t D σ H → wpAny (model X.prog X.w) X.A (execs st X.env) (SP X pins D) X.xe s
theorem thn {α : Type} {t : Sem α} {Q Q' : α → Shared → Prop} {M : Model} {A : Around} {E : Value → Shared → Prop} {s : Shared} (h : wpAny M A t Q E s) (hQ : ∀ a s, Q a s → Q' a s) : wpAny M A t Q' E s := wpAny_mono h hQ fun _ _ x => x
end L2
namespace L2
open PySem PySem.Spec PyProof.Rows
section
variable {X : Cx}
def tVar (i : Nat) : TE := fun σ H Q => ∃ v, σ[i]? = some (some v) ∧ Q v H
def tC (v : V) : TE := fun _ H Q => Q v H
theorem pe_var {i : Nat} {x : Str} {pos : Pos} (hN : X.N[i]? = some x) (hv : Vis X.env.scope x) (hd : (x == ("__debug__" : Str)) = false := by decide) (hcd : (x == ("__classdict__" : Str)) = false := by decide) : PE X (.Name x pos) (tVar i) := by
 intro pins s σ H Q I h
 obtain ⟨v, e, h⟩ := h
 obtain ⟨m, hn, hl⟩ := I.loc
 obtain ⟨u, r, l⟩ := hl i x v hN e hv
 have fin : EP X pins σ Q u s := ⟨v, H, I, r, h⟩
 rcases l with ⟨hk, hm⟩ | ⟨hk, c, hc, hcell⟩
 ·exact wpAny_Name (wpAny_loadName_local I.ok.kind hk hn hm fin) hd
 ·rcases hk with hk | hk
  ·exact wpAny_Name (wpAny_loadName_cell I.ok.kind hk hc hcell fin) hd
  ·exact wpAny_Name (wpAny_loadName_free I.ok.kind hk hc hcell fin hcd) hd
theorem pe_int {i j pos} : PE X (.Constant (.int i) j pos) (tC (.int i)) := fun _ _ _ H _ I h => wpAny_Constant_int ⟨.int i, H, I.tok _, ⟨_, rfl⟩, h⟩
theorem pe_bl {b j pos} : PE X (.Constant (.bool b) j pos) (tC (.bl b)) := fun _ _ _ H _ I h => Constant_bool ⟨.bl b, H, I, rfl, h⟩
theorem pe_non {j pos} : PE X (.Constant .none j pos) (tC .non) := fun _ _ _ H _ I h => Constant_none ⟨.non, H, I, rfl, h⟩
theorem pe_str {x j pos} : PE X (.Constant (.str x) j pos) (tC (.str x)) := fun _ _ _ H _ I h => Calls.Constant_str ⟨.str x, H, I.tok _, ⟨_, rfl⟩, h⟩
def Gl (X : Cx) (x : Str) : Prop := X.env.kindOf x = some .globalImplicit
theorem ld_glob {E : Value → Shared → Prop} {pins : List (Addr × Obj)} {s : Shared} {σ : St} {H : Hp} {x : Str} {u : Value} {pos : Pos} {Q : Value → Shared → Prop} (I : Inv X pins σ H s) (hg : Gl X x) (hm : X.mg x = some u) (h : Q u s)
  (hd : (x == ("__debug__" : Str)) = false := by decide) : wpAny (model X.prog X.w) X.A (eval (.Name x pos) X.env) Q E s :=
 Calls.Name_function_global I.ok.kind hg (Calls.loadGlobal_global (by rw [I.ok.glob]; exact I.mod.glob.keeps I.bk) hm h) hd
theorem ld_blt {E : Value → Shared → Prop} {pins : List (Addr × Obj)} {s : Shared} {σ : St} {H : Hp} {x : Str} {u : Value} {pos : Pos} {Q : Value → Shared → Prop} (I : Inv X pins σ H s) (hg : Gl X x) (hm : X.mg x = none) (hv : bootBuiltins x = some u) (h : Q u s)
  (hn : x ≠ "__name__" := by decide) (hd : (x == ("__debug__" : Str)) = false := by decide) : wpAny (model X.prog X.w) X.A (eval (.Name x pos) X.env) Q E s := by
 obtain ⟨mb, h1, h2⟩ := I.mod.blt
 exact Calls.Name_function_global I.ok.kind hg (Calls.loadGlobal_builtin (by rw [I.ok.glob]; exact I.mod.glob.keeps I.bk) hm (by rw [I.ok.blt]; exact h1.keeps I.bk) ((h2 x hn).trans hv) h) hd
theorem pe_glob {x : Str} {v : V} {u : Value} {pos : Pos} (hg : Gl X x) (hm : X.mg x = some u) (r : RelV v u) (hd : (x == ("__debug__" : Str)) = false := by decide) : PE X (.Name x pos) (tC v) :=
 fun _ _ _ H _ I h => ld_glob I hg hm ⟨v, H, I, r, h⟩ hd
theorem pe_bltn {x : Str} {v : V} {u : Value} {pos : Pos} (hg : Gl X x) (hm : X.mg x = none) (hv : bootBuiltins x = some u) (r : RelV v u) (hn : x ≠ "__name__" := by decide) (hd : (x == ("__debug__" : Str)) = false := by decide) : PE X (.Name x pos) (tC v) :=
 fun _ _ _ H _ I h => ld_blt I hg hm hv ⟨v, H, I, r, h⟩ hn hd
def t2I (ta tb : TE) (k : Int → Int → Hp → Prop) : St → Hp → Prop := fun σ H => ta σ H fun x H1 => tb σ H1 fun y H2 => ∃ i j, x = .int i ∧ y = .int j ∧ k i j H2
def tAdd (ta tb : TE) : TE := fun σ H Q => t2I ta tb (fun i j H2 => Q (.int (i + j)) H2) σ H
def tSub (ta tb : TE) : TE := fun σ H Q => t2I ta tb (fun i j H2 => Q (.int (i - j)) H2) σ H
def tMul (ta tb : TE) : TE := fun σ H Q => t2I ta tb (fun i j H2 => (-(2 ^ 64) < i ∧ i < 2 ^ 64) ∧ Q (.int (i * j)) H2) σ H
variable {a b : Expr} {ta tb : TE} {pos : Pos}
def PC (X : Cx) (op : CmpOp) (a b : Expr) (t : TE) : Prop :=
 ∀ (pins : List (Addr × Obj)) (s : Shared) (σ : St) (H : Hp) (Q : VK), Inv X pins σ H s → t σ H Q →
  wpAny (model X.prog X.w) X.A (eval a X.env) (fun v s₁ => wpAny (model X.prog X.w) X.A (eval b X.env) (fun u s₂ => wpAny (model X.prog X.w) X.A (compareOp op v u) (EP X pins σ Q) X.xe s₂) X.xe s₁) X.xe s
theorem nobehind (b : Expr) {op : CmpOp} (h : op ≠ .In) (h2 : op ≠ .NotIn) : behindInMarks op b = false := by
 have e1 : (op == CmpOp.In) = false := by cases op <;> first | rfl | exact absurd rfl h
 have e2 : (op == CmpOp.NotIn) = false := by cases op <;> first | rfl | exact absurd rfl h2
 cases b <;> simp [behindInMarks, e1, e2]
def tCmp (p : Int → Int → Bool) (ta tb : TE) : TE := fun σ H Q => t2I ta tb (fun i j H2 => Q (.bl (p i j)) H2) σ H
abbrev tLt : TE → TE → TE := tCmp fun i j => decide (i < j)
abbrev tLe : TE → TE → TE := tCmp fun i j => decide (i ≤ j)
abbrev tGt : TE → TE → TE := tCmp fun i j => decide (j < i)
abbrev tGe : TE → TE → TE := tCmp fun i j => decide (j ≤ i)
abbrev tEqI : TE → TE → TE := tCmp fun i j => decide (i = j)
abbrev tNeI : TE → TE → TE := tCmp fun i j => !decide (i = j)
def tIsN (ta : TE) : TE := fun σ H Q => ta σ H fun x H1 => Q (.bl (decide (x = .non))) H1
def tNotN (ta : TE) : TE := fun σ H Q => ta σ H fun x H1 => Q (.bl (!decide (x = .non))) H1
theorem RelV.none_iff {x : V} {v : Value} (r : RelV x v) : (v == Value.none) = decide (x = .non) := by
 cases x with
 | non => cases r; rfl
 | bl _ => cases r; rfl
 | int _ => obtain ⟨t, rfl⟩ := r; rfl
 | str _ => obtain ⟨t, rfl⟩ := r; rfl
 | byt _ => obtain ⟨t, rfl⟩ := r; rfl
 | flt _ => obtain ⟨t, rfl⟩ := r; rfl
 | ref _ => cases r; rfl
 | ty _ => cases r; rfl
theorem pc_notN {j pos'} (ha : PE X a ta) : PC X .IsNot a (.Constant .none j pos') (tNotN ta) := by
 intro pins s σ H Q I h
 refine thn (ha pins s σ H _ I h) fun v s1 ⟨x, H1, I1, r1, q1⟩ => ?_
 exact Constant_none (isnot_none_gen ⟨.bl _, H1, I1, by rw [r1.none_iff]; rfl, q1⟩)
def tB (t : TE) : TT := fun σ H Q => t σ H fun x H1 => ∃ c, x = .bl c ∧ Q c H1
theorem pt_cmp {op : CmpOp} {t : TE} (h : PC X op a b t) (h1 : behindInMarks op b = false := by first | exact nobehind _ (by decide) (by decide) | rfl) : PT X (.Compare a [op] [b] pos) (tB t) := by
 intro pins s σ H Q I hw
 refine wpAny_isTrue_Compare1 (thn (h pins s σ H _ I hw) fun v s1 h1 => thn h1 fun u s2 h2 => thn h2 fun c s3 ⟨x, H1, I1, r1, q1⟩ => ?_) h1
 obtain ⟨d, rfl, q⟩ := q1
 cases r1
 exact wpAny_truthy_bool ⟨H1, I1, q⟩
theorem pt_val {e : Expr} {t : TE} (h : PE X e t) (he : ∀ whole, isTrue e X.env whole = (do let v ← whole; standAt e.pos; holding [v] (truthy v)) := by intro _; rfl) : PT X e (tB t) := by
 intro pins s σ H Q I hw
 refine isTrue_plain (thn (h pins s σ H _ I hw) fun v s1 ⟨x, H1, I1, r1, q1⟩ => ?_) (he _)
 obtain ⟨d, rfl, q⟩ := q1
 cases r1
 exact wpAny_truthy_bool ⟨H1, I1, q⟩
variable {tA tB' : TT} {rest : List Expr}
def tAnd (t u : TT) : TT := fun σ H Q => t σ H fun c H1 => if c = true then u σ H1 Q else Q false H1
def tOr (t u : TT) : TT := fun σ H Q => t σ H fun c H1 => if c = true then Q true H1 else u σ H1 Q
def tNot (t : TT) : TT := fun σ H Q => t σ H fun c H1 => Q (!c) H1
theorem pw_and1 (ha : PT X a tA) : PW X (.BoolOp .And [a] pos) tA := by
 intro wh pins s σ H Q I h
 refine isTrue_and (thn (ha pins s σ H Q I h) fun c s1 e => ?_)
 cases c with
 | true => exact isTrue_and_nil e
 | false => exact e
theorem pw_or1 (ha : PT X a tA) : PW X (.BoolOp .Or [a] pos) tA := by
 intro wh pins s σ H Q I h
 refine isTrue_or (thn (ha pins s σ H Q I h) fun c s1 e => ?_)
 cases c with
 | false => exact isTrue_or_nil e
 | true => exact e
theorem pw_and (ha : PT X a tA) (hb : PW X (.BoolOp .And (b :: rest) pos) tB') : PW X (.BoolOp .And (a :: b :: rest) pos) (tAnd tA tB') := by
 intro wh pins s σ H Q I h
 refine isTrue_and (thn (ha pins s σ H _ I h) fun c s1 ⟨H1, I1, q1⟩ => ?_)
 cases c with
 | true => exact hb wh pins s1 σ H1 Q I1 q1
 | false => exact ⟨H1, I1, q1⟩
theorem pw_or (ha : PT X a tA) (hb : PW X (.BoolOp .Or (b :: rest) pos) tB') : PW X (.BoolOp .Or (a :: b :: rest) pos) (tOr tA tB') := by
 intro wh pins s σ H Q I h
 refine isTrue_or (thn (ha pins s σ H _ I h) fun c s1 ⟨H1, I1, q1⟩ => ?_)
 cases c with
 | true => exact ⟨H1, I1, q1⟩
 | false => exact hb wh pins s1 σ H1 Q I1 q1
theorem pt_not (ha : PT X a tA) : PT X (.UnaryOp .Not a pos) (tNot tA) := by
 intro pins s σ H Q I h
 exact isTrue_not (ha pins s σ H (fun c H1 => Q (!c) H1) I h)
def tAndV (ta tb : TE) : TE := fun σ H Q => ta σ H fun x H1 => ∃ c, x = .bl c ∧ if c = true then tb σ H1 Q else Q (.bl false) H1
def tOrV (ta tb : TE) : TE := fun σ H Q => ta σ H fun x H1 => ∃ c, x = .bl c ∧ if c = true then Q (.bl true) H1 else tb σ H1 Q
def tNotV (ta : TE) : TE := fun σ H Q => ta σ H fun x H1 => ∃ c, x = .bl c ∧ Q (.bl (!c)) H1
theorem pe_one {op} {t : TE} (h : PE X a t) : PE X (.BoolOp op [a] pos) t := fun pins s σ H Q I hw => BoolOp_one (h pins s σ H Q I hw)
theorem pe_and (ha : PE X a ta) (hb : PE X (.BoolOp .And (b :: rest) pos) tb) : PE X (.BoolOp .And (a :: b :: rest) pos) (tAndV ta tb) := by
 intro pins s σ H Q I h
 refine BoolOp_and (thn (ha pins s σ H _ I h) fun v s1 ⟨x, H1, I1, r1, q1⟩ => ?_)
 obtain ⟨c, rfl, q1⟩ := q1
 cases r1
 refine wpAny_truthy_bool ?_
 cases c with
 | true => exact hb pins s1 σ H1 Q I1 q1
 | false => exact ⟨.bl false, H1, I1, rfl, q1⟩
theorem pe_or (ha : PE X a ta) (hb : PE X (.BoolOp .Or (b :: rest) pos) tb) : PE X (.BoolOp .Or (a :: b :: rest) pos) (tOrV ta tb) := by
 intro pins s σ H Q I h
 refine BoolOp_or (thn (ha pins s σ H _ I h) fun v s1 ⟨x, H1, I1, r1, q1⟩ => ?_)
 obtain ⟨c, rfl, q1⟩ := q1
 cases r1
 refine wpAny_truthy_bool ?_
 cases c with
 | false => exact hb pins s1 σ H1 Q I1 q1
 | true => exact ⟨.bl true, H1, I1, rfl, q1⟩
theorem pe_not (ha : PE X a ta) : PE X (.UnaryOp .Not a pos) (tNotV ta) := by
 intro pins s σ H Q I h
 refine UnaryOp_ (thn (ha pins s σ H _ I h) fun v s1 ⟨x, H1, I1, r1, q1⟩ => ?_)
 obtain ⟨c, rfl, q1⟩ := q1
 cases r1
 exact not_of (wpAny_truthy_bool ⟨.bl (!c), H1, I1, rfl, q1⟩)
def tIf (t : TT) (ta tb : TE) : TE := fun σ H Q => t σ H fun c H1 => if c = true then ta σ H1 Q else tb σ H1 Q
theorem pe_ifExp {c : Expr} (hc : PT X c tA) (ha : PE X a ta) (hb : PE X b tb) : PE X (.IfExp c a b pos) (tIf tA ta tb) := by
 intro pins s σ H Q I h
 refine wpAny_IfExp (thn (hc pins s σ H _ I h) fun d s1 ⟨H1, I1, q1⟩ => ?_)
 cases d with
 | true => exact ha pins s1 σ H1 Q I1 q1
 | false => exact hb pins s1 σ H1 Q I1 q1
end
end L2
namespace L2
open PySem PySem.Spec PyProof.Rows
def SqL (K : Frag) (H : Hp) (a : Addr) (xs : List V) : Prop :=
 Rd H a (.lst xs) ∨
  ∃ (o : Obj) (its : Array Value) (n : Nat), K.lookup a = some o ∧ o.cls = .type "list" ∧ o.dict = none ∧ o.data = .seq its n ∧ its.size ≤ sizeLine ∧ Vals xs its.toList
def SqT (K : Frag) (H : Hp) (a : Addr) (xs : List V) : Prop :=
 Rd H a (.tup xs) ∨
  ∃ (o : Obj) (its : Array Value) (n : Nat), K.lookup a = some o ∧ o.cls = .type "tuple" ∧ o.data = .seq its n ∧ its.size ≤ sizeLine ∧ Vals xs its.toList
def absV : Value → Option V
 | .none => some .non
 | .bool b => some (.bl b)
 | .int i _ => some (.int i)
 | .str x _ => some (.str x)
 | .bytes b _ => some (.byt b)
 | .float b _ => some (.flt b)
 | .ref a => some (.ref a)
 | .type n => some (.ty n)
 | _ => none
theorem RelV.abs {x : V} {u : Value} (r : RelV x u) : absV u = some x := by
 cases x with
 | non => cases r; rfl
 | bl _ => cases r; rfl
 | int _ => obtain ⟨t, rfl⟩ := r; rfl
 | str _ => obtain ⟨t, rfl⟩ := r; rfl
 | byt _ => obtain ⟨t, rfl⟩ := r; rfl
 | flt _ => obtain ⟨t, rfl⟩ := r; rfl
 | ref _ => cases r; rfl
 | ty _ => cases r; rfl
theorem RelV.inj {x y : V} {u : Value} (r : RelV x u) (q : RelV y u) : x = y := Option.some.inj (r.abs.symm.trans q.abs)
theorem Vals.inj : ∀ {xs ys : List V} {us : List Value}, Vals xs us → Vals ys us → xs = ys
 | _, _, _, .nil, .nil => rfl
 | _, _, _, .cons r t, .cons r' t' => by rw [r.inj r', Vals.inj t t']
section
variable {X : Cx} {pins : List (Addr × Obj)} {σ : St} {H : Hp} {s : Shared} {a : Addr} {xs ys : List V}
theorem SqL.of {K : Frag} (h : H a = some (.lst xs)) : SqL K H a xs := .inl (.inl h)
theorem SqT.of {K : Frag} (h : H a = some (.tup xs)) : SqT K H a xs := .inl (.inl h)
theorem Inv.list (I : Inv X pins σ H s) (h : SqL X.K H a xs) : ∃ its : List Value, Vals xs its ∧ PlainL s.heap a its.toArray ∧ xs.length ≤ sizeLine := by
 rcases h with h | ⟨o, its, n, hk, hc, hd, hs, hz, r⟩
 ·obtain ⟨z, its, n, r, e⟩ := h.ok I.hok
  exact ⟨its, r, ⟨_, n, e, rfl, rfl, rfl⟩, z⟩
 ·refine ⟨its.toList, r, ⟨o, n, I.kIn a o hk, hc, hd, by simpa using hs⟩, ?_⟩
  have e := r.length
  simp only [Array.length_toList] at e
  omega
theorem Inv.tuple (I : Inv X pins σ H s) (h : SqT X.K H a xs) : ∃ its : List Value, Vals xs its ∧ IsTup s.heap a its.toArray ∧ xs.length ≤ sizeLine := by
 rcases h with h | ⟨o, its, n, hk, hc, hs, hz, r⟩
 ·obtain ⟨z, its, r, p⟩ := h.ok I.hok
  exact ⟨its, r, p, z⟩
 ·refine ⟨its.toList, r, ⟨o, I.kIn a o hk, hc, n, by simpa using hs⟩, ?_⟩
  have e := r.length
  simp only [Array.length_toList] at e
  omega
theorem Inv.list_inj (I : Inv X pins σ H s) (h : SqL X.K H a xs) (h' : SqL X.K H a ys) : xs = ys := by
 obtain ⟨its, r, ⟨o, n, e, _, _, d⟩, _⟩ := I.list h
 obtain ⟨its', r', ⟨o', n', e', _, _, d'⟩, _⟩ := I.list h'
 rw [e] at e'; cases e'
 rw [d] at d'
 injection d' with d1 _
 have : its = its' := by simpa using congrArg Array.toList d1
 subst this
 exact r.inj r'
theorem Inv.tuple_inj (I : Inv X pins σ H s) (h : SqT X.K H a xs) (h' : SqT X.K H a ys) : xs = ys := by
 obtain ⟨its, r, ⟨o, e, _, n, d⟩, _⟩ := I.tuple h
 obtain ⟨its', r', ⟨o', e', _, n', d'⟩, _⟩ := I.tuple h'
 rw [e] at e'; cases e'
 rw [d] at d'
 injection d' with d1 _
 have : its = its' := by simpa using congrArg Array.toList d1
 subst this
 exact r.inj r'
end
abbrev Cx.wish (X : Cx) (E : Value → Shared → Prop) : Cx := { X with xe := E }
abbrev Cx.nox (X : Cx) : Cx := X.wish fun _ _ => False
theorem Cx.Ok.wish {X : Cx} (ok : X.Ok) (E : Value → Shared → Prop) : (X.wish E).Ok :=
 ⟨ok.mod, ok.kind, ok.glob, ok.blt, ok.above, ok.inj, ok.has, ok.cab, ok.hd, ok.frames, ok.stk, ok.exf, ok.bs, ok.bsz, ok.noex, ok.exfs, ok.funs, ok.frf⟩
theorem Cx.Ok.unwish {X : Cx} {E : Value → Shared → Prop} (ok : (X.wish E).Ok) : X.Ok :=
 ⟨ok.mod, ok.kind, ok.glob, ok.blt, ok.above, ok.inj, ok.has, ok.cab, ok.hd, ok.frames, ok.stk, ok.exf, ok.bs, ok.bsz, ok.noex, ok.exfs, ok.funs, ok.frf⟩
section
variable {X : Cx} {pins : List (Addr × Obj)} {σ : St} {H : Hp} {s : Shared} {E : Value → Shared → Prop}
theorem Inv.wish (I : Inv X pins σ H s) (E : Value → Shared → Prop) : Inv (X.wish E) pins σ H s := ⟨I.ok.wish E, I.os, I.bare, I.base, I.loc, I.cell, I.free, I.freeC, I.pin, I.hok, I.len⟩
theorem Inv.unwish (I : Inv (X.wish E) pins σ H s) : Inv X pins σ H s := ⟨I.ok.unwish, I.os, I.bare, I.base, I.loc, I.cell, I.free, I.freeC, I.pin, I.hok, I.len⟩
theorem SP.unwish {D : Ends} {f : Flow} {s' : Shared} (h : SP (X.wish E) pins D f s') : SP X pins D f s' := by
 cases f with
 | next => obtain ⟨σ', H', I, q⟩ := h; exact ⟨σ', H', I.unwish, q⟩
 | brk => obtain ⟨σ', H', I, q⟩ := h; exact ⟨σ', H', I.unwish, q⟩
 | cont => obtain ⟨σ', H', I, q⟩ := h; exact ⟨σ', H', I.unwish, q⟩
 | ret u => obtain ⟨v, σ', H', I, r, q⟩ := h; exact ⟨v, σ', H', I.unwish, r, q⟩
theorem PSs.nox {st : List Stmt} {t : TS} (h : PSs X.nox st t) : PSs X st t := fun pins s σ H D I hw =>
 wpAny_mono (h pins s σ H D (I.wish _) hw) (fun _ _ q => q.unwish) fun _ _ z => False.elim z
end
section
variable {X : Cx} {st : Stmt} {rest : List Stmt} {t u : TS} {e : Expr} {te : TE} {pos : Pos}
def tNext : TS := fun D σ H => D.nx σ H
def tSeq (t u : TS) : TS := fun D σ H => t { D with nx := u D } σ H
theorem pss_nil : PSs X [] tNext := fun _ _ σ H _ I h => wpAny_execs_nil ⟨σ, H, I, h⟩
theorem pss_cons (h1 : PS X st t) (h2 : PSs X rest u) : PSs X (st :: rest) (tSeq t u) := by
 intro pins s σ H D I h
 refine wpAny_execs_cons (thn (h1 pins s σ H { D with nx := u D } I h) fun f s1 q => ?_)
 cases f with
 | next =>
  obtain ⟨σ', H', I', q⟩ := q
  exact h2 pins s1 σ' H' D I' q
 | ret v => exact q
 | brk => exact q
 | cont => exact q
theorem pss_one (h1 : PS X st t) : PSs X [st] t := by
 intro pins s σ H D I h
 refine wpAny_execs_cons (thn (h1 pins s σ H D I h) fun f s1 q => ?_)
 cases f with
 | next => exact wpAny_execs_nil q
 | ret v => exact q
 | brk => exact q
 | cont => exact q
def tBreak : TS := fun D σ H => D.bk σ H
def tCont : TS := fun D σ H => D.ct σ H
theorem Inv.quiet {pins : List (Addr × Obj)} {σ : St} {H : Hp} {s : Shared} (I : Inv X pins σ H s) : interactive X.env = false := by simp [interactive, I.ok.kind]
def tDrop (te : TE) : TS := fun D σ H => te σ H fun _ H1 => D.nx σ H1
theorem ps_expr (he : PE X e te) (hs : swapsWith e none pos.line X.env = pure false := by rfl) : PS X (.Expr e pos) (tDrop te) := by
 intro pins s σ H D I h
 exact wpAny_Expr_any (thn (he pins s σ H _ I h) fun v s1 ⟨x, H1, I1, r1, q1⟩ => ⟨σ, H1, I1, q1⟩) I.quiet hs
def tRet (te : TE) : TS := fun D σ H => te σ H D.rt
theorem ps_ret (he : PE X e te) : PS X (.Return (some e) pos) (tRet te) := by
 intro pins s σ H D I h
 exact wpAny_Return_some (thn (he pins s σ H _ I h) fun v s1 ⟨x, H1, I1, r1, q1⟩ => ⟨x, σ, H1, I1, r1, q1⟩)
def tRetN : TS := fun D _ H => D.rt .non H
def tIfS (c : TT) (t u : TS) : TS := fun D σ H => c σ H fun b H1 => if b = true then t D σ H1 else u D σ H1
theorem ps_if {c : Expr} {a b : List Stmt} {tc : TT} (hc : PT X c tc) (ha : PSs X a t) (hb : PSs X b u) : PS X (.If c a b pos) (tIfS tc t u) := by
 intro pins s σ H D I h
 refine wpAny_If (thn (hc pins s σ H _ I h) fun d s1 ⟨H1, I1, q1⟩ => ?_)
 cases d with
 | true => exact ha pins s1 σ H1 D I1 q1
 | false => exact hb pins s1 σ H1 D I1 q1
def tNever : TS := fun _ _ _ => False
theorem ps_never : PS X st tNever := fun _ _ _ _ _ _ h => h.elim
end
abbrev TG := V → St → Hp → (St → Hp → Prop) → Prop
abbrev TGs := List V → St → Hp → (St → Hp → Prop) → Prop
def PG (X : Cx) (target : Expr) (t : TG) : Prop :=
 ∀ (pins : List (Addr × Obj)) (s : Shared) (σ : St) (H : Hp) (v : V) (u : Value) (Q : St → Hp → Prop), Inv X pins σ H s → RelV v u → t v σ H Q →
  wpAny (model X.prog X.w) X.A (assign target X.env u) (fun _ s' => ∃ σ' H', Inv X pins σ' H' s' ∧ Q σ' H') X.xe s
def PGs (X : Cx) (ts : List Expr) (t : TGs) : Prop :=
 ∀ (pins : List (Addr × Obj)) (s : Shared) (σ : St) (H : Hp) (vs : List V) (us : List Value) (Q : St → Hp → Prop), Inv X pins σ H s → Vals vs us → t vs σ H Q →
  wpAny (model X.prog X.w) X.A (assignInOrder ((assignEach ts X.env).map (·.2)) us) (fun _ s' => ∃ σ' H', Inv X pins σ' H' s' ∧ Q σ' H') X.xe s
abbrev TSet := V → V → V → Hp → (Hp → Prop) → Prop
def PSet (X : Cx) (t : TSet) : Prop :=
 ∀ (pins : List (Addr × Obj)) (s : Shared) (σ : St) (H : Hp) (o i v : V) (ov iv u : Value) (Q : Hp → Prop), Inv X pins σ H s → RelV o ov → RelV i iv → RelV v u → t o i v H Q →
  wpAny (model X.prog X.w) X.A (setItem ov iv u) (fun _ s' => ∃ H', Inv X pins σ H' s' ∧ Q H') X.xe s
abbrev TIp := V → V → Hp → VK → Prop
def PIp (X : Cx) (op : Operator) (t : TIp) : Prop :=
 ∀ (pins : List (Addr × Obj)) (s : Shared) (σ : St) (H : Hp) (x y : V) (v u : Value) (Q : VK), Inv X pins σ H s → RelV x v → RelV y u → t x y H Q →
  wpAny (model X.prog X.w) X.A (inplaceOp op v u) (EP X pins σ Q) X.xe s
section
variable {X : Cx} {pos : Pos}
def gName (i : Nat) : TG := fun v σ H Q => Q (σ.set i (some v)) H
theorem pg_name {i : Nat} {x : Str} (hN : X.N.Nodup) (hi : X.N[i]? = some x) (hx : Loc X.env.scope x) (hf : X.fn x = true ∨ X.env.scope.names.lookup x = some .local := by first | exact .inl rfl | exact .inr rfl | assumption) : PG X (.Name x pos) (gName i) := by
 intro pins s σ H v u Q I r h
 exact wpAny_assign_Name (store_ok I hN hi hx r (fun s' I' => ⟨_, H, I', h⟩) hf)
def gNil : TGs := fun vs σ H Q => vs = [] ∧ Q σ H
def gCons (t : TG) (u : TGs) : TGs := fun vs σ H Q => ∃ v r, vs = v :: r ∧ t v σ H fun σ' H' => u r σ' H' Q
theorem pgs_nil : PGs X [] gNil := by
 intro pins s σ H vs us Q I r h
 obtain ⟨e, h⟩ := h
 subst e
 cases r
 exact assignInOrder_nil ⟨σ, H, I, h⟩
theorem pgs_cons {e : Expr} {es : List Expr} {t : TG} {u : TGs} (h1 : PG X e t) (h2 : PGs X es u)
  (hs : (assignEach (e :: es) X.env).map (·.2) = assign e X.env :: (assignEach es X.env).map (·.2) := by rfl) : PGs X (e :: es) (gCons t u) := by
 intro pins s σ H vs us Q I r h
 obtain ⟨v, vr, e1, h⟩ := h
 subst e1
 cases r with
 | cons r rr =>
  rw [hs]
  refine assignInOrder_cons (thn (h1 pins s σ H _ _ _ I r h) fun _ s1 ⟨σ1, H1, I1, q1⟩ => ?_)
  exact h2 pins s1 σ1 H1 _ _ Q I1 rr q1
def gTup (K : Frag) (n : Nat) (t : TGs) : TG := fun v σ H Q => ∃ a xs, v = .ref a ∧ SqT K H a xs ∧ xs.length = n ∧ t xs σ H Q
theorem pg_tup {es : List Expr} {k : Nat} {t : TGs} {n : Nat} (hc : X.calm = true) (h : PGs X es t)
  (hn : (assignEach es X.env).length = n := by rfl) (hst : (assignEach es X.env).findIdx? (·.1) = none := by rfl) : PG X (.Tuple es k pos) (gTup X.K n t) := by
 intro pins s σ H v u Q I r hw
 obtain ⟨a, xs, e1, hq, hl, hw⟩ := hw
 subst e1
 cases r
 obtain ⟨its, rv, ht, hz⟩ := I.tuple hq
 refine assign_Tuple_tuple (I.ok.hd hc) ht (by simp [hn, ← hl, rv.length]) hst fun h' hx => ?_
 have I1 : Inv X pins σ H { s with heap := h' } := I.kept (t' := s.toks) fun b o e => hx b o (Nat.ne_of_lt (Heap.lt_size e)) e
 exact h pins _ σ H xs _ Q I1 (by simpa using rv) hw
def gSub (to ti : TE) (t : TSet) : TG := fun v σ H Q => to σ H fun o H1 => ti σ H1 fun i H2 => t o i v H2 fun H3 => Q σ H3
def tAsg (te : TE) (g : TG) : TS := fun D σ H => te σ H fun x H1 => g x σ H1 D.nx
theorem ps_asg {tg e : Expr} {te : TE} {g : TG} (he : PE X e te) (hg : PG X tg g) (hs : swapsWithSole [tg] e pos.line X.env = pure false := by rfl) (hw : swappedStores [tg] e X.env = pure none := by rfl)
  (h1 : (assignEach [tg] X.env).map (·.2) = [assign tg X.env] := by rfl) : PS X (.Assign [tg] e pos) (tAsg te g) := by
 intro pins s σ H D I h
 refine wpAny_Assign_stores (thn (he pins s σ H _ I h) fun v s1 ⟨x, H1, I1, r1, q1⟩ => ?_) hs hw
 rw [h1]
 exact thn (hg pins s1 σ H1 x v _ I1 r1 q1) fun _ s2 q => q
theorem ps_set {i : Nat} {x : Str} {e : Expr} {te : TE} {pos' : Pos} (hN : X.N.Nodup) (hi : X.N[i]? = some x) (hx : Loc X.env.scope x) (he : PE X e te) (hs : swapsWith e (some (.Name x pos')) pos.line X.env = pure false := by rfl) (hf : X.fn x = true ∨ X.env.scope.names.lookup x = some .local := by first | exact .inl rfl | exact .inr rfl | assumption) :
  PS X (.Assign [.Name x pos'] e pos) (tAsg te (gName i)) := by
 intro pins s σ H D I h
 refine wpAny_Assign_Name (thn (he pins s σ H _ I h) fun v s1 ⟨y, H1, I1, r1, q1⟩ => ?_) hs
 exact store_ok I1 hN hi hx r1 (fun s2 I2 => ⟨_, H1, I2, q1⟩) hf
def tPar (i j : Nat) (ta : TA) : TS := fun D σ H => ta σ H fun vs H1 => ∃ v w, vs = [v, w] ∧ D.nx ((σ.set i (some v)).set j (some w)) H1
theorem ps_par {i j : Nat} {x y : Str} {a b : Expr} {ta : TA} {px py pt : Pos} {kt k2 pt2} (hc : X.calm = true) (hN : X.N.Nodup) (hi : X.N[i]? = some x) (hj : X.N[j]? = some y) (hij : i ≠ j)
  (hx : X.env.scope.names.lookup x = some .local) (hy : X.env.scope.names.lookup y = some .local) (ha : PA X [a, b] ta)
  (hw : swappedStores [.Tuple [.Name x px, .Name y py] kt pt] (.Tuple [a, b] k2 pt2) X.env = pure (some [x, y]))
  (hs : swapsWithSole [.Tuple [.Name x px, .Name y py] kt pt] (.Tuple [a, b] k2 pt2) pos.line X.env = pure false := by rfl) :
  PS X (.Assign [.Tuple [.Name x px, .Name y py] kt pt] (.Tuple [a, b] k2 pt2) pos) (tPar i j ta) := by
 intro pins s σ H D I h
 rw [exec_Assign_arm]
 refine wpAny_bind (wpAny_standAt ?_)
 rw [hs]
 refine wpAny_bind (wpAny_pure ?_)
 rw [if_neg (by decide)]
 refine wpAny_bind (Tuple_ (thn (ha _ pins s σ H _ I h) fun us s1 ⟨vs, H1, I1, r1, q1⟩ => ?_))
 obtain ⟨v, w, e1, q1⟩ := q1
 subst e1
 obtain ⟨u1, u2, rfl, rv, rw'⟩ : ∃ u1 u2, us = [u1, u2] ∧ RelV v u1 ∧ RelV w u2 := by
  cases r1 with
  | cons p q =>
   cases q with
   | cons p' q' =>
    cases q'
    exact ⟨_, _, rfl, p, p'⟩
 refine wpAny_newObj_type ?_ (by show 2 ≤ sizeLine; decide)
 have I2 : Inv X pins σ H1 { s1 with heap := s1.heap.push { cls := .type "tuple", data := .seq [u1, u2].toArray } } := I1.kept (t' := s1.toks) fun b o e => Heap.get?_push_of_some _ e
 rw [hw]
 refine wpAny_bind (wpAny_pure ?_)
 show wpAny (model X.prog X.w) X.A (do rule "assign.swapped-stores"; let items ← unpackItems (.ref s1.heap.objs.size) 2 none; assignInOrder [fun v => bindName X.env y v, fun v => bindName X.env x v] items.reverse; pure Flow.next) _ _ _
 refine wpAny_bind (wpAny_rule (wpAny_bind (unpackItems_tuple (items := #[u1, u2]) (I.ok.hd hc) (IsTup.new s1.heap _) fun h' hx' => ?_)))
 have I3 := I2.kept (h' := h') (t' := s1.toks) fun b o e => hx' b o (Nat.ne_of_lt (Heap.lt_size e)) e
 show wpAny _ _ (assignInOrder [fun v => bindName X.env y v, fun v => bindName X.env x v] [u2, u1] >>= fun _ => pure Flow.next) _ _ _
 refine wpAny_bind (assignInOrder_cons (wpAny_bindName (store_ok I3 hN hj (.inl hy) rw' (fun s2 I4 => ?_) (.inr hy))))
 refine assignInOrder_cons (wpAny_bindName (store_ok I4 hN hi (.inl hx) rv (fun s3 I5 => assignInOrder_nil (wpAny_pure ?_)) (.inr hx)))
 rw [List.set_comm _ _ (Ne.symm hij)] at I5
 exact ⟨_, H1, I5, q1⟩
def tAug (i : Nat) (te : TE) (ti : TIp) : TS := fun D σ H => ∃ x, σ[i]? = some (some x) ∧ te σ H fun y H1 => ti x y H1 fun z H2 => D.nx (σ.set i (some z)) H2
def tAugS (to ti te : TE) (tget : V → V → Hp → VK → Prop) (tip : TIp) (tset : TSet) : TS := fun D σ H => to σ H fun o H1 => ti σ H1 fun i H2 => tget o i H2 fun x H3 => te σ H3 fun y H4 => tip x y H4 fun z H5 => tset o i z H5 fun H6 => D.nx σ H6
def PGet (X : Cx) (t : V → V → Hp → VK → Prop) : Prop :=
 ∀ (pins : List (Addr × Obj)) (s : Shared) (σ : St) (H : Hp) (o i : V) (ov iv : Value) (Q : VK), Inv X pins σ H s → RelV o ov → RelV i iv → t o i H Q →
  wpAny (model X.prog X.w) X.A (getItem ov iv) (EP X pins σ Q) X.xe s
def ipI (f : Int → Int → Int) : TIp := fun x y H Q => ∃ i j, x = .int i ∧ y = .int j ∧ Q (.int (f i j)) H
end
section
variable {X : Cx} {pos : Pos}
def tWhile (c : TT) (tb : TS) : TS := fun D σ H => ∃ W : Nat → St → Hp → Prop, (∃ m, W m σ H) ∧ ∀ m σ H, W m σ H →
 c σ H fun b H1 => if b = true then ∃ N : St → Hp → Prop, (∀ σ' H', N σ' H' → ∃ m', m' < m ∧ W m' σ' H') ∧ tb { D with nx := N, ct := N, bk := D.nx } σ H1 else D.nx σ H1
theorem ps_while {c : Expr} {body : List Stmt} {tc : TT} {tb : TS} (hp : PassesOwn (model X.prog X.w) X.A X.env X.xe) (hc : PT X c tc) (hb : PSs X body tb) : PS X (.While c body [] pos) (tWhile tc tb) := by
 intro pins s σ H D I h
 obtain ⟨W, ⟨m0, w0⟩, turn⟩ := h
 refine wpAny_While (codeAny_whileLoop (fun n s' => ∃ σ' H', Inv X pins σ' H' s' ∧ W n σ' H') ?_ m0 ⟨σ, H, I, w0⟩)
 rintro n s1 ⟨σ1, H1, I1, w1⟩
 refine wpAny_passesOwn hp (thn (hc pins s1 σ1 H1 _ I1 (turn n σ1 H1 w1)) fun b s2 ⟨H2, I2, q2⟩ => ?_)
 cases b with
 | true =>
  obtain ⟨N, hN, q2⟩ := q2
  rw [if_pos rfl]
  refine wpAny_passesOwn hp (thn (hb pins s2 σ1 H2 _ I2 q2) fun f s3 q3 => ?_)
  cases f with
  | next =>
   obtain ⟨σ3, H3, I3, n3⟩ := q3
   obtain ⟨m', hm, w3⟩ := hN σ3 H3 n3
   exact ⟨m', hm, σ3, H3, I3, w3⟩
  | cont =>
   obtain ⟨σ3, H3, I3, n3⟩ := q3
   obtain ⟨m', hm, w3⟩ := hN σ3 H3 n3
   exact ⟨m', hm, σ3, H3, I3, w3⟩
  | brk => exact q3
  | ret v => exact q3
 | false =>
  rw [if_neg Bool.false_ne_true]
  exact wpAny_execs_nil ⟨σ1, H2, I2, q2⟩
end
structure It where
 go : Nat → Hp → Prop
 yld : Nat → Hp → V → Hp → Prop
 stop : Nat → Hp → Prop
def FpOk (X : Cx) (pins : List (Addr × Obj)) (H : Hp) (b : Addr) : Prop :=
 H b = none ∧ b ≠ X.env.locals ∧ b ∉ X.fs ∧ (b ∈ X.ex ∨ X.s₀.heap.objs.size ≤ b) ∧ (∀ x c, X.env.cells.lookup x = some c → c ≠ b) ∧ ∀ p ∈ X.pn ++ pins, p.1 ≠ b
theorem Inv.fpOk {X : Cx} {pins : List (Addr × Obj)} {σ : St} {H H' : Hp} {s : Shared} {b : Addr} (I : Inv X pins σ H s) (hb : s.heap.objs.size ≤ b) (hn : H' b = none) : FpOk X pins H' b := by
 refine ⟨hn, Nat.ne_of_gt (Nat.lt_of_lt_of_le I.lt hb), I.nofs hb, .inr (Nat.le_trans I.sz hb), fun x c e z => ?_, fun p hp z => ?_⟩
 ·obtain ⟨v, q⟩ := I.cell x c e
  exact absurd (Nat.lt_of_lt_of_le q.lt (by rw [z]; exact hb)) (Nat.lt_irrefl _)
 ·exact absurd (Nat.lt_of_lt_of_le (Heap.lt_size (I.pin p hp).1) (by rw [z]; exact hb)) (Nat.lt_irrefl _)
structure Turn (P : Program) (w : World) (K : Frag) (tg : Expr) (J : It) (fp : List Addr) (it : Addr) (tn : Nat → Heap → Prop) : Prop where
 mem : it ∈ fp
 obj : ∀ i h, tn i h → ∀ b ∈ fp, ∃ o, h.get? b = some o ∧ ∀ v, o.data ≠ .cell v
 keep : ∀ i h h', tn i h → (∀ b ∈ fp, ∀ o, h.get? b = some o → h'.get? b = some o) → tn i h'
 item : ∀ (X : Cx), X.prog = P → X.w = w → X.K = K → X.calm = true → ∀ (i : Nat) (pins : List (Addr × Obj)) (s : Shared) (σ : St) (H : Hp) (E : Value → Shared → Prop), Inv X pins σ H s → (∀ b ∈ fp, FpOk X pins H b) → tn i s.heap → J.go i H →
  wpAny (model P w) X.A (pyNext (.ref it)) (fun r s1 => ∃ u, r = some u ∧
   wpAny (model P w) X.A (letOwnedTupleGo tg (.ref it) u) (fun _ s2 => ∃ x H', Inv X pins σ H' s2 ∧ RelV x u ∧ J.yld i H x H' ∧ tn (i + 1) s2.heap ∧ ∀ b ∈ fp, H' b = none) E s1) E s
 done : ∀ (X : Cx), X.prog = P → X.w = w → X.K = K → X.calm = true → ∀ (i : Nat) (pins : List (Addr × Obj)) (s : Shared) (σ : St) (H : Hp) (E : Value → Shared → Prop), Inv X pins σ H s → (∀ b ∈ fp, FpOk X pins H b) → tn i s.heap → J.stop i H →
  wpAny (model P w) X.A (pyNext (.ref it)) (fun r s1 => r = none ∧ Inv X pins σ H s1) E s
 self : ∀ (A : Around) (i : Nat) (s : Shared) (Q : Value → Shared → Prop) (E : Value → Shared → Prop), tn i s.heap → Q (.ref it) s → wpAny (model P w) A (pyIter (.ref it)) Q E s
abbrev TI := St → Hp → (It → Hp → Prop) → Prop
def PIE (X : Cx) (pins : List (Addr × Obj)) (σ : St) (tg : Expr) (R : It → Hp → Prop) (itv : Value) (s2 : Shared) : Prop :=
 ∃ (it : Addr) (fp : List Addr) (tn : Nat → Heap → Prop) (J : It) (H' : Hp), itv = .ref it ∧ Inv X pins σ H' s2 ∧ Turn X.prog X.w X.K tg J fp it tn ∧ tn 0 s2.heap ∧ (∀ b ∈ fp, FpOk X pins H' b) ∧ R J H'
def PI (X : Cx) (tg iter : Expr) (wi : TI) : Prop :=
 ∀ (pins : List (Addr × Obj)) (s : Shared) (σ : St) (H : Hp) (R : It → Hp → Prop), Inv X pins σ H s → wi σ H R →
  wpAny (model X.prog X.w) X.A (eval iter X.env) (fun v s1 => wpAny (model X.prog X.w) X.A (pyIter v) (PIE X pins σ tg R) X.xe s1) X.xe s
theorem go_of {M : Model} {A : Around} {E : Value → Shared → Prop} {s : Shared} {tg : Expr} {it : Addr} {u : Value} {o : Obj} {n : String} {vs : Array Value} {Q : Unit → Shared → Prop} (ho : s.heap.get? it = some o) (hc : o.cls = .type n) (hd : o.data = .fields vs)
    (hn : ["enumerate", "zip", "dict_itemiterator", "dict_reverseitemiterator", "odict_iterator", "itertools.zip_longest", "itertools.pairwise"].contains n = false) (hQ : Q () s) : wpAny M A (letOwnedTupleGo tg (.ref it) u) Q E s := by
  unfold letOwnedTupleGo
  cases tg <;> first
    | exact wpAny_pure hQ
    | (cases u <;> first
        | exact wpAny_pure hQ
        | (refine wpAny_bind (wpAny_load ho ?_)
           rw [hc, hd]
           show wpAny M A (if (["enumerate", "zip", "dict_itemiterator", "dict_reverseitemiterator", "odict_iterator", "itertools.zip_longest", "itertools.pairwise"].contains n && vs[0]? == some (rawInt _)) = true then _ else _) Q E s
           rw [if_neg (by intro h; rw [hn, Bool.false_and] at h; cases h)]
           exact wpAny_pure hQ))
def Itl (K : Frag) (a : Addr) : It :=
 ⟨fun i H => ∃ xs x, SqL K H a xs ∧ xs[i]? = some x, fun i H x H' => H' = H ∧ ∀ xs, SqL K H a xs → xs[i]? = some x, fun i H => ∃ xs, SqL K H a xs ∧ xs.length ≤ i⟩
def Itt (K : Frag) (a : Addr) : It :=
 ⟨fun i H => ∃ xs x, SqT K H a xs ∧ xs[i]? = some x, fun i H x H' => H' = H ∧ ∀ xs, SqT K H a xs → xs[i]? = some x, fun i H => ∃ xs, SqT K H a xs ∧ xs.length ≤ i⟩
def Itr (lo : Int) (n : Nat) : It := ⟨fun i _ => i < n, fun i H x H' => H' = H ∧ x = .int (lo + i), fun i _ => n ≤ i⟩
theorem turn_list {P : Program} {w : World} {K : Frag} {tg : Expr} (a it : Addr) : Turn P w K tg (Itl K a) [it] it (fun i h => h.IsListIter it a i) where
 mem := by simp
 obj := fun i h st b hb => by
  have e : b = it := by simpa using hb
  subst e
  obtain ⟨o, e, c, d⟩ := st
  exact ⟨o, e, fun v z => by rw [d] at z; cases z⟩
 keep := fun i h h' st k => st.at fun o e => k it (by simp) o e
 item := by
  intro X hP hw hK hc i pins s σ H E I hf st hg
  subst hP hw hK
  obtain ⟨xs, x, hq, hx⟩ := hg
  obtain ⟨its, rv, p, hz⟩ := I.list hq
  obtain ⟨u, hu, ru⟩ := rv.get hx
  obtain ⟨f0, f1, f2, f3, f4, f5⟩ := hf it (by simp)
  refine wpAny_pyNext_list_item st p.isList (x := u) (by simpa using hu) fun h' st' sb => ?_
  have I1 : Inv X pins σ H { s with heap := h' } := I.turned (t' := s.toks) (fun b o hb e => (sb.2 b hb).trans e) f0 f1 f3 f4 f5
  obtain ⟨o, e, c, d⟩ := id st'
  exact ⟨u, rfl, go_of (s := { s with heap := h' }) e c d (by decide) ⟨x, H, I1, ru, ⟨rfl, fun ys hy => by rw [I.list_inj hy hq]; exact hx⟩, st', fun b hb => (hf b hb).1⟩⟩
 done := by
  intro X hP hw hK hc i pins s σ H E I hf st hg
  subst hP hw hK
  obtain ⟨xs, hq, hx⟩ := hg
  obtain ⟨its, rv, p, hz⟩ := I.list hq
  obtain ⟨f0, f1, f2, f3, f4, f5⟩ := hf it (by simp)
  have hl := rv.length
  exact wpAny_pyNext_list_end (I.ok.hd hc) st p.isList (by simp; omega) fun h' eb => ⟨rfl, I.turned (t' := s.toks) (fun b o hb e => eb b o hb e) f0 f1 f3 f4 f5⟩
 self := fun _ _ _ _ _ st h => wpAny_pyIter_listiter st h
theorem turn_tuple {P : Program} {w : World} {K : Frag} {tg : Expr} (a it : Addr) : Turn P w K tg (Itt K a) [it] it (fun i h => h.IsTupleIter it a i) where
 mem := by simp
 obj := fun i h st b hb => by
  have e : b = it := by simpa using hb
  subst e
  obtain ⟨o, e, c, d⟩ := st
  exact ⟨o, e, fun v z => by rw [d] at z; cases z⟩
 keep := fun i h h' st k => st.at fun o e => k it (by simp) o e
 item := by
  intro X hP hw hK hc i pins s σ H E I hf st hg
  subst hP hw hK
  obtain ⟨xs, x, hq, hx⟩ := hg
  obtain ⟨its, rv, p, hz⟩ := I.tuple hq
  obtain ⟨u, hu, ru⟩ := rv.get hx
  obtain ⟨f0, f1, f2, f3, f4, f5⟩ := hf it (by simp)
  refine wpAny_pyNext_tuple_item st (show s.heap.IsTuple a its.toArray from p) (x := u) (by simpa using hu) fun h' st' sb => ?_
  have I1 : Inv X pins σ H { s with heap := h' } := I.turned (t' := s.toks) (fun b o hb e => (sb.2 b hb).trans e) f0 f1 f3 f4 f5
  obtain ⟨o, e, c, d⟩ := id st'
  exact ⟨u, rfl, go_of (s := { s with heap := h' }) e c d (by decide) ⟨x, H, I1, ru, ⟨rfl, fun ys hy => by rw [I.tuple_inj hy hq]; exact hx⟩, st', fun b hb => (hf b hb).1⟩⟩
 done := by
  intro X hP hw hK hc i pins s σ H E I hf st hg
  subst hP hw hK
  obtain ⟨xs, hq, hx⟩ := hg
  obtain ⟨its, rv, p, hz⟩ := I.tuple hq
  obtain ⟨f0, f1, f2, f3, f4, f5⟩ := hf it (by simp)
  have hl := rv.length
  exact wpAny_pyNext_tuple_end (I.ok.hd hc) st (show s.heap.IsTuple a its.toArray from p) (by simp; omega) fun h' eb => ⟨rfl, I.turned (t' := s.toks) (fun b o hb e => eb b o hb e) f0 f1 f3 f4 f5⟩
 self := fun _ _ _ _ _ st h => wpAny_pyIter_tupleiter st h
theorem turn_range {P : Program} {w : World} {K : Frag} {tg : Expr} (it : Addr) (lo : Int) (n : Nat) : Turn P w K tg (Itr lo n) [it] it (fun i h => IsRangeIter h it (lo + (i : Nat) * 1) ((n : Int) - (i : Nat)) 1) where
 mem := by simp
 obj := fun i h st b hb => by
  have e : b = it := by simpa using hb
  subst e
  exact ⟨_, st, fun v z => by
   have z' : Data.fields _ = Data.cell v := z
   cases z'⟩
 keep := fun i h h' st k => k it (by simp) _ st
 item := by
  intro X hP hw hK hc i pins s σ H E I hf st hg
  subst hP hw hK
  obtain ⟨f0, f1, f2, f3, f4, f5⟩ := hf it (by simp)
  have W := Walks.range (prog := X.prog) (w := X.w) (I.ok.hd hc) it lo 1 n
  refine W.item i s _ _ hg st fun v h' tk hv st' kk => ?_
  obtain ⟨t, rfl⟩ := hv
  have I1 : Inv X pins σ H { s with heap := h', toks := tk } := I.turned (fun b o hb e => kk b o (by simpa using hb) e) f0 f1 f3 f4 f5
  refine ⟨_, rfl, go_of (s := { s with heap := h', toks := tk }) (n := "range_iterator") st' rfl rfl (by decide) ⟨.int (lo + i), H, I1, ⟨t, ?_⟩, ⟨rfl, rfl⟩, st', fun b hb => (hf b hb).1⟩⟩
  rw [Int.mul_one]
 done := by
  intro X hP hw hK hc i pins s σ H E I hf st hg
  subst hP hw hK
  obtain ⟨f0, f1, f2, f3, f4, f5⟩ := hf it (by simp)
  exact wpAny_pyNext_range_end (I.ok.hd hc) st (by have : n ≤ i := hg; omega) fun h' eb => ⟨rfl, I.turned (t' := s.toks) (fun b o hb e => eb b o hb e) f0 f1 f3 f4 f5⟩
 self := fun _ _ _ _ _ st h => wpAny_pyIter_rangeiter st h
end L2
namespace L2
open PySem PySem.Spec PyProof.Rows
section
variable {X : Cx} {tg : Expr}
def iList (K : Frag) (tl : TE) : TI := fun σ H R => tl σ H fun x H1 => ∃ a, x = .ref a ∧ (∃ xs, SqL K H1 a xs) ∧ R (Itl K a) H1
def iTup (K : Frag) (tl : TE) : TI := fun σ H R => tl σ H fun x H1 => ∃ a, x = .ref a ∧ (∃ xs, SqT K H1 a xs) ∧ R (Itt K a) H1
theorem pi_list {l : Expr} {tl : TE} (hl : PE X l tl) : PI X tg l (iList X.K tl) := by
 intro pins s σ H R I h
 refine thn (hl pins s σ H _ I h) fun v s1 ⟨x, H1, I1, r1, q1⟩ => ?_
 obtain ⟨a, e, ⟨xs, hq⟩, q⟩ := q1
 subst e
 cases r1
 obtain ⟨its, rv, p, hz⟩ := I1.list hq
 refine wpAny_pyIter_list p.isList ?_
 refine ⟨s1.heap.objs.size, [s1.heap.objs.size], _, _, H1, rfl, I1.kept (t' := s1.toks) fun b o e => Heap.get?_push_of_some _ e, turn_list a _, ⟨_, Heap.get?_push_size _ rfl, rfl, rfl⟩, fun b hb => ?_, q⟩
 have e : b = s1.heap.objs.size := by simpa using hb
 subst e
 exact I1.fpOk (Nat.le_refl _) (I1.hok.fresh (Nat.le_refl _))
theorem pi_tup {l : Expr} {tl : TE} (hl : PE X l tl) : PI X tg l (iTup X.K tl) := by
 intro pins s σ H R I h
 refine thn (hl pins s σ H _ I h) fun v s1 ⟨x, H1, I1, r1, q1⟩ => ?_
 obtain ⟨a, e, ⟨xs, hq⟩, q⟩ := q1
 subst e
 cases r1
 obtain ⟨its, rv, p, hz⟩ := I1.tuple hq
 refine wpAny_pyIter_tuple (show s1.heap.IsTuple a its.toArray from p) ?_
 refine ⟨s1.heap.objs.size, [s1.heap.objs.size], _, _, H1, rfl, I1.kept (t' := s1.toks) fun b o e => Heap.get?_push_of_some _ e, turn_tuple a _, ⟨_, Heap.get?_push_size _ rfl, rfl, rfl⟩, fun b hb => ?_, q⟩
 have e : b = s1.heap.objs.size := by simpa using hb
 subst e
 exact I1.fpOk (Nat.le_refl _) (I1.hok.fresh (Nat.le_refl _))
theorem range_it {pins : List (Addr × Obj)} {σ : St} {H : Hp} {s : Shared} {R : It → Hp → Prop} {E : Value → Shared → Prop} {lo hi : Int} {t u v : Tok} {tk : Nat} (I : Inv X pins σ H s) (h1 : -(2 ^ 62) ≤ lo) (h2 : lo < 2 ^ 62) (h3 : -(2 ^ 62) ≤ hi) (h4 : hi < 2 ^ 62)
  (q : R (Itr lo (hi - lo).toNat) H) : wpAny (model X.prog X.w) X.A (pyIter (.ref s.heap.objs.size)) (PIE X pins σ tg R) E { s with heap := s.heap.push { cls := .type "range", data := .fields #[.int lo t, .int hi u, .int 1 v] }, toks := tk } := by
 refine wpAny_pyIter_range (IsRange.new ..) (small_one h1 h2 h3 h4) ?_
 have I1 : Inv X pins σ H { s with heap := s.heap.push { cls := .type "range", data := .fields #[.int lo t, .int hi u, .int 1 v] }, toks := tk } := I.kept fun b o e => Heap.get?_push_of_some _ e
 refine ⟨(s.heap.push { cls := .type "range", data := .fields #[.int lo t, .int hi u, .int 1 v] }).objs.size, [(s.heap.push { cls := .type "range", data := .fields #[.int lo t, .int hi u, .int 1 v] }).objs.size], _, _, H, rfl,
  I1.kept (t' := tk) fun b o e => Heap.get?_push_of_some _ e, turn_range _ lo (hi - lo).toNat, ?_, fun b hb => ?_, q⟩
 ·have e1 : lo + ((0 : Nat) : Int) * 1 = lo := by simp
  have e2 : (((hi - lo).toNat : Nat) : Int) - ((0 : Nat) : Int) = Builtin.Range.rangeSize lo hi 1 := by rw [rangeSize_one]; split <;> omega
  show IsRangeIter _ _ (lo + ((0 : Nat) : Int) * 1) ((((hi - lo).toNat : Nat) : Int) - ((0 : Nat) : Int)) 1
  rw [e1, e2]
  exact Heap.get?_push_size _ rfl
 ·have e : b = (s.heap.push { cls := .type "range", data := .fields #[.int lo t, .int hi u, .int 1 v] }).objs.size := by simpa using hb
  subst e
  exact I1.fpOk (Nat.le_refl _) (I1.hok.fresh (Nat.le_refl _))
def iRng1 (ta : TA) : TI := fun σ H R => ta σ H fun vs H1 => ∃ j : Int, vs = [.int j] ∧ -(2 ^ 62) ≤ j ∧ j < 2 ^ 62 ∧ R (Itr 0 j.toNat) H1
def iRng2 (ta : TA) : TI := fun σ H R => ta σ H fun vs H1 => ∃ i j : Int, vs = [.int i, .int j] ∧ (-(2 ^ 62) ≤ i ∧ i < 2 ^ 62 ∧ -(2 ^ 62) ≤ j ∧ j < 2 ^ 62) ∧ R (Itr i (j - i).toNat) H1
theorem pi_range1 {a : Expr} {ta : TA} {p pos : Pos} (hg : Gl X "range") (hm : X.mg "range" = none) (ha : PA X [a] ta) (hs : starEach [a] X.env = [(false, eval a X.env)] := by rfl) : PI X tg (.Call (.Name "range" p) [a] [] pos) (iRng1 ta) := by
 intro pins s σ H R I h
 refine Call_ (ld_blt I hg hm boot_range (PyProof.Rows.callWith_type1 (thn (ha pos pins s σ H _ I h) fun us s1 ⟨vs, H1, I1, r1, q1⟩ => ?_) hs rfl))
 obtain ⟨j, e, q1, q2, q⟩ := q1
 subst e
 cases r1 with
 | cons r rr =>
  cases rr
  obtain ⟨t, rfl⟩ := r
  exact call_range_1 (range_it I1 (by omega) (by omega) q1 q2 (by simpa using q))
def tFor (wi : TI) (g : TG) (tb : TS) : TS := fun D σ H => wi σ H fun J H1 => ∃ W : Nat → Nat → St → Hp → Prop, (∃ m, W 0 m σ H1) ∧ ∀ i m σ H, W i m σ H →
 (J.stop i H ∧ D.nx σ H) ∨ (J.go i H ∧ ∃ N : St → Hp → Prop, (∀ σ' H', N σ' H' → ∃ m', m' < m ∧ W (i + 1) m' σ' H') ∧ ∀ x H', J.yld i H x H' → g x σ H' fun σ2 H2 => tb { D with nx := N, ct := N, bk := D.nx } σ2 H2)
def pinsAt (fp : List Addr) (h : Heap) : List (Addr × Obj) := fp.filterMap fun b => (h.get? b).map fun o => (b, o)
theorem mem_pinsAt {fp : List Addr} {h : Heap} {b : Addr} {o : Obj} (hb : b ∈ fp) (e : h.get? b = some o) : (b, o) ∈ pinsAt fp h := List.mem_filterMap.mpr ⟨b, hb, by rw [e]; rfl⟩
theorem of_pinsAt {fp : List Addr} {h : Heap} {p : Addr × Obj} (hp : p ∈ pinsAt fp h) : p.1 ∈ fp ∧ h.get? p.1 = some p.2 := by
 obtain ⟨b, hb, e⟩ := List.mem_filterMap.mp hp
 cases q : h.get? b with
 | none => rw [q] at e; cases e
 | some o =>
  rw [q] at e
  have e' : (b, o) = p := Option.some.inj e
  subst e'
  exact ⟨hb, q⟩
theorem Inv.pinned {pins : List (Addr × Obj)} {σ : St} {H : Hp} {s : Shared} {fp : List Addr} (I : Inv X pins σ H s) (hf : ∀ b ∈ fp, FpOk X pins H b) (ho : ∀ b ∈ fp, ∃ o, s.heap.get? b = some o ∧ ∀ v, o.data ≠ .cell v) : Inv X (pins ++ pinsAt fp s.heap) σ H s :=
 I.pins_of fun p hp => (List.mem_append.mp hp).elim (fun z => I.pin p (List.mem_append_right _ z)) fun z => by
  obtain ⟨hb, e⟩ := of_pinsAt z
  obtain ⟨f0, f1, f2, _⟩ := hf p.1 hb
  obtain ⟨o, e', d⟩ := ho p.1 hb
  rw [e] at e'; cases e'
  exact ⟨e, f0, f1, f2, d⟩
theorem Inv.unpinned {pins pl : List (Addr × Obj)} {σ : St} {H : Hp} {s : Shared} (I : Inv X (pins ++ pl) σ H s) : Inv X pins σ H s := I.pins_of fun p hp => I.pin p (List.mem_append_right _ (List.mem_append_left _ hp))
theorem ps_for {iter : Expr} {body : List Stmt} {wi : TI} {g : TG} {tb : TS} {pos : Pos} (hp : PassesOwn (model X.prog X.w) X.A X.env X.xe) (hc : X.calm = true) (hi : PI X tg iter wi) (hg : PG X tg g) (hb : PSs X body tb)
  (hs : ∀ x, foldedSetIterable iter X.env x = pure x := by intro _; rfl) : PS X (.For tg iter body [] pos) (tFor wi g tb) := by
 intro pins s σ H D I h
 refine wpAny_For (thn (hi pins s σ H _ I h) fun v s1 h1 => thn h1 fun itv s2 h2 => ?_) hs
 obtain ⟨it, fp, tn, J, H2, e, I2, T, st2, f2, W, ⟨m0, w0⟩, turn⟩ := h2
 subst e
 have stat : ∀ {H' : Hp}, (∀ b ∈ fp, H' b = none) → ∀ b ∈ fp, FpOk X pins H' b := fun hn b hb => ⟨hn b hb, (f2 b hb).2⟩
 refine codeAny_forLoop_any (fun n s' => ∃ i σ' H', Inv X pins σ' H' s' ∧ tn i s'.heap ∧ (∀ b ∈ fp, H' b = none) ∧ W i n σ' H') ?_ m0 ⟨0, σ, H2, I2, st2, fun b hb => (f2 b hb).1, w0⟩
 rintro n s3 ⟨i, σ3, H3, I3, st3, fr3, w3⟩
 rcases turn i n σ3 H3 w3 with ⟨stop, qn⟩ | ⟨go, N, hN, step⟩
 ·refine wpAny_passesOwn hp (thn (T.done X rfl rfl rfl hc i pins s3 σ3 H3 X.xe I3 (stat fr3) st3 stop) fun r s4 ⟨hr, I4⟩ => ?_)
  subst hr
  exact wpAny_execs_nil ⟨σ3, H3, I4, qn⟩
 ·refine wpAny_passesOwn hp (thn (T.item X rfl rfl rfl hc i pins s3 σ3 H3 X.xe I3 (stat fr3) st3 go) fun r s4 ⟨u, hr, h4⟩ => ?_)
  subst hr
  refine wpAny_passesOwn hp (thn h4 fun _ s5 ⟨x, H5, I5, r5, y5, st5, fr5⟩ => ?_)
  have I5' := I5.pinned (stat fr5) (T.obj _ _ st5)
  refine wpAny_passesOwn hp (thn (hg _ s5 σ3 H5 x u _ I5' r5 (step x H5 y5)) fun _ s6 ⟨σ6, H6, I6, q6⟩ => ?_)
  refine wpAny_passesOwn hp (thn (hb _ s6 σ6 H6 _ I6 q6) fun f s7 q7 => ?_)
  have again : ∀ {σ7 : St} {H7 : Hp}, Inv X (pins ++ pinsAt fp s5.heap) σ7 H7 s7 → N σ7 H7 → ∃ m, m < n ∧ ∃ i σ' H', Inv X pins σ' H' s7 ∧ tn i s7.heap ∧ (∀ b ∈ fp, H' b = none) ∧ W i m σ' H' := fun {σ7 H7} I7 n7 => by
   obtain ⟨m', hm, w7⟩ := hN σ7 H7 n7
   refine ⟨m', hm, i + 1, σ7, H7, I7.unpinned, T.keep _ _ _ st5 fun b hb o e => (I7.pin (b, o) (List.mem_append_right _ (List.mem_append_right _ (mem_pinsAt hb e)))).1, fun b hb => ?_, w7⟩
   obtain ⟨o, e, d⟩ := T.obj _ _ st5 b hb
   exact (I7.pin (b, o) (List.mem_append_right _ (List.mem_append_right _ (mem_pinsAt hb e)))).2.1
  cases f with
  | next => obtain ⟨σ7, H7, I7, n7⟩ := q7; exact again I7 n7
  | cont => obtain ⟨σ7, H7, I7, n7⟩ := q7; exact again I7 n7
  | brk => obtain ⟨σ7, H7, I7, q7⟩ := q7; exact ⟨σ7, H7, I7.unpinned, q7⟩
  | ret v => obtain ⟨x7, σ7, H7, I7, r7, q7⟩ := q7; exact ⟨x7, σ7, H7, I7.unpinned, r7, q7⟩
end
theorem for_list {K : Frag} {a : Addr} {xs : List V} {g : TG} {tb : TS} {D : Ends} {σ : St} {H : Hp} (Pv : Nat → St → Hp → Prop) (h0 : Pv 0 σ H) (hl : ∀ i σ H, i ≤ xs.length → Pv i σ H → SqL K H a xs)
  (hs : ∀ i x σ H, xs[i]? = some x → Pv i σ H → g x σ H fun σ2 H2 => tb { D with nx := Pv (i + 1), ct := Pv (i + 1), bk := D.nx } σ2 H2) (hd : ∀ σ H, Pv xs.length σ H → D.nx σ H) :
  ∃ W : Nat → Nat → St → Hp → Prop, (∃ m, W 0 m σ H) ∧ ∀ i m σ H, W i m σ H →
   ((Itl K a).stop i H ∧ D.nx σ H) ∨ ((Itl K a).go i H ∧ ∃ N : St → Hp → Prop, (∀ σ' H', N σ' H' → ∃ m', m' < m ∧ W (i + 1) m' σ' H') ∧ ∀ x H', (Itl K a).yld i H x H' → g x σ H' fun σ2 H2 => tb { D with nx := N, ct := N, bk := D.nx } σ2 H2) := by
 refine ⟨fun i m σ H => m = xs.length - i ∧ i ≤ xs.length ∧ Pv i σ H, ⟨xs.length, by simp, Nat.zero_le _, h0⟩, ?_⟩
 rintro i m σ H ⟨rfl, hi, p⟩
 have q := hl i σ H hi p
 by_cases hlt : i < xs.length
 ·refine .inr ⟨⟨xs, xs[i], q, by simp [hlt]⟩, Pv (i + 1), fun σ' H' p' => ⟨xs.length - (i + 1), by omega, rfl, hlt, p'⟩, fun x H' y => ?_⟩
  obtain ⟨e, y⟩ := y
  subst e
  exact hs i x σ _ (y xs q) p
 ·have e : i = xs.length := by omega
  subst e
  exact .inl ⟨⟨xs, q, Nat.le_refl _⟩, hd σ H p⟩
theorem for_tup {K : Frag} {a : Addr} {xs : List V} {g : TG} {tb : TS} {D : Ends} {σ : St} {H : Hp} (Pv : Nat → St → Hp → Prop) (h0 : Pv 0 σ H) (hl : ∀ i σ H, i ≤ xs.length → Pv i σ H → SqT K H a xs)
  (hs : ∀ i x σ H, xs[i]? = some x → Pv i σ H → g x σ H fun σ2 H2 => tb { D with nx := Pv (i + 1), ct := Pv (i + 1), bk := D.nx } σ2 H2) (hd : ∀ σ H, Pv xs.length σ H → D.nx σ H) :
  ∃ W : Nat → Nat → St → Hp → Prop, (∃ m, W 0 m σ H) ∧ ∀ i m σ H, W i m σ H →
   ((Itt K a).stop i H ∧ D.nx σ H) ∨ ((Itt K a).go i H ∧ ∃ N : St → Hp → Prop, (∀ σ' H', N σ' H' → ∃ m', m' < m ∧ W (i + 1) m' σ' H') ∧ ∀ x H', (Itt K a).yld i H x H' → g x σ H' fun σ2 H2 => tb { D with nx := N, ct := N, bk := D.nx } σ2 H2) := by
 refine ⟨fun i m σ H => m = xs.length - i ∧ i ≤ xs.length ∧ Pv i σ H, ⟨xs.length, by simp, Nat.zero_le _, h0⟩, ?_⟩
 rintro i m σ H ⟨rfl, hi, p⟩
 have q := hl i σ H hi p
 by_cases hlt : i < xs.length
 ·refine .inr ⟨⟨xs, xs[i], q, by simp [hlt]⟩, Pv (i + 1), fun σ' H' p' => ⟨xs.length - (i + 1), by omega, rfl, hlt, p'⟩, fun x H' y => ?_⟩
  obtain ⟨e, y⟩ := y
  subst e
  exact hs i x σ _ (y xs q) p
 ·have e : i = xs.length := by omega
  subst e
  exact .inl ⟨⟨xs, q, Nat.le_refl _⟩, hd σ H p⟩
theorem for_range {lo : Int} {n : Nat} {g : TG} {tb : TS} {D : Ends} {σ : St} {H : Hp} (Pv : Nat → St → Hp → Prop) (h0 : Pv 0 σ H)
  (hs : ∀ i σ H, i < n → Pv i σ H → g (.int (lo + i)) σ H fun σ2 H2 => tb { D with nx := Pv (i + 1), ct := Pv (i + 1), bk := D.nx } σ2 H2) (hd : ∀ σ H, Pv n σ H → D.nx σ H) :
  ∃ W : Nat → Nat → St → Hp → Prop, (∃ m, W 0 m σ H) ∧ ∀ i m σ H, W i m σ H →
   ((Itr lo n).stop i H ∧ D.nx σ H) ∨ ((Itr lo n).go i H ∧ ∃ N : St → Hp → Prop, (∀ σ' H', N σ' H' → ∃ m', m' < m ∧ W (i + 1) m' σ' H') ∧ ∀ x H', (Itr lo n).yld i H x H' → g x σ H' fun σ2 H2 => tb { D with nx := N, ct := N, bk := D.nx } σ2 H2) := by
 refine ⟨fun i m σ H => m = n - i ∧ i ≤ n ∧ Pv i σ H, ⟨n, by simp, Nat.zero_le _, h0⟩, ?_⟩
 rintro i m σ H ⟨rfl, hi, p⟩
 by_cases hlt : i < n
 ·refine .inr ⟨hlt, Pv (i + 1), fun σ' H' p' => ⟨n - (i + 1), by omega, rfl, hlt, p'⟩, fun x H' y => ?_⟩
  obtain ⟨e, y⟩ := y
  subst e y
  exact hs i σ _ hlt p
 ·have e : i = n := by omega
  subst e
  exact .inl ⟨Nat.le_refl _, hd σ H p⟩
theorem while_by {c : TT} {tb : TS} {D : Ends} {σ : St} {H : Hp} (Pv : St → Hp → Prop) (μ : St → Hp → Nat) (h0 : Pv σ H)
  (hs : ∀ σ H, Pv σ H → c σ H fun b H1 => if b = true then tb { D with nx := fun σ' H' => Pv σ' H' ∧ μ σ' H' < μ σ H, ct := fun σ' H' => Pv σ' H' ∧ μ σ' H' < μ σ H, bk := D.nx } σ H1 else D.nx σ H1)
  (mono : ∀ σ H Q Q', (∀ b H1, Q b H1 → Q' b H1) → c σ H Q → c σ H Q') : tWhile c tb D σ H := by
 refine ⟨fun m σ H => m = μ σ H ∧ Pv σ H, ⟨_, rfl, h0⟩, ?_⟩
 rintro m σ H ⟨rfl, p⟩
 refine mono σ H _ _ (fun b H1 q => ?_) (hs σ H p)
 cases b with
 | true => exact ⟨_, fun σ' H' ⟨p', l⟩ => ⟨_, l, rfl, p'⟩, q⟩
 | false => exact q
end L2
namespace L2
open PySem PySem.Spec PyProof.Rows
abbrev R2 := V → V → Hp → VK → Prop
def OpR (X : Cx) (f : Value → Value → Sem Value) (r : R2) : Prop :=
 ∀ (pins : List (Addr × Obj)) (s : Shared) (σ : St) (H : Hp) (x y : V) (v u : Value) (Q : VK), Inv X pins σ H s → RelV x v → RelV y u → r x y H Q →
  wpAny (model X.prog X.w) X.A (f v u) (EP X pins σ Q) X.xe s
def UnR (X : Cx) (f : Value → Sem Value) (r : V → Hp → VK → Prop) : Prop :=
 ∀ (pins : List (Addr × Obj)) (s : Shared) (σ : St) (H : Hp) (x : V) (v : Value) (Q : VK), Inv X pins σ H s → RelV x v → r x H Q →
  wpAny (model X.prog X.w) X.A (f v) (EP X pins σ Q) X.xe s
def CallR (X : Cx) (f : Value) (r : List V → Hp → VK → Prop) : Prop :=
 ∀ (pins : List (Addr × Obj)) (s : Shared) (σ : St) (H : Hp) (xs : List V) (us : List Value) (Q : VK), Inv X pins σ H s → Vals xs us → r xs H Q →
  wpAny (model X.prog X.w) X.A (call f us) (EP X pins σ Q) X.xe s
def TruR (X : Cx) (r : V → Hp → (Bool → Hp → Prop) → Prop) : Prop :=
 ∀ (pins : List (Addr × Obj)) (s : Shared) (σ : St) (H : Hp) (x : V) (v : Value) (Q : Bool → Hp → Prop), Inv X pins σ H s → RelV x v → r x H Q →
  wpAny (model X.prog X.w) X.A (truthy v) (TP X pins σ Q) X.xe s
def tOp (r : R2) (ta tb : TE) : TE := fun σ H Q => ta σ H fun x H1 => tb σ H1 fun y H2 => r x y H2 Q
def tUn (r : V → Hp → VK → Prop) (ta : TE) : TE := fun σ H Q => ta σ H fun x H1 => r x H1 Q
def rI (C : Int → Int → Prop) (g : Int → Int → V) : R2 := fun x y H Q => ∃ i j, x = .int i ∧ y = .int j ∧ C i j ∧ Q (g i j) H
def rI0 (g : Int → Int → V) : R2 := fun x y H Q => ∃ i j, x = .int i ∧ y = .int j ∧ Q (g i j) H
def rU (g : Int → V) : V → Hp → VK → Prop := fun x H Q => ∃ i, x = .int i ∧ Q (g i) H
section
variable {X : Cx} {a b c : Expr} {ta tb tc : TE} {pos : Pos}
theorem binT (ha : PE X a ta) (hb : PE X b tb) {pins : List (Addr × Obj)} {s : Shared} {σ : St} {H : Hp} {R : V → V → Hp → Prop} (I : Inv X pins σ H s)
  (h : ta σ H fun x H1 => tb σ H1 fun y H2 => R x y H2) {Q : Value → Shared → Prop} {f : Value → Value → Sem Value}
  (hf : ∀ v u s2 x y H2, Inv X pins σ H2 s2 → RelV x v → RelV y u → R x y H2 → wpAny (model X.prog X.w) X.A (f v u) Q X.xe s2) :
  wpAny (model X.prog X.w) X.A (eval a X.env) (fun v s₁ => wpAny (model X.prog X.w) X.A (eval b X.env) (fun u s₂ => wpAny (model X.prog X.w) X.A (f v u) Q X.xe s₂) X.xe s₁) X.xe s := by
 refine thn (ha pins s σ H _ I h) fun v s1 ⟨x, H1, I1, r1, q1⟩ => ?_
 refine thn (hb pins s1 σ H1 _ I1 q1) fun u s2 ⟨y, H2, I2, r2, q2⟩ => ?_
 exact hf v u s2 x y H2 I2 r1 r2 q2
theorem pe_op {op : Operator} {r : R2} (ho : OpR X (binaryOp op) r) (ha : PE X a ta) (hb : PE X b tb) : PE X (.BinOp a op b pos) (tOp r ta tb) := by
 intro pins s σ H Q I h
 exact wpAny_BinOp (binT ha hb I h fun v u s2 x y H2 I2 rx ry q => ho pins s2 σ H2 x y v u Q I2 rx ry q)
theorem pe_un {op : UnaryOp} {r : V → Hp → VK → Prop} (ho : UnR X (unaryOp op) r) (ha : PE X a ta) : PE X (.UnaryOp op a pos) (tUn r ta) := by
 intro pins s σ H Q I h
 exact UnaryOp_ (thn (ha pins s σ H _ I h) fun v s1 ⟨x, H1, I1, r1, q1⟩ => ho pins s1 σ H1 x v Q I1 r1 q1)
theorem opI {f : Value → Value → Sem Value} {C : Int → Int → Prop} {g : Int → Int → Int}
  (rule : ∀ (i j : Int) (t u : Tok) (s : Shared) (Q : Value → Shared → Prop) (E : Value → Shared → Prop), C i j → Q (.int (g i j) s.toks) { s with toks := s.toks + 1 } → wpAny (model X.prog X.w) X.A (f (.int i t) (.int j u)) Q E s) :
  OpR X f (rI C fun i j => .int (g i j)) := by
 intro pins s σ H x y v u Q I rx ry h
 obtain ⟨i, j, rfl, rfl, hc, q⟩ := h
 obtain ⟨t, rfl⟩ := rx
 obtain ⟨t', rfl⟩ := ry
 exact rule i j t t' s _ _ hc ⟨.int (g i j), H, I.tok _, ⟨_, rfl⟩, q⟩
theorem opI0 {f : Value → Value → Sem Value} {g : Int → Int → Int}
  (rule : ∀ (i j : Int) (t u : Tok) (s : Shared) (Q : Value → Shared → Prop) (E : Value → Shared → Prop), Q (.int (g i j) s.toks) { s with toks := s.toks + 1 } → wpAny (model X.prog X.w) X.A (f (.int i t) (.int j u)) Q E s) :
  OpR X f (rI0 fun i j => .int (g i j)) := by
 intro pins s σ H x y v u Q I rx ry h
 obtain ⟨i, j, rfl, rfl, q⟩ := h
 obtain ⟨t, rfl⟩ := rx
 obtain ⟨t', rfl⟩ := ry
 exact rule i j t t' s _ _ ⟨.int (g i j), H, I.tok _, ⟨_, rfl⟩, q⟩
theorem opB0 {f : Value → Value → Sem Value} {g : Int → Int → Bool}
  (rule : ∀ (i j : Int) (t u : Tok) (s : Shared) (Q : Value → Shared → Prop) (E : Value → Shared → Prop), Q (.bool (g i j)) s → wpAny (model X.prog X.w) X.A (f (.int i t) (.int j u)) Q E s) :
  OpR X f (rI0 fun i j => .bl (g i j)) := by
 intro pins s σ H x y v u Q I rx ry h
 obtain ⟨i, j, rfl, rfl, q⟩ := h
 obtain ⟨t, rfl⟩ := rx
 obtain ⟨t', rfl⟩ := ry
 exact rule i j t t' s _ _ ⟨.bl (g i j), H, I, rfl, q⟩
def CDiv (i j : Int) : Prop := 0 < j ∧ j < 1073741824
def CDivN (i j : Int) : Prop := j ≠ 0 ∧ j.natAbs < 1073741824
def CPow (i j : Int) : Prop := 0 ≤ j ∧ j ≤ 1000000 ∧ i.natAbs < 2 ^ 64
def CMul (i j : Int) : Prop := (-(2 ^ 64) < i ∧ i < 2 ^ 64) ∨ (-(2 ^ 64) < j ∧ j < 2 ^ 64)
theorem op_add : OpR X (binaryOp .Add) (rI0 fun i j => .int (i + j)) := opI0 fun _ _ _ _ _ _ _ q => add_int q
theorem op_sub : OpR X (binaryOp .Sub) (rI0 fun i j => .int (i - j)) := opI0 fun _ _ _ _ _ _ _ q => sub_int q
theorem op_modN : OpR X (binaryOp .Mod) (rI (fun _ j => j ≠ 0) fun i j => .int (i.fmod j)) := opI fun _ _ _ _ _ _ _ hc q => mod_int' hc q
theorem op_pow : OpR X (binaryOp .Pow) (rI CPow fun i j => .int (i ^ j.toNat)) := opI fun _ _ _ _ _ _ _ hc q => pow_int_small hc.1 hc.2.1 hc.2.2 q
theorem unI {f : Value → Sem Value} {g : Int → Int}
  (rule : ∀ (i : Int) (t : Tok) (s : Shared) (Q : Value → Shared → Prop) (E : Value → Shared → Prop), Q (.int (g i) s.toks) { s with toks := s.toks + 1 } → wpAny (model X.prog X.w) X.A (f (.int i t)) Q E s) :
  UnR X f (rU fun i => .int (g i)) := by
 intro pins s σ H x v Q I rx h
 obtain ⟨i, rfl, q⟩ := h
 obtain ⟨t, rfl⟩ := rx
 exact rule i t s _ _ ⟨.int (g i), H, I.tok _, ⟨_, rfl⟩, q⟩
theorem un_neg : UnR X (unaryOp .USub) (rU fun i => .int (-i)) := unI fun _ _ _ _ _ q => neg_int q
end
def scal : V → V → Bool
 | .non, .non => true | .non, .int _ => true | .int _, .non => true | .non, .bl _ => true | .bl _, .non => true | .non, .str _ => true | .str _, .non => true
 | .int _, .int _ => true | .bl _, .bl _ => true | .str _, .str _ => true | .byt _, .byt _ => true
 | .int _, .str _ => true | .str _, .int _ => true | .bl _, .str _ => true | .str _, .bl _ => true
 | _, _ => false
def rEq : R2 := fun x y H Q => scal x y = true ∧ Q (.bl (decide (x = y))) H
def rNe : R2 := fun x y H Q => scal x y = true ∧ Q (.bl (!decide (x = y))) H
theorem dec_int {i j : Int} : decide (V.int i = V.int j) = (i == j) := by
 rw [Bool.eq_iff_iff]
 simp
theorem dec_bl {i j : Bool} : decide (V.bl i = V.bl j) = (i == j) := by
 rw [Bool.eq_iff_iff]
 simp
theorem dec_str {i j : Str} : decide (V.str i = V.str j) = (i == j) := by
 rw [Bool.eq_iff_iff]
 simp
theorem dec_byt {i j : Array UInt8} : decide (V.byt i = V.byt j) = (i.toList == j.toList) := by
 rw [Bool.eq_iff_iff]
 cases i
 cases j
 simp
section
variable {X : Cx} {a b c : Expr} {ta tb tc : TE} {pos : Pos}
theorem fin_bl {pins : List (Addr × Obj)} {σ : St} {H : Hp} {s : Shared} {Q : VK} {k k' : Bool} (I : Inv X pins σ H s) (q : Q (.bl k) H) (e : k = k') : EP X pins σ Q (.bool k') s := by
 subst e
 exact ⟨.bl k, H, I, rfl, q⟩
theorem op_eq : OpR X (compareOp .Eq) rEq := by
 intro pins s σ H x y v u Q I rx ry h
 obtain ⟨hs, q⟩ := h
 cases x with
 | non =>
  cases rx
  cases y with
  | non => cases ry; exact PySem.EqNone.eq_none_none (fin_bl I q (by simp))
  | bl j => cases ry; exact PySem.EqNone.eq_none_bool (fin_bl I q (by simp))
  | int j => obtain ⟨t', rfl⟩ := ry; exact PySem.EqNone.eq_none_int (fin_bl I q (by simp))
  | str j => obtain ⟨t', rfl⟩ := ry; exact PySem.EqNone.eq_none_str (fin_bl I q (by simp))
  | _ => exact absurd (show false = true from hs) Bool.false_ne_true
 | bl i =>
  cases rx
  cases y with
  | non => cases ry; exact PySem.EqNone.eq_bool_none (fin_bl I q (by simp))
  | bl j => cases ry; exact eq_bool (fin_bl I q dec_bl)
  | str j => obtain ⟨t', rfl⟩ := ry; exact PySem.EqMixed.eq_bool_str (fin_bl I q (by simp))
  | _ => exact absurd (show false = true from hs) Bool.false_ne_true
 | int i =>
  obtain ⟨t, rfl⟩ := rx
  cases y with
  | non => cases ry; exact PySem.EqNone.eq_int_none (fin_bl I q (by simp))
  | int j => obtain ⟨t', rfl⟩ := ry; exact eq_int (fin_bl I q dec_int)
  | str j => obtain ⟨t', rfl⟩ := ry; exact PySem.EqMixed.eq_int_str (fin_bl I q (by simp))
  | _ => exact absurd (show false = true from hs) Bool.false_ne_true
 | str i =>
  obtain ⟨t, rfl⟩ := rx
  cases y with
  | non => cases ry; exact PySem.EqNone.eq_str_none (fin_bl I q (by simp))
  | bl j => cases ry; exact PySem.EqMixed.eq_str_bool (fin_bl I q (by simp))
  | int j => obtain ⟨t', rfl⟩ := ry; exact PySem.EqMixed.eq_str_int (fin_bl I q (by simp))
  | str j => obtain ⟨t', rfl⟩ := ry; exact eq_str (fin_bl I q dec_str)
  | _ => exact absurd (show false = true from hs) Bool.false_ne_true
 | byt i =>
  obtain ⟨t, rfl⟩ := rx
  cases y with
  | byt j => obtain ⟨t', rfl⟩ := ry; exact PySem.W.eq_bytes (fin_bl I q dec_byt)
  | _ => exact absurd (show false = true from hs) Bool.false_ne_true
 | _ => cases y <;> exact absurd (show false = true from hs) Bool.false_ne_true
theorem op_ne : OpR X (compareOp .NotEq) rNe := by
 intro pins s σ H x y v u Q I rx ry h
 obtain ⟨hs, q⟩ := h
 cases x with
 | non =>
  cases rx
  cases y with
  | non => cases ry; exact PySem.EqNone.ne_none_none (fin_bl I q (by simp))
  | bl j => cases ry; exact PySem.EqNone.ne_none_bool (fin_bl I q (by simp))
  | int j => obtain ⟨t', rfl⟩ := ry; exact PySem.EqNone.ne_none_int (fin_bl I q (by simp))
  | str j => obtain ⟨t', rfl⟩ := ry; exact PySem.EqNone.ne_none_str (fin_bl I q (by simp))
  | _ => exact absurd (show false = true from hs) Bool.false_ne_true
 | bl i =>
  cases rx
  cases y with
  | non => cases ry; exact PySem.EqNone.ne_bool_none (fin_bl I q (by simp))
  | bl j => cases ry; exact ne_bool (fin_bl I q (congrArg not dec_bl))
  | str j => obtain ⟨t', rfl⟩ := ry; exact PySem.EqMixed.ne_bool_str (fin_bl I q (by simp))
  | _ => exact absurd (show false = true from hs) Bool.false_ne_true
 | int i =>
  obtain ⟨t, rfl⟩ := rx
  cases y with
  | non => cases ry; exact PySem.EqNone.ne_int_none (fin_bl I q (by simp))
  | int j => obtain ⟨t', rfl⟩ := ry; exact ne_int (fin_bl I q (congrArg not dec_int))
  | str j => obtain ⟨t', rfl⟩ := ry; exact PySem.EqMixed.ne_int_str (fin_bl I q (by simp))
  | _ => exact absurd (show false = true from hs) Bool.false_ne_true
 | str i =>
  obtain ⟨t, rfl⟩ := rx
  cases y with
  | non => cases ry; exact PySem.EqNone.ne_str_none (fin_bl I q (by simp))
  | bl j => cases ry; exact PySem.EqMixed.ne_str_bool (fin_bl I q (by simp))
  | int j => obtain ⟨t', rfl⟩ := ry; exact PySem.EqMixed.ne_str_int (fin_bl I q (by simp))
  | str j => obtain ⟨t', rfl⟩ := ry; exact ne_str (fin_bl I q (congrArg not dec_str))
  | _ => exact absurd (show false = true from hs) Bool.false_ne_true
 | byt i =>
  obtain ⟨t, rfl⟩ := rx
  cases y with
  | byt j => obtain ⟨t', rfl⟩ := ry; exact PySem.W.ne_bytes (fin_bl I q (congrArg not dec_byt))
  | _ => exact absurd (show false = true from hs) Bool.false_ne_true
 | _ => cases y <;> exact absurd (show false = true from hs) Bool.false_ne_true
theorem op_lt : OpR X (compareOp .Lt) (rI0 fun i j => .bl (decide (i < j))) := opB0 fun _ _ _ _ _ _ _ q => lt_int q
theorem op_le : OpR X (compareOp .LtE) (rI0 fun i j => .bl (decide (i ≤ j))) := opB0 fun _ _ _ _ _ _ _ q => le_int q
theorem op_gt : OpR X (compareOp .Gt) (rI0 fun i j => .bl (decide (j < i))) := opB0 fun _ _ _ _ _ _ _ q => gt_int q
theorem op_ge : OpR X (compareOp .GtE) (rI0 fun i j => .bl (decide (j ≤ i))) := opB0 fun _ _ _ _ _ _ _ q => ge_int q
theorem op_in_str : OpR X (compareOp .In) (fun x y H Q => ∃ i j, x = .str i ∧ y = .str j ∧ Q (.bl (!(Builtin.Str.occurrences j i 0 j.length 1).isEmpty)) H) := by
 intro pins s σ H x y v u Q I rx ry h
 obtain ⟨i, j, rfl, rfl, q⟩ := h
 obtain ⟨t, rfl⟩ := rx
 obtain ⟨t', rfl⟩ := ry
 exact in_str (fin_bl I q rfl)
theorem op_isN : OpR X (compareOp .Is) (fun x y H Q => y = .non ∧ Q (.bl (decide (x = .non))) H) := by
 intro pins s σ H x y v u Q I rx ry h
 obtain ⟨rfl, q⟩ := h
 cases ry
 refine is_none_gen (fin_bl I q ?_)
 cases x <;> first
  | (cases rx; rfl)
  | (obtain ⟨t, rfl⟩ := rx; rfl)
theorem op_notN : OpR X (compareOp .IsNot) (fun x y H Q => y = .non ∧ Q (.bl (!decide (x = .non))) H) := by
 intro pins s σ H x y v u Q I rx ry h
 obtain ⟨rfl, q⟩ := h
 cases ry
 refine isnot_none_gen (fin_bl I q ?_)
 cases x <;> first
  | (cases rx; rfl)
  | (obtain ⟨t, rfl⟩ := rx; rfl)
def isObj : HO → Bool
 | .lst _ => true
 | .ins _ _ _ => true
 | _ => false
theorem nomark (b : Expr) {op : CmpOp} (h : op ≠ .In := by decide) (h2 : op ≠ .NotIn := by decide) : behindInMarks op b = false := by
 have e1 : (op == CmpOp.In) = false := by cases op <;> first | rfl | exact absurd rfl h
 have e2 : (op == CmpOp.NotIn) = false := by cases op <;> first | rfl | exact absurd rfl h2
 cases b <;> simp [behindInMarks, e1, e2]
theorem pe_cmpR {op : CmpOp} {r : R2} (ho : OpR X (compareOp op) r) (ha : PE X a ta) (hb : PE X b tb) (hm : behindInMarks op b = false) : PE X (.Compare a [op] [b] pos) (tOp r ta tb) := by
 intro pins s σ H Q I h
 exact wpAny_Compare1 (binT ha hb I h fun v u s2 x y H2 I2 rx ry q => ho pins s2 σ H2 x y v u Q I2 rx ry q) hm
def tTest (t : TE) : TT := fun σ H Q => t σ H fun x H' => ∃ k, x = .bl k ∧ Q k H'
theorem pt_cmpR {op : CmpOp} {r : R2} (ho : OpR X (compareOp op) r) (ha : PE X a ta) (hb : PE X b tb) (hm : behindInMarks op b = false) : PT X (.Compare a [op] [b] pos) (tTest (tOp r ta tb)) := by
 intro pins s σ H Q I h
 refine wpAny_isTrue_Compare1 (thn (ha pins s σ H _ I h) fun v s1 ⟨x, H1, I1, r1, q1⟩ => thn (hb pins s1 σ H1 _ I1 q1) fun u s2 ⟨y, H2, I2, r2, q2⟩ =>
  thn (ho pins s2 σ H2 x y v u _ I2 r1 r2 q2) fun c s3 ⟨z, H3, I3, r3, k, e, q3⟩ => ?_) hm
 subst e
 cases r3
 exact wpAny_truthy_bool ⟨H3, I3, q3⟩
def tChain (r r' : R2) (ta tb tc : TE) : TE := fun σ H Q => ta σ H fun x H1 => tb σ H1 fun y H2 => r x y H2 fun z H3 => ∃ k, z = .bl k ∧
 (if k = true then tc σ H3 fun w' H4 => r' y w' H4 Q else Q (.bl false) H3)
theorem pt_chain {op op' : CmpOp} {r r' : R2} (ho : OpR X (compareOp op) r) (ho' : OpR X (compareOp op') r') (ha : PE X a ta) (hb : PE X b tb) (hc : PE X c tc)
  (hm : lastMarks [op, op'] [b, c] = false := by with_unfolding_all rfl) : PT X (.Compare a [op, op'] [b, c] pos) (tTest (tChain r r' ta tb tc)) := by
 intro pins s σ H Q I h
 refine isTrue_chain (thn (ha pins s σ H _ I h) fun v s1 ⟨x, H1, I1, r1, q1⟩ => test_link (thn (hb pins s1 σ H1 _ I1 q1) fun u s2 ⟨y, H2, I2, r2, q2⟩ =>
  thn (ho pins s2 σ H2 x y v u _ I2 r1 r2 q2) fun d s3 ⟨z, H3, I3, r3, k, e, q3⟩ => ?_)) hm
 subst e
 cases r3
 refine wpAny_truthy_bool ?_
 cases k with
 | false =>
  obtain ⟨k', e', q'⟩ := q3
  cases e'
  exact ite_ff ⟨H3, I3, q'⟩
 | true =>
  refine ite_tt (test_last (thn (hc pins s3 σ H3 _ I3 q3) fun w' s4 ⟨z', H4, I4, r4, q4⟩ => thn (ho' pins s4 σ H4 y z' u w' _ I4 r2 r4 q4) fun d' s5 ⟨z2, H5, I5, r5, k2, e2, q5⟩ => ?_))
  subst e2
  cases r5
  exact wpAny_truthy_bool ⟨H5, I5, q5⟩
def TruV (K : Frag) (x : V) (H : Hp) (k : Bool) : Prop :=
 match x with
 | .non => k = false
 | .bl b => k = b
 | .int i => k = (i != 0)
 | .str y => y.length ≤ sizeLine ∧ k = ((y.length : Int) != 0)
 | .byt y => y.size ≤ sizeLine ∧ k = ((y.size : Int) != 0)
 | .ref p => (∃ xs, SqL K H p xs ∧ k = !xs.isEmpty) ∨ (∃ xs, SqT K H p xs ∧ k = !xs.isEmpty) ∨ ∃ kvs, H p = some (.dK kvs) ∧ k = !kvs.isEmpty
 | _ => False
theorem line63 : (sizeLine : Nat) < 2 ^ 63 := by rw [sizeLine_eq]; decide
theorem op_add_str : OpR X (binaryOp .Add) (fun x y H Q => ∃ i j, x = .str i ∧ y = .str j ∧ i.length + j.length ≤ sizeLine ∧ Q (.str (i ++ j)) H) := by
 intro pins s σ H x y v u Q I rx ry h
 obtain ⟨i, j, rfl, rfl, hz, q⟩ := h
 obtain ⟨t, rfl⟩ := rx
 obtain ⟨t', rfl⟩ := ry
 exact add_str (fun t' tk => ⟨.str (i ++ j), H, I.tok _, ⟨_, rfl⟩, q⟩) hz
def PlainIxT (b : Expr) : Prop := ∀ o i, subscripted b false o i = operate [o, i] (getItem o i)
theorem vals1 {x : V} {us : List Value} (r : Vals [x] us) : ∃ u, us = [u] ∧ RelV x u := by
 cases r with
 | cons r1 r2 => cases r2; exact ⟨_, rfl, r1⟩
theorem vals2 {x y : V} {us : List Value} (r : Vals [x, y] us) : ∃ u w', us = [u, w'] ∧ RelV x u ∧ RelV y w' := by
 cases r with
 | cons r1 r2 =>
  cases r2 with
  | cons r3 r4 => cases r4; exact ⟨_, _, rfl, r1, r3⟩
theorem call_abs : CallR X (.builtin "abs") (fun xs H Q => ∃ i, xs = [.int i] ∧ Q (.int (if i < 0 then -i else i)) H) := by
 intro pins s σ H xs us Q I r h
 obtain ⟨i, rfl, q⟩ := h
 obtain ⟨u, rfl, t, rfl⟩ := vals1 r
 exact call_abs_int fun u tk => ⟨.int (if i < 0 then -i else i), H, I.tok _, ⟨_, rfl⟩, q⟩
theorem call_str_int : CallR X (.type "str") (fun xs H Q => ∃ i, xs = [.int i] ∧ i.natAbs.log2 < 1920 ∧ Q (.str (toString i)) H) := by
 intro pins s σ H xs us Q I r h
 obtain ⟨i, rfl, hz, q⟩ := h
 obtain ⟨u, rfl, t, rfl⟩ := vals1 r
 exact PySem.P.str_of_int hz ⟨.str _, H, I.tok _, ⟨_, rfl⟩, q⟩
def LenV (K : Frag) (x : V) (H : Hp) (n : Nat) : Prop :=
 match x with
 | .str y => y.length ≤ sizeLine ∧ n = y.length
 | .byt y => y.size ≤ sizeLine ∧ n = y.size
 | .ref p => (∃ xs, SqL K H p xs ∧ n = xs.length) ∨ ∃ xs, SqT K H p xs ∧ n = xs.length
 | _ => False
end
end L2
namespace L2
open PySem PySem.Spec PyProof.Rows
structure ObjM (h : Heap) (x dx C : Addr) (mA : Str → Option Value) : Prop where
 obj : h.get? x = some (PySem.W.instObj C dx)
 ns : h.Ns1 dx mA
 ne : dx ≠ x
theorem lookIn_ns {h : Heap} {dx : Addr} {mA : Str → Option Value} (n : h.Ns1 dx mA) : ∃ od, h.get? dx = some od ∧ ∀ name, PySem.W.lookIn name od = some (mA name) := by
 obtain ⟨o, es, ep, ho, hd, hk, _, hm⟩ := n
 refine ⟨o, ho, fun name => ?_⟩
 have e := hm name
 unfold nsFind findBy at e
 rw [← Array.find?_toList] at e
 unfold PySem.W.lookIn
 rw [hd]
 dsimp only
 split
 ·rename_i y q
  rw [q] at e
  exact congrArg some e
 ·rename_i q
  rw [q] at e
  have a : es.toList.any (·.refKey) = false := by
   rw [List.any_eq_false]
   intro y hy
   obtain ⟨z, t, hkey⟩ := hk y (Array.mem_toList_iff.mp hy)
   simp [DictEntry.refKey, hkey]
  have a' : ¬ es.toList.any (·.refKey) = true := by rw [a]; exact Bool.false_ne_true
  rw [if_neg a']
  exact congrArg some e
theorem ObjM.look {h : Heap} {x dx C : Addr} {mA : Str → Option Value} (I : ObjM h x dx C mA) : ∃ od, PySem.W.InstAt h x (PySem.W.instObj C dx) C (some od) ∧ ∀ name, PySem.W.lookIn name od = some (mA name) :=
 let ⟨od, ho, hl⟩ := lookIn_ns I.ns
 ⟨od, ⟨I.obj, rfl, rfl, ho⟩, hl⟩
section
variable {prog : Program} {w : World} {A : Around} {E : Value → Shared → Prop} {s : Shared} {K : Frag} {x dx C f : Addr} {mA : Str → Option Value} {name : Str} {v : Value}
theorem get_map {expr : Bool} {Q : Value → Shared → Prop} (X : K.In s.heap) (I : ObjM s.heap x dx C mA) (hg : PySem.W.plainGet K C name = true) (hh : PySem.W.hasDictIn K C = true)
  (ha : PySem.W.findIn K (.ref C) name = some none) (hv : mA name = some v) (hv' : PySem.W.handedIn v = true) (h : Q v { s with toks := s.toks + 1 }) :
  wpAny (model prog w) A (getAttr (.ref x) name expr) Q E s := by
 obtain ⟨od, J, hl⟩ := I.look
 exact PySem.W.get_value X J (PySem.W.plainGet_of hg).1 (PySem.W.findObj_own hh ha rfl (by rw [hl, hv])) hv' h
theorem get_meth {pl : Sem Bool} {Q : Value × List Value → Shared → Prop} (X : K.In s.heap) (I : ObjM s.heap x dx C mA) (hg : PySem.W.plainGet K C name = true)
  (hf : PySem.W.findIn K (.ref C) name = some (some (.ref f))) (ht : PySem.W.isFn K (.ref f) = true) (hv : mA name = none) (h : Q (.ref f, [.ref x]) s) :
  wpAny (model prog w) A (getMethod (.ref x) name pl) Q E s := by
 obtain ⟨od, J, hl⟩ := I.look
 exact PySem.W.method_fn X J (PySem.W.plainGet_of hg).1 (PySem.W.plainGet_of hg).2 hf (beq_iff_eq.mp ht) (by show (PySem.W.lookIn name od).map (·.isSome) = some false; rw [hl, hv]; rfl) h
theorem set_map {ns : List Str} {Q : Unit → Shared → Prop} (X : K.In s.heap) (I : ObjM s.heap x dx C mA)
  (hs : PySem.W.findIn K (.ref C) "__setattr__" = some (some (.builtin "object.__setattr__"))) (hp : PySem.W.plainOver K C = true) (ht : PySem.W.takerIn K C name = some none) (hh : PySem.W.hasDictIn K C = true)
  (hw : PySem.Within mA ns) (hsz : ns.length ≤ sizeLine)
  (h : ∀ h', ObjM h' x dx C (fun y => if y = name then some v else mA y) → Heap.SameBut dx s.heap h' → Q () { s with heap := h', toks := s.toks + 2 }) :
  wpAny (model prog w) A (setAttr (.ref x) name v) Q E s := by
 obtain ⟨od, J, hl⟩ := I.look
 refine PySem.W.set_plain X J hs (PySem.W.osa_open (s := { s with toks := s.toks + 1 }) (r := none) X J hp ht fun b => ?_)
 obtain ⟨cd, hc, hd'⟩ := PySem.W.any_some hh
 have hx : s.heap.get? x = some ⟨.ref C, some dx, .plain, #[]⟩ := I.obj
 refine wpAny_bind (wpAny_pure (wpAny_bind (wpAny_bind (wpAny_loadPart hx (wpAny_bind (PySem.W.Looks.here (s := { s with toks := s.toks + 1 }) (PySem.W.looks_clsIn X hc) ?_))))))
 rw [hd']
 refine wpAny_pure (a := some dx) (wpAny_bind (wpAny_pure (wpAny_bind ?_)))
 refine wpAny_nsSet1 (s := { s with toks := s.toks + 1 }) I.ns fun h' hn2 hs2 => ?_
 obtain ⟨oD, esD, epD, hoD, hdD, hcD⟩ := hn2.count (PySem.Within.cons name v hw)
 refine wpAny_bind (wpAny_lookBehind hoD (by rw [hdD]; exact pastItsLine_dict (Nat.le_trans hcD (by rw [List.length_cons]; omega))) ?_)
 exact wpAny_pure (h _ ⟨(hs2.2 _ (Ne.symm I.ne)).trans I.obj, hn2, I.ne⟩ hs2)
theorem make_map {R : Result → Shared → Prop} {vs : List Value} {kw : List (Str × Value)} (X : K.In s.heap) (hm : PySem.W.makesIn K C = true)
  (hi : PySem.W.findIn K (.ref C) "__init__" = some (some (.ref f))) (hf : PySem.W.typeIn K (.ref f) = some (.type "function"))
  (h : codeAny (model prog w) (A.under (.builtin "type.__call__" ⟨.ref C :: vs, kw⟩)) (.call (.ref f) ⟨.ref (s.heap.objs.size + 1) :: vs, kw⟩) (PySem.W.InitBack (s.heap.objs.size + 1) R)
   { s with heap := (s.heap.push PySem.W.emptyDict).push (PySem.W.instObj C s.heap.objs.size) }) :
  codeAny (model prog w) A (.call (.ref C) ⟨vs, kw⟩) R s := by
 obtain ⟨hh, g, d, t, os⟩ := s
 exact PySem.W.make_core (PySem.W.makes_of X hm) (PySem.W.looks_findIn X hi) (fun self => PySem.W.bind_fn X self hf) (.inl rfl) h
theorem make_map0 {R : Result → Shared → Prop} (X : K.In s.heap) (hm : PySem.W.makesIn K C = true)
  (hi : PySem.W.findIn K (.ref C) "__init__" = some (some (.builtin "object.__init__")))
  (hb : ∀ self, PySem.W.Looks (model prog w) s.heap (bindSpecial (.builtin "object.__init__") self) (.builtin "object.__init__", [self]))
  (h : codeAny (model prog w) (A.under (.builtin "type.__call__" ⟨[.ref C], []⟩)) (.call (.builtin "object.__init__") ⟨[.ref (s.heap.objs.size + 1)], []⟩) (PySem.W.InitBack (s.heap.objs.size + 1) R)
   { s with heap := (s.heap.push PySem.W.emptyDict).push (PySem.W.instObj C s.heap.objs.size) }) :
  codeAny (model prog w) A (.call (.ref C) ⟨[], []⟩) R s := by
 obtain ⟨hh, g, d, t, os⟩ := s
 exact PySem.W.make_core (PySem.W.makes_of X hm) (PySem.W.looks_findIn X hi) hb (.inr ⟨rfl, rfl⟩) h
end
def putF (f : Str) (v : V) : List (Str × V) → List (Str × V)
 | [] => [(f, v)]
 | (g, x) :: r => if g = f then (g, v) :: r else (g, x) :: putF f v r
theorem lookup_putF (f g : Str) (v : V) : ∀ fs : List (Str × V), (putF f v fs).lookup g = if g = f then some v else fs.lookup g
 | [] => by
  show List.lookup g [(f, v)] = _
  by_cases h : g = f
  ·have hb : (g == f) = true := beq_iff_eq.mpr h
   simp only [List.lookup, hb, if_pos h]
  ·have hb : (g == f) = false := beq_eq_false_iff_ne.mpr h
   simp only [List.lookup, hb, if_neg h]
 | (k, x) :: r => by
  have ih := lookup_putF f g v r
  rw [show putF f v ((k, x) :: r) = (if k = f then (k, v) :: r else (k, x) :: putF f v r) from rfl]
  by_cases hk : k = f
  ·rw [if_pos hk]
   by_cases h : g = k
   ·have hb : (g == k) = true := beq_iff_eq.mpr h
    simp only [List.lookup, hb, if_pos (h.trans hk)]
   ·have hb : (g == k) = false := beq_eq_false_iff_ne.mpr h
    simp only [List.lookup, hb, if_neg (fun e : g = f => h (e.trans hk.symm))]
  ·rw [if_neg hk]
   by_cases h : g = k
   ·have hb : (g == k) = true := beq_iff_eq.mpr h
    simp only [List.lookup, hb, if_neg (fun e : g = f => hk (h.symm.trans e))]
   ·have hb : (g == k) = false := beq_eq_false_iff_ne.mpr h
    simp only [List.lookup, hb]
    exact ih
theorem keys_putF (f : Str) (v : V) : ∀ fs : List (Str × V), f ∈ (putF f v fs).map (·.1) ∧ ∀ g, g ∈ fs.map (·.1) → g ∈ (putF f v fs).map (·.1)
 | [] => ⟨by simp [putF], fun g h => by simp at h⟩
 | (k, x) :: r => by
  obtain ⟨i1, i2⟩ := keys_putF f v r
  rw [show putF f v ((k, x) :: r) = (if k = f then (k, v) :: r else (k, x) :: putF f v r) from rfl]
  by_cases hk : k = f
  ·rw [if_pos hk]
   subst hk
   exact ⟨by simp, fun g h => by simpa using h⟩
  ·rw [if_neg hk]
   refine ⟨?_, fun g h => ?_⟩
   ·rw [List.map_cons]
    exact List.mem_cons_of_mem _ i1
   ·rw [List.map_cons] at h ⊢
    rcases List.mem_cons.mp h with e | e
    ·exact List.mem_cons.mpr (.inl e)
    ·exact List.mem_cons_of_mem _ (i2 g e)
theorem length_putF (f : Str) (v : V) : ∀ fs : List (Str × V), (putF f v fs).length ≤ fs.length + 1
 | [] => by simp [putF]
 | (k, x) :: r => by
  have ih := length_putF f v r
  rw [show putF f v ((k, x) :: r) = (if k = f then (k, v) :: r else (k, x) :: putF f v r) from rfl]
  by_cases hk : k = f
  ·rw [if_pos hk, List.length_cons, List.length_cons]; omega
  ·rw [if_neg hk, List.length_cons, List.length_cons]; omega
theorem RelO.some_of {v : V} {o : Option Value} (r : RelO (some v) o) : ∃ u, o = some u ∧ RelV v u := by
 cases o with
 | none => exact (show False from r).elim
 | some u => exact ⟨u, rfl, r⟩
theorem RelO.none_of {o : Option Value} (r : RelO none o) : o = none := by
 cases o with
 | none => rfl
 | some u => exact (show False from r).elim
theorem handed_of {v : V} {u : Value} (r : RelV v u) : PySem.W.handedIn u = true := by
 cases v with
 | non => cases (show u = Value.none from r); rfl
 | bl b => cases (show u = Value.bool b from r); rfl
 | int i => obtain ⟨t, e⟩ := (show ∃ t, u = Value.int i t from r); cases e; rfl
 | str x => obtain ⟨t, e⟩ := (show ∃ t, u = Value.str x t from r); cases e; rfl
 | byt b => obtain ⟨t, e⟩ := (show ∃ t, u = Value.bytes b t from r); cases e; rfl
 | flt b => obtain ⟨t, e⟩ := (show ∃ t, u = Value.float b t from r); cases e; rfl
 | ref a => cases (show u = Value.ref a from r); rfl
 | ty n => cases (show u = Value.type n from r); rfl
section
variable {P : Program} {w : World} {H H' : Hp} {h h' : Heap} {a C dx : Addr} {fs fs' : List (Str × V)}
theorem ins_get (hok : HOk P w H h) (e : H a = some (.ins C dx fs)) : ∃ mA, ObjM h a dx C mA ∧ (∀ f, RelO (fs.lookup f) (mA f)) ∧ PySem.Within mA (fs.map (·.1)) ∧ fs.length ≤ 1000 ∧ H dx = some (.own a) := by
 obtain ⟨d, z, ne, ob, mA, n, r, q⟩ := (show ObjOk P w H h a (.ins C dx fs) from hok a _ e)
 exact ⟨mA, ⟨ob, n, ne⟩, r, q, z, d⟩
end
structure Cls (K : Frag) (C : Addr) : Prop where
 pg : PySem.W.plainGet K C Str.empty = true
 hd : PySem.W.hasDictIn K C = true
 po : PySem.W.plainOver K C = true
 sa : PySem.W.findIn K (.ref C) "__setattr__" = some (some (.builtin "object.__setattr__"))
theorem Cls.get {K : Frag} {C : Addr} (c : Cls K C) (f : Str) : PySem.W.plainGet K C f = true := c.pg
def NoAttr (K : Frag) (C : Addr) (f : Str) : Prop := PySem.W.findIn K (.ref C) f = some none
theorem NoAttr.taker {K : Frag} {C : Addr} {f : Str} (n : NoAttr K C f) : PySem.W.takerIn K C f = some none := by
 unfold PySem.W.takerIn
 rw [show PySem.W.findIn K (.ref C) f = some none from n]
 rfl
structure Con (K : Frag) (C : Addr) (f : Str) (v : V) (u : Value) : Prop where
 at_ : PySem.W.findIn K (.ref C) f = some (some u)
 rel : RelV v u
 get : PySem.W.specialIn K u "__get__" = some none
 cp : PySem.W.copiedNames.contains f = false
structure Meth (K : Frag) (C : Addr) (m : Str) (f : Addr) : Prop where
 at_ : PySem.W.findIn K (.ref C) m = some (some (.ref f))
 fn : PySem.W.isFn K (.ref f) = true
 kp : keepIn K (.ref f) = true
section
variable {X : Cx} {pins : List (Addr × Obj)} {σ : St} {H : Hp} {s : Shared} {a C dx : Addr} {fs : List (Str × V)} {f : Str} {v : V} {A : Around} {E : Value → Shared → Prop}
theorem getattr_ok {b : Bool} {Q : Value → Shared → Prop} (I : Inv X pins σ H s) (e : H a = some (.ins C dx fs)) (c : Cls X.K C) (n : NoAttr X.K C f) (l : fs.lookup f = some v)
  (h : ∀ u s', Inv X pins σ H s' → RelV v u → Q u s') : wpAny (model X.prog X.w) A (getAttr (.ref a) f b) Q E s := by
 obtain ⟨mA, O, r, _, _, _⟩ := ins_get I.hok e
 obtain ⟨u, hu, ru⟩ := RelO.some_of (v := v) (o := mA f) (by rw [← l]; exact r f)
 exact get_map I.kIn O (c.get f) c.hd n hu (handed_of ru) (h u _ (I.tok _) ru)
theorem getmeth_ok {m : Str} {g : Addr} {pl : Sem Bool} {Q : Value × List Value → Shared → Prop} (I : Inv X pins σ H s) (e : H a = some (.ins C dx fs)) (c : Cls X.K C) (k : Meth X.K C m g) (l : fs.lookup m = none)
  (h : Q (.ref g, [.ref a]) s) : wpAny (model X.prog X.w) A (getMethod (.ref a) m pl) Q E s := by
 obtain ⟨mA, O, r, _, _, _⟩ := ins_get I.hok e
 have hn : mA m = none := RelO.none_of (by rw [← l]; exact r m)
 exact get_meth I.kIn O (c.get m) k.at_ k.fn hn h
theorem setattr_ok {y : V} {u : Value} {Q : Unit → Shared → Prop} (I : Inv X pins σ H s) (e : H a = some (.ins C dx fs)) (c : Cls X.K C) (n : NoAttr X.K C f) (hl : fs.length < 1000) (ry : RelV y u)
  (h : ∀ s', Inv X pins σ (upd H a (.ins C dx (putF f y fs))) s' → Q () s') : wpAny (model X.prog X.w) A (setAttr (.ref a) f u) Q E s := by
 obtain ⟨mA, O, r, wi, _, ho⟩ := ins_get I.hok e
 have hz : (fs.map (·.1)).length ≤ sizeLine := by rw [List.length_map, sizeLine_eq]; omega
 refine set_map I.kIn O c.sa c.po n.taker c.hd wi hz fun h' O' sb => h _ ?_
 have hd : ∃ o, h'.get? dx = some o := let ⟨o, _, _, e', _⟩ := O'.ns; ⟨o, e'⟩
 refine I.write (x := a) (e := dx) (by rw [e]; exact True.intro) (.inr ho) (fun b q hb z => (sb.2 b hb).trans z) hd ?_
 refine ⟨by rw [upd_ne O.ne]; exact ho, ?_, O.ne, O'.obj, _, O'.ns, fun g => ?_, fun g hg => ?_⟩
 ·have := length_putF f y fs; omega
 ·show RelO ((putF f y fs).lookup g) (if g = f then some u else mA g)
  rw [lookup_putF]
  by_cases q : g = f
  ·rw [if_pos q, if_pos q]; exact ry
  ·rw [if_neg q, if_neg q]; exact r g
 ·by_cases q : g = f
  ·rw [q]; exact (keys_putF f y fs).1
  ·refine (keys_putF f y fs).2 g (wi g fun z => hg ?_)
   show (if g = f then some u else mA g) = none
   rw [if_neg q]; exact z
theorem Inv.made (I : Inv X pins σ H s) : Inv X pins σ (upd (upd H s.heap.objs.size (.own (s.heap.objs.size + 1))) (s.heap.objs.size + 1) (.ins C s.heap.objs.size []))
  { s with heap := (s.heap.push PySem.W.emptyDict).push (PySem.W.instObj C s.heap.objs.size) } := by
 have e1 : (s.heap.push PySem.W.emptyDict).get? s.heap.objs.size = some PySem.W.emptyDict := Heap.get?_push_size s.heap rfl
 have e2 : ((s.heap.push PySem.W.emptyDict).push (PySem.W.instObj C s.heap.objs.size)).get? (s.heap.objs.size + 1) = some (PySem.W.instObj C s.heap.objs.size) := by
  have := Heap.get?_push_size (s.heap.push PySem.W.emptyDict) (o := PySem.W.instObj C s.heap.objs.size) rfl
  rwa [Heap.size_push] at this
 have e3 : (s.heap.push PySem.W.emptyDict).Ns s.heap.objs.size (fun _ => none) := ⟨PySem.W.emptyDict, #[], _, e1, rfl, (fun e he => absurd he (by simp)), fun _ => rfl⟩
 have I1 := I.laid (a := s.heap.objs.size) (o := .own (s.heap.objs.size + 1)) (h' := s.heap.push PySem.W.emptyDict) (t' := s.toks) (fun b u q => Heap.get?_push_of_some _ q) (Nat.le_refl _) ⟨_, e1⟩
 refine I1.laid (a := s.heap.objs.size + 1) (o := .ins C s.heap.objs.size []) (t' := s.toks) (fun b u q => Heap.get?_push_of_some _ q) (Nat.le_of_eq (Heap.size_push _ _)) ?_
 have ne : s.heap.objs.size ≠ s.heap.objs.size + 1 := Nat.ne_of_lt (Nat.lt_succ_self _)
 refine ⟨by rw [upd_ne ne, upd_same], Nat.zero_le _, ne, e2, fun _ => none, (Heap.Ns1.of_empty e3).at fun o q => Heap.get?_push_of_some _ q, fun _ => True.intro, fun y hy => absurd rfl hy⟩
theorem attr_of {prog : Program} {w : World} {env : Env} {e : Expr} {f : Str} {pos : Pos} {s : Shared} {Q : Value → Shared → Prop} (hb : attributeBase e f env (eval e env) = eval e env)
  (h : wpAny (model prog w) A (eval e env) (fun o s₁ => wpAny (model prog w) A (getAttr o f true) Q E s₁) E s) : wpAny (model prog w) A (eval (.Attribute e f pos) env) Q E s :=
 Attribute_any_ h (by rw [arm_eval_Attribute, hb])
end
def tFld (K : Frag) (ta : TE) (f : Str) : TE := fun σ H Q => ta σ H fun x H1 => ∃ a C dx fs v, x = .ref a ∧ H1 a = some (.ins C dx fs) ∧ Cls K C ∧ NoAttr K C f ∧ fs.lookup f = some v ∧ Q v H1
def tCon (K : Frag) (ta : TE) (f : Str) : TE := fun σ H Q => ta σ H fun x H1 => ∃ a C dx fs v u, x = .ref a ∧ H1 a = some (.ins C dx fs) ∧ Cls K C ∧ Con K C f v u ∧ fs.lookup f = none ∧ Q v H1
def sFld (K : Frag) (ta tv : TE) (f : Str) : TS := fun D σ H => tv σ H fun y H1 => ta σ H1 fun x H2 => ∃ a C dx fs, x = .ref a ∧ H2 a = some (.ins C dx fs) ∧ Cls K C ∧ NoAttr K C f ∧ fs.length < 1000 ∧
 D.nx σ (upd H2 a (.ins C dx (putF f y fs)))
def InOp (X : Cx) (op : Operator) (rd : V → V → Hp → VK → Prop) : Prop :=
 ∀ (pins : List (Addr × Obj)) (s : Shared) (σ : St) (H : Hp) (x y : V) (u v : Value) (Q : VK), Inv X pins σ H s → RelV x u → RelV y v → rd x y H Q → wpAny (model X.prog X.w) X.A (inplaceOp op u v) (EP X pins σ Q) X.xe s
def sFldAug (K : Frag) (ta tv : TE) (rd : V → V → Hp → VK → Prop) (f : Str) : TS := fun D σ H => ta σ H fun x H1 => ∃ a C dx fs v, x = .ref a ∧ H1 a = some (.ins C dx fs) ∧ Cls K C ∧ NoAttr K C f ∧ fs.lookup f = some v ∧
 tv σ H1 fun y H2 => rd v y H2 fun z H3 => ∃ dx' fs', H3 a = some (.ins C dx' fs') ∧ fs'.length < 1000 ∧ D.nx σ (upd H3 a (.ins C dx' (putF f z fs')))
section
variable {X : Cx} {o e value : Expr} {f : Str} {pos pos' tpos : Pos} {ta tv : TE}
theorem pe_fld (he : PE X e ta) (hb : attributeBase e f X.env (eval e X.env) = eval e X.env) : PE X (.Attribute e f pos) (tFld X.K ta f) := by
 intro pins s σ H Q I h
 refine attr_of hb (thn (he pins s σ H _ I h) fun u s1 ⟨x, H1, I1, rx, a, C, dx, fs, v, ex, ea, c, n, l, q⟩ => ?_)
 subst ex
 obtain rfl : u = Value.ref a := rx
 exact getattr_ok I1 ea c n l fun u' s2 I2 ru => ⟨v, H1, I2, ru, q⟩
theorem ps_fld (ha : PE X o ta) (hv : PE X value tv) (hs : swapsWith value (some (.Attribute o f pos')) pos.line X.env = pure false) : PS X (.Assign [.Attribute o f pos'] value pos) (sFld X.K ta tv f) := by
 intro pins s σ H D I h
 refine plainObj_wpAny_Assign_Attribute (thn (hv pins s σ H _ I h) fun u s1 ⟨y, H1, I1, ry, q⟩ => thn (ha pins s1 σ H1 _ I1 q) fun ov s2 ⟨x, H2, I2, rx, a, C, dx, fs, ex, ea, c, n, l, q2⟩ => ?_) hs
 subst ex
 obtain rfl : ov = Value.ref a := rx
 exact setattr_ok I2 ea c n l ry fun s3 I3 => ⟨σ, _, I3, q2⟩
theorem ps_fldaug {op : Operator} {rd : V → V → Hp → VK → Prop} (ha : PE X o ta) (hv : PE X value tv) (hop : InOp X op rd) : PS X (.AugAssign (.Attribute o f tpos) op value pos) (sFldAug X.K ta tv rd f) := by
 intro pins s σ H D I h
 refine wpAny_AugAssign_AttributeAny (thn (ha pins s σ H _ I h) fun ov s1 ⟨x, H1, I1, rx, a, C, dx, fs, v, ex, ea, c, n, l, q⟩ => ?_)
 subst ex
 obtain rfl : ov = Value.ref a := rx
 refine getattr_ok I1 ea c n l fun u s2 I2 ru => thn (hv pins s2 σ H1 _ I2 q) fun w3 s3 ⟨y, H2, I3, ry, q3⟩ => thn (hop pins s3 σ H2 v y u w3 _ I3 ru ry q3) fun w4 s4 ⟨z, H3, I4, rz, dx', fs', ea', l', q4⟩ => ?_
 exact setattr_ok I4 ea' c n l' rz fun s5 I5 => ⟨σ, _, I5, q4⟩
def rAdd : V → V → Hp → VK → Prop := fun x y H Q => ∃ i j, x = .int i ∧ y = .int j ∧ Q (.int (i + j)) H
def rSub : V → V → Hp → VK → Prop := fun x y H Q => ∃ i j, x = .int i ∧ y = .int j ∧ Q (.int (i - j)) H
theorem in_add : InOp X .Add rAdd := by
 rintro pins s σ H x y u v Q I rx ry ⟨i, j, rfl, rfl, q⟩
 obtain ⟨t, rfl⟩ := (show ∃ t, u = Value.int i t from rx)
 obtain ⟨t', rfl⟩ := (show ∃ t', v = Value.int j t' from ry)
 exact PyProof.Rows.iadd_int ⟨.int (i + j), H, I.tok _, ⟨_, rfl⟩, q⟩
end
section
variable {X : Cx} {pins : List (Addr × Obj)} {σ : St} {H : Hp} {s : Shared} {A : Around} {E : Value → Shared → Prop} {Q : Value → Shared → Prop} {c : Value} {b : Bool}
inductive TyOf (K : Frag) (H : Hp) : V → Value → Prop where
 | non : TyOf K H .non (.type "NoneType")
 | bl (x : Bool) : TyOf K H (.bl x) (.type "bool")
 | int (i : Int) : TyOf K H (.int i) (.type "int")
 | str (x : Str) : TyOf K H (.str x) (.type "str")
 | flt (x : UInt64) : TyOf K H (.flt x) (.type "float")
 | lst {a : Addr} {xs : List V} (e : H a = some (.lst xs)) : TyOf K H (.ref a) (.type "list")
 | frz {a : Addr} {o : Obj} {xs : List V} (e : H a = some (.frz o (.lst xs))) : TyOf K H (.ref a) (.type "list")
 | tup {a : Addr} {xs : List V} (e : H a = some (.tup xs)) : TyOf K H (.ref a) (.type "tuple")
 | dK {a : Addr} {kvs : List (Key × V)} (e : H a = some (.dK kvs)) : TyOf K H (.ref a) (.type "dict")
 | dT {a : Addr} {kvs : List (List Key × V)} (e : H a = some (.dT kvs)) : TyOf K H (.ref a) (.type "dict")
 | ins {a C dx : Addr} {fs : List (Str × V)} (e : H a = some (.ins C dx fs)) (cl : Cls K C) (ha : PySem.W.findIn K (.ref C) "__class__" = some (some (.builtin "object.__class__")))
   (hn : PySem.W.specialIn K (.builtin "object.__class__") "__get__" = some (some (.builtin "getset_descriptor.__get__"))) (htk : PySem.W.takesIn K (.builtin "object.__class__") = some true)
   (hm : PySem.W.mroIn K C (.type "object") = some true) : TyOf K H (.ref a) (.ref C)
theorem isinst_ok {x : V} {u t : Value} (I : Inv X pins σ H s) (rx : RelV x u) (ty : TyOf X.K H x t) (e : PySem.W.kitOne X.K t c = some b) (h : ∀ tk, Q (.bool b) { s with toks := tk }) :
  wpAny (model X.prog X.w) A (call (.builtin "isinstance") [u, c]) Q E s := by
 cases ty with
 | non => cases (show u = Value.none from rx); exact PySem.W.kia_one PySem.W.kitx_none I.kIn True.intro e (fun z => nomatch z) h
 | bl y => cases (show u = Value.bool y from rx); exact PySem.W.kia_one PySem.W.kitx_bool I.kIn True.intro e (fun z => nomatch z) h
 | int i => obtain ⟨t, q⟩ := (show ∃ t, u = Value.int i t from rx); cases q; exact PySem.W.kia_one PySem.W.kitx_int I.kIn True.intro e (fun z => nomatch z) h
 | str y => obtain ⟨t, q⟩ := (show ∃ t, u = Value.str y t from rx); cases q; exact PySem.W.kia_one PySem.W.kitx_str I.kIn True.intro e (fun z => nomatch z) h
 | flt y => obtain ⟨t, q⟩ := (show ∃ t, u = Value.float y t from rx); cases q; exact PySem.W.kia_one PySem.W.kitx_float I.kIn True.intro e (fun z => nomatch z) h
 | @lst a xs ea =>
  cases (show u = Value.ref a from rx)
  obtain ⟨_, _, n, _, h1⟩ := (show ObjOk X.prog X.w H s.heap a (.lst xs) from I.hok a _ ea)
  exact PySem.W.kia_one PySem.W.kitx_list I.kIn ⟨_, h1, rfl⟩ e (fun z => nomatch z) h
 | @frz a ob xs ea =>
  cases (show u = Value.ref a from rx)
  obtain ⟨_, _, _, n, _, h1⟩ := (show ObjOk X.prog X.w H s.heap a (.frz ob (.lst xs)) from I.hok a _ ea)
  exact PySem.W.kia_one PySem.W.kitx_list I.kIn ⟨_, h1, rfl⟩ e (fun z => nomatch z) h
 | @tup a xs ea =>
  cases (show u = Value.ref a from rx)
  obtain ⟨_, _, _, p⟩ := (show ObjOk X.prog X.w H s.heap a (.tup xs) from I.hok a _ ea)
  obtain ⟨o, h1, h2, _⟩ := p
  exact PySem.W.kia_one PySem.W.kitx_tuple I.kIn ⟨o, h1, h2⟩ e (fun z => nomatch z) h
 | @dK a kvs ea =>
  cases (show u = Value.ref a from rx)
  obtain ⟨_, _, vs, _, p⟩ := (show ObjOk X.prog X.w H s.heap a (.dK kvs) from I.hok a _ ea)
  obtain ⟨o, es, ep, h1, h2, _⟩ := p
  exact PySem.W.kia_one PySem.W.kitx_dict I.kIn ⟨o, h1, h2.1⟩ e (fun z => nomatch z) h
 | @dT a kvs ea =>
  cases (show u = Value.ref a from rx)
  obtain ⟨_, _, xs, _, o, es, ep, h1, h2, _⟩ := (show ObjOk X.prog X.w H s.heap a (.dT kvs) from I.hok a _ ea)
  exact PySem.W.kia_one PySem.W.kitx_dict I.kIn ⟨o, h1, h2.1⟩ e (fun z => nomatch z) h
 | @ins a C dx fs ea cl ha hn htk hm =>
  cases (show u = Value.ref a from rx)
  obtain ⟨mA, O, _⟩ := ins_get I.hok ea
  obtain ⟨od, J, _⟩ := O.look
  exact PySem.W.kia_one (PySem.W.kitx_own (cl.get _) cl.hd ha hn htk hm) I.kIn J e (fun z => nomatch z) h
end
end L2
namespace L2
open PySem PySem.Spec PyProof.Rows
structure Room (k : Nat) (A : Around) : Prop where
 hd : A.handled = none
 dp : A.depth + 3 * k + 5 < recursionLimit
 un : A.units + 16 * k + 200 < cLine
theorem Room.mono {j k : Nat} {A : Around} (r : Room k A) (h : j ≤ k) : Room j A := ⟨r.hd, by have := r.dp; omega, by have := r.un; omega⟩
theorem Room.deeper {k : Nat} {A : Around} (r : Room (k + 1) A) (env : Env) : Room k (A.deeper env) :=
 ⟨r.hd, by have := r.dp; show A.depth + 1 + 3 * k + 5 < _; omega, by have := r.un; show A.units + 3 + 16 * k + 200 < _; omega⟩
theorem make_depth {A : Around} {C : Addr} {us : List Value} {kw : List (Str × Value)} : (A.under (.builtin "type.__call__" ⟨.ref C :: us, kw⟩)).depth = A.depth + 1 := by
 first | rfl | simp [Around.under, Code.weight, Code.isCreation, Code.isGuard, Code.isCaller, Code.frames, Code.isFrame, guardIds]
theorem make_units {A : Around} {C : Addr} {us : List Value} {kw : List (Str × Value)} : (A.under (.builtin "type.__call__" ⟨.ref C :: us, kw⟩)).units = A.units + 1 := by
 first | rfl | simp [Around.under, Code.cUnits, Code.frames, Code.isFrame]
theorem Room.make {k : Nat} {A : Around} (r : Room (k + 1) A) (C : Addr) (us : List Value) (kw : List (Str × Value)) : Room k (A.under (.builtin "type.__call__" ⟨.ref C :: us, kw⟩)) :=
 ⟨r.hd, by have := r.dp; rw [make_depth]; omega, by have := r.un; rw [make_units]; omega⟩
theorem Room.depth {k : Nat} {A : Around} (r : Room k A) : A.depth < recursionLimit := by have := r.dp; omega
theorem Room.units {k : Nat} {A : Around} (r : Room k A) : A.units + 64 < cLine := by have := r.un; omega
def tNil : TA := fun _ H Q => Q [] H
def tCons (ta : TE) (tr : TA) : TA := fun σ H Q => ta σ H fun x H1 => tr σ H1 fun xs H2 => Q (x :: xs) H2
section
variable {X : Cx} {e : Expr} {es : List Expr} {te : TE} {t : TA} {pos : Pos}
theorem pa_nil : PA X [] tNil := fun _ _ _ _ H Q I h => Calls.spliced_nil ⟨[], H, I, .nil, h⟩
theorem pa_cons (ha : PE X e te) (hr : PA X es t) (hs : starEach (e :: es) X.env = (false, eval e X.env) :: starEach es X.env := by rfl) : PA X (e :: es) (tCons te t) := by
 intro pos pins s σ H Q I h
 rw [hs]
 show wpAny _ _ (spliced ((false, eval e X.env) :: backTo pos (starEach es X.env))) _ _ s
 refine Calls.spliced_cons (thn (ha pins s σ H _ I h) fun u s1 ⟨x, H1, I1, r1, q1⟩ => ?_)
 exact thn (hr pos pins s1 σ H1 _ I1 q1) fun us s2 ⟨xs, H2, I2, r2, q2⟩ => ⟨x :: xs, H2, I2, .cons r1 r2, q2⟩
def tTup (t : TA) : TE := fun σ H Q => t σ H fun xs H1 => xs.length ≤ sizeLine ∧ ∀ p, H1 p = none → Q (.ref p) (upd H1 p (.tup xs))
def tLst (t : TA) : TE := fun σ H Q => t σ H fun xs H1 => xs.length ≤ sizeLine ∧ ∀ p, H1 p = none → Q (.ref p) (upd H1 p (.lst xs))
theorem pe_tup {x1} (h : PA X es t) : PE X (.Tuple es x1 pos) (tTup t) := by
 intro pins s σ H Q I hq
 refine wpAny_Tuple_spliced (thn (h pos pins s σ H _ I hq) fun us s1 ⟨xs, H1, I1, r, z, q⟩ => ⟨by rw [← r.length]; exact z, ?_⟩)
 have hf : H1 s1.heap.objs.size = none := I1.hok.fresh (Nat.le_refl _)
 refine ⟨.ref s1.heap.objs.size, upd H1 s1.heap.objs.size (.tup xs), I1.laid (t' := s1.toks) (fun b u e => Heap.get?_push_of_some _ e) (Nat.le_refl _) ?_, rfl, q _ hf⟩
 exact ⟨z, us, r, ⟨_, Heap.get?_push_size _ rfl, rfl, _, rfl⟩⟩
theorem pe_lst (h : PA X es t) : PE X (.List es pos) (tLst t) := by
 intro pins s σ H Q I hq
 refine wpAny_List_spliced (thn (h pos pins s σ H _ I hq) fun us s1 ⟨xs, H1, I1, r, z, q⟩ => ⟨by rw [← r.length]; exact z, ?_⟩)
 have hf : H1 s1.heap.objs.size = none := I1.hok.fresh (Nat.le_refl _)
 refine ⟨.ref s1.heap.objs.size, upd H1 s1.heap.objs.size (.lst xs), I1.laid (t' := s1.toks) (fun b u e => Heap.get?_push_of_some _ e) (Nat.le_refl _) ?_, rfl, q _ hf⟩
 exact ⟨z, us, 0, r, Heap.get?_push_size _ rfl⟩
end
abbrev Sp := List V → Hp → VK → XK → Prop
abbrev CXT := List Env → Hp → Shared → XK → Value → Shared → Prop
structure Env0 (P : Program) (w : World) (K : Frag) (mg : Str → Option Value) (base : Heap) (A : Around) (outer : List Env) (s : Shared) (H : Hp) : Prop where
 frames : A.frames = some outer
 mod : Mod K mg base
 bs : ∀ b o, base.get? b = some o → s.heap.get? b = some o ∧ H b = none
 bsz : base.objs.size ≤ s.heap.objs.size
 funs : s.heap.FunFrames base outer
 frf : ∀ b ∈ frs outer, H b = none
 hok : HOk P w H s.heap
 bare : AllBare s.gens
def CE (outer : List Env) (P : Program) (w : World) (H : Hp) (s : Shared) (Q : VK) (u : Value) (s' : Shared) : Prop :=
 ∃ v H', s'.os = s.os ∧ AllBare s'.gens ∧ Un (frs outer) [] H H' s.heap s'.heap ∧ HOk P w H' s'.heap ∧ RelV v u ∧ Q v H'
def CR (CX : CXT) (outer : List Env) (P : Program) (w : World) (H : Hp) (s : Shared) (Q : VK) (E : XK) (r : Result) (s' : Shared) : Prop :=
 match r with
 | .ok (.ret u) => CE outer P w H s Q u s'
 | .ok _ => False
 | .error e => CX outer H s E e s'
structure FnOk (P : Program) (w : World) (K : Frag) (mg : Str → Option Value) (base : Heap) (CX : CXT) (k : Nat) (f : Addr) (fd : FuncData) (ps : List Str) (sp : Sp) : Prop where
 len : ∀ vs H Q E, sp vs H Q E → vs.length = ps.length
 run : ∀ (A : Around) (outer : List Env) (s : Shared) (H : Hp) (args : Args) (us : List Value) (vs : List V) (Q : VK) (E : XK), Room k A → Env0 P w K mg base A outer s H → BindsTo s fd args (ps.zip us) → Vals vs us → sp vs H Q E →
  codeAny (model P w) A (.call (.ref f) args) (CR CX outer P w H s Q E) s
theorem FnOk.mono {P : Program} {w : World} {K : Frag} {mg : Str → Option Value} {base : Heap} {CX : CXT} {j k : Nat} {f : Addr} {fd : FuncData} {ps : List Str} {sp : Sp} (F : FnOk P w K mg base CX j f fd ps sp) (h : j ≤ k) :
  FnOk P w K mg base CX k f fd ps sp := ⟨F.len, fun A outer s H args us vs Q E hr => F.run A outer s H args us vs Q E (hr.mono h)⟩
theorem FnOk.imp {P : Program} {w : World} {K : Frag} {mg : Str → Option Value} {base : Heap} {CX : CXT} {k : Nat} {f : Addr} {fd : FuncData} {ps : List Str} {sp sp' : Sp} (F : FnOk P w K mg base CX k f fd ps sp)
  (h : ∀ vs H Q E, sp' vs H Q E → sp vs H Q E) : FnOk P w K mg base CX k f fd ps sp' :=
 ⟨fun vs H Q E q => F.len vs H Q E (h _ _ _ _ q), fun A outer s H args us vs Q E hr he hb hv hs => F.run A outer s H args us vs Q E hr he hb hv (h _ _ _ _ hs)⟩
theorem Env0.make {P : Program} {w : World} {K : Frag} {mg : Str → Option Value} {base : Heap} {A : Around} {outer : List Env} {s : Shared} {H : Hp} (e : Env0 P w K mg base A outer s H) (C : Addr) (us : List Value) (kw : List (Str × Value)) :
  Env0 P w K mg base (A.under (.builtin "type.__call__" ⟨.ref C :: us, kw⟩)) outer s H := ⟨by first | exact e.frames | (simpa [Around.under, Code.envs, Code.isFrame, pushEnvs] using e.frames), e.mod, e.bs, e.bsz, e.funs, e.frf, e.hok, e.bare⟩
section
variable {X : Cx} {pins : List (Addr × Obj)} {σ : St} {H : Hp} {s s' : Shared}
theorem Inv.env0 (I : Inv X pins σ H s) : Env0 X.prog X.w X.K X.mg X.base X.A X.stack s H :=
 ⟨I.ok.frames, I.ok.mod, I.bs, Nat.le_trans I.ok.bsz I.sz, I.stack, I.stkFree, I.hok, I.bare⟩
theorem Inv.after {Q : VK} {u : Value} (I : Inv X pins σ H s) (h : CE X.stack X.prog X.w H s Q u s') : EP X pins σ Q u s' := by
 obtain ⟨v, H', os, bare, un, hok, r, q⟩ := h
 obtain ⟨hh, g, d, t, os'⟩ := s'
 obtain rfl : os' = s.os := os
 exact ⟨v, H', I.call (h' := hh) (g' := g) (d' := d) (t' := t) (ch := []) un hok bare (fun b z => absurd z (by simp)), r, q⟩
end
def tCall (sp : Sp) (dvs : List V) (E : XK) (t : TA) : TE := fun σ H Q => t σ H fun vs H1 => sp (vs ++ dvs) H1 Q E
def tMeth (C : Addr) (m : Str) (sp : Sp) (dvs : List V) (E : XK) (ta : TE) (t : TA) : TE := fun σ H Q => ta σ H fun x H1 => ∃ a dx fs, x = .ref a ∧ H1 a = some (.ins C dx fs) ∧ fs.lookup m = none ∧
 t σ H1 fun vs H2 => sp (x :: (vs ++ dvs)) H2 Q E
def tMake (C : Addr) (sp : Sp) (dvs : List V) (E : XK) (t : TA) : TE := fun σ H Q => t σ H fun vs H1 => ∀ x dx, H1 x = none → H1 dx = none → dx ≠ x →
 sp (.ref x :: (vs ++ dvs)) (upd (upd H1 dx (.own x)) x (.ins C dx [])) (fun v H2 => v = .non ∧ Q (.ref x) H2) E
def Binds (K : Frag) (fd : FuncData) (ps : List Str) (ds : List Value) : Prop :=
 ∀ (s : Shared) (us : List Value), K.In s.heap → (us ++ ds).length = ps.length → BindsTo s fd ⟨us, []⟩ (ps.zip (us ++ ds))
theorem Binds.all {K : Frag} {fd : FuncData} {ps : List Str} (h : ∀ us : List Value, us.length = ps.length → bindArgs fd ⟨us, []⟩ = pure (ps.zip us)) : Binds K fd ps [] := fun s us _ hl => by
 rw [List.append_nil] at hl ⊢
 exact .of_eq (h us hl)
def Passes (CX : CXT) (X : Cx) (E : XK) : Prop := ∀ (pins : List (Addr × Obj)) (σ : St) (H : Hp) (s : Shared) (e : Value) (s' : Shared), Inv X pins σ H s → CX X.stack H s E e s' → X.xe e s'
section
variable {X : Cx} {CX : CXT} {k : Nat} {f C : Addr} {fd : FuncData} {ps : List Str} {sp : Sp} {dvs : List V} {ds : List Value} {E : XK} {x m : Str} {p pos apos : Pos} {e o : Expr} {es : List Expr} {ta : TE} {t : TA}
theorem run_fn {pins : List (Addr × Obj)} {σ : St} {H : Hp} {s : Shared} {Q : VK} {us : List Value} {vs : List V} (F : FnOk X.prog X.w X.K X.mg X.base CX k f fd ps sp) (hr : Room k X.A) (hb : Binds X.K fd ps ds) (hd : Vals dvs ds) (hx : Passes CX X E)
  (I : Inv X pins σ H s) (r : Vals vs us) (h : sp (vs ++ dvs) H Q E) : wpAny (model X.prog X.w) X.A (call (.ref f) us) (EP X pins σ Q) X.xe s := by
 have r2 : Vals (vs ++ dvs) (us ++ ds) := r.append hd
 have hl : (us ++ ds).length = ps.length := by rw [← r2.length]; exact F.len _ _ _ _ h
 refine wpAny_call (codeAny_mono (F.run X.A X.stack s H ⟨us, []⟩ (us ++ ds) (vs ++ dvs) Q E hr I.env0 (hb s us I.kIn hl) r2 h) fun r s' hq => ?_)
 cases r with
 | error e => exact hx pins σ H s e s' I hq
 | ok fl =>
  cases fl with
  | ret u => exact I.after hq
  | next => exact False.elim hq
  | brk => exact False.elim hq
  | cont => exact False.elim hq
theorem pe_call (F : FnOk X.prog X.w X.K X.mg X.base CX k f fd ps sp) (hr : Room k X.A) (hg : Gl X x) (hm : X.mg x = some (.ref f)) (hk : keepIn X.K (.ref f) = true) (hb : Binds X.K fd ps ds) (hd : Vals dvs ds) (hx : Passes CX X E)
  (ha : PA X (e :: es) t) (hdb : (x == ("__debug__" : Str)) = false := by decide) (he : starEach (e :: es) X.env = (false, eval e X.env) :: starEach es X.env := by rfl) (hpl : (backTo pos (starEach es X.env)).any (·.1) = false := by rfl) :
  PE X (.Call (.Name x p) (e :: es) [] pos) (tCall sp dvs E t) := by
 intro pins s σ H Q I h
 refine wpAny_Call_Name_kw (ld_glob I hg hm ?_ hdb)
 refine PySem.W.callWith_K (h₀ := X.base) I.ok.mod.kin hk (thn (ha pos pins s σ H _ I h) fun us s1 ⟨vs, H1, I1, r, q⟩ => ⟨I1.kIn, ?_⟩) he hpl
 exact run_fn F hr hb hd hx I1 r q
structure Mk (K : Frag) (C f : Addr) : Prop where
 makes : PySem.W.makesIn K C = true
 init : PySem.W.findIn K (.ref C) "__init__" = some (some (.ref f))
 fn : PySem.W.isFn K (.ref f) = true
 kp : keepIn K (.ref C) = true
theorem run_make {pins : List (Addr × Obj)} {σ : St} {H : Hp} {s : Shared} {Q : VK} {us : List Value} {vs : List V} (M : Mk X.K C f) (F : FnOk X.prog X.w X.K X.mg X.base CX k f fd ps sp) (hr : Room (k + 1) X.A) (hb : Binds X.K fd ps ds) (hd : Vals dvs ds)
  (hx : Passes CX X E) (I : Inv X pins σ H s) (r : Vals vs us)
  (h : ∀ x dx, H x = none → H dx = none → dx ≠ x → sp (.ref x :: (vs ++ dvs)) (upd (upd H dx (.own x)) x (.ins C dx [])) (fun v H2 => v = .non ∧ Q (.ref x) H2) E) :
  wpAny (model X.prog X.w) X.A (call (.ref C) us) (EP X pins σ Q) X.xe s := by
 have hq := h (s.heap.objs.size + 1) s.heap.objs.size (I.hok.fresh (Nat.le_succ _)) (I.hok.fresh (Nat.le_refl _)) (Nat.ne_of_lt (Nat.lt_succ_self _))
 have I2 := Inv.made (C := C) I
 have r2 : Vals (V.ref (s.heap.objs.size + 1) :: (vs ++ dvs)) (Value.ref (s.heap.objs.size + 1) :: (us ++ ds)) := .cons rfl (r.append hd)
 have hl : (Value.ref (s.heap.objs.size + 1) :: us ++ ds).length = ps.length := by
  have e := r2.length
  rw [F.len _ _ _ _ hq] at e
  exact e.symm
 refine wpAny_call (make_map (f := f) I.kIn M.makes M.init (beq_iff_eq.mp M.fn) (codeAny_mono (F.run _ X.stack _ _ ⟨Value.ref (s.heap.objs.size + 1) :: us, []⟩ (Value.ref (s.heap.objs.size + 1) :: (us ++ ds)) _ _ E (hr.make C us [])
  (I2.env0.make C us []) (hb _ (Value.ref (s.heap.objs.size + 1) :: us) I2.kIn hl) r2 hq) fun r s' hq' => ?_))
 cases r with
 | error e => exact hx pins σ _ _ e s' I2 hq'
 | ok fl =>
  cases fl with
  | ret u =>
   obtain ⟨v, H', I3, rv, ev, q3⟩ := I2.after hq'
   subst ev
   exact ⟨rv, ⟨V.ref (s.heap.objs.size + 1), H', I3, rfl, q3⟩⟩
  | next => exact False.elim hq'
  | brk => exact False.elim hq'
  | cont => exact False.elim hq'
theorem pe_make (M : Mk X.K C f) (F : FnOk X.prog X.w X.K X.mg X.base CX k f fd ps sp) (hr : Room (k + 1) X.A) (hg : Gl X x) (hm : X.mg x = some (.ref C)) (hb : Binds X.K fd ps ds) (hd : Vals dvs ds) (hx : Passes CX X E)
  (ha : PA X (e :: es) t) (hdb : (x == ("__debug__" : Str)) = false := by decide) (he : starEach (e :: es) X.env = (false, eval e X.env) :: starEach es X.env := by rfl) (hpl : (backTo pos (starEach es X.env)).any (·.1) = false := by rfl) :
  PE X (.Call (.Name x p) (e :: es) [] pos) (tMake C sp dvs E t) := by
 intro pins s σ H Q I h
 refine wpAny_Call_Name_kw (ld_glob I hg hm ?_ hdb)
 refine PySem.W.callWith_K (h₀ := X.base) I.ok.mod.kin M.kp (thn (ha pos pins s σ H _ I h) fun us s1 ⟨vs, H1, I1, r, q⟩ => ⟨I1.kIn, ?_⟩) he hpl
 exact run_make M F hr hb hd hx I1 r q
theorem pe_make0 (M : Mk X.K C f) (F : FnOk X.prog X.w X.K X.mg X.base CX k f fd ps sp) (hr : Room (k + 1) X.A) (hg : Gl X x) (hm : X.mg x = some (.ref C)) (hb : Binds X.K fd ps ds) (hd : Vals dvs ds) (hx : Passes CX X E)
  (hdb : (x == ("__debug__" : Str)) = false := by decide) : PE X (.Call (.Name x p) [] [] pos) (tMake C sp dvs E tNil) := by
 intro pins s σ H Q I h
 refine wpAny_Call_Name_kw (ld_glob I hg hm ?_ hdb)
 exact PySem.W.callWith_K0 I.kIn M.kp (run_make (us := []) M F hr hb hd hx I .nil h)
end
def PK (X : Cx) (kws : List Keyword) (t : TA) : Prop :=
 ∀ (pos : Pos) (pins : List (Addr × Obj)) (s : Shared) (σ : St) (H : Hp) (Q : List V → Hp → Prop), Inv X pins σ H s → t σ H Q → wpAny (model X.prog X.w) X.A (evalAll ((backToKw pos (keywordEach kws X.env)).map (·.2))) (AP X pins σ Q) X.xe s
section
variable {X : Cx} {CX : CXT} {k : Nat} {f C : Addr} {fd : FuncData} {ps ks : List Str} {sp : Sp} {E : XK} {x m : Str} {p pos apos kpos : Pos} {e o : Expr} {es : List Expr} {kws : List Keyword} {te ta : TE} {t tk : TA} {nm : Option Str}
structure KBinds (K : Frag) (fd : FuncData) (ps ks : List Str) (g : List Value → List Value → List Value) (gV : List V → List V → List V) : Prop where
 to : ∀ (s : Shared) (us ws : List Value), K.In s.heap → (g us ws).length = ps.length → BindsTo s fd ⟨us, ks.zip ws⟩ (ps.zip (g us ws))
 rel : ∀ {vs : List V} {us : List Value} {zs : List V} {ws : List Value}, Vals vs us → Vals zs ws → Vals (gV vs zs) (g us ws)
def tCallK (sp : Sp) (gV : List V → List V → List V) (E : XK) (t tk : TA) : TE := fun σ H Q => t σ H fun vs H1 => tk σ H1 fun zs H2 => sp (gV vs zs) H2 Q E
variable {g : List Value → List Value → List Value} {gV : List V → List V → List V}
end
structure FnScope (N P : List Str) (sc : Scope) : Prop where
 kind : sc.kind = .function
 co : sc.isCoroutine = false
 gen : sc.isGenerator = false
 nd : N.Nodup
 pre : N.take P.length = P
 par : ∀ x ∈ P, sc.names.lookup x = some .local ∨ sc.names.lookup x = some .cell
 nofree : ∀ y ∈ sc.names, y.2 ≠ .free
theorem bindL_out {kindOf : Str → Option NameKind} {x : Str} : ∀ {binds : List (Str × Value)} {m : Str → Option Value}, (∀ v, (x, v) ∉ binds) → bindL kindOf binds m x = m x
 | [], _, _ => rfl
 | (n, v) :: r, m, h => by
  unfold bindL
  rw [bindL_out fun w hw => h w (List.mem_cons_of_mem _ hw)]
  split
  ·have : x ≠ n := by rintro rfl; exact h v List.mem_cons_self
   simp [this]
  ·rfl
theorem bindC_out {kindOf : Str → Option NameKind} {x : Str} : ∀ {binds : List (Str × Value)} {m : Str → Option Value}, (∀ v, (x, v) ∉ binds) → bindC kindOf binds m x = m x
 | [], _, _ => rfl
 | (n, v) :: r, m, h => by
  unfold bindC
  rw [bindC_out fun w hw => h w (List.mem_cons_of_mem _ hw)]
  split
  ·rfl
  ·have : x ≠ n := by rintro rfl; exact h v List.mem_cons_self
   simp [this]
theorem bindL_get {kindOf : Str → Option NameKind} {x : Str} {v : Value} : ∀ {P : List Str} {vs : List Value} {i : Nat} {m : Str → Option Value}, P.Nodup → P[i]? = some x → vs[i]? = some v → kindOf x = some .local →
  bindL kindOf (P.zip vs) m x = some v
 | [], _, _, _, _, h, _, _ => by simp at h
 | _ :: _, [], _, _, _, _, h, _ => by simp at h
 | p :: P, w :: vs, 0, m, nd, h1, h2, hk => by
  simp at h1 h2; subst h1; subst h2
  show bindL kindOf ((p, w) :: P.zip vs) m p = _
  unfold bindL
  rw [bindL_out fun v hv => (List.nodup_cons.mp nd).1 (List.of_mem_zip hv).1, if_pos hk]
  simp
 | p :: P, w :: vs, i + 1, m, nd, h1, h2, hk => by
  show bindL kindOf ((p, w) :: P.zip vs) m x = _
  unfold bindL
  exact bindL_get (i := i) (List.nodup_cons.mp nd).2 (by simpa using h1) (by simpa using h2) hk
theorem bindC_get {kindOf : Str → Option NameKind} {x : Str} {v : Value} : ∀ {P : List Str} {vs : List Value} {i : Nat} {m : Str → Option Value}, P.Nodup → P[i]? = some x → vs[i]? = some v → kindOf x ≠ some .local →
  bindC kindOf (P.zip vs) m x = some v
 | [], _, _, _, _, h, _, _ => by simp at h
 | _ :: _, [], _, _, _, _, h, _ => by simp at h
 | p :: P, w :: vs, 0, m, nd, h1, h2, hk => by
  simp at h1 h2; subst h1; subst h2
  show bindC kindOf ((p, w) :: P.zip vs) m p = _
  unfold bindC
  rw [bindC_out fun v hv => (List.nodup_cons.mp nd).1 (List.of_mem_zip hv).1, if_neg hk]
  simp
 | p :: P, w :: vs, i + 1, m, nd, h1, h2, hk => by
  show bindC kindOf ((p, w) :: P.zip vs) m x = _
  unfold bindC
  exact bindC_get (i := i) (List.nodup_cons.mp nd).2 (by simpa using h1) (by simpa using h2) hk
def start (N : List Str) (vs : List V) : St := vs.map some ++ List.replicate (N.length - vs.length) none
def cxOf (CX : CXT) (P : Program) (w : World) (K : Frag) (mg : Str → Option Value) (base : Heap) (N : List Str) (qual : Str) (scope : Scope) (f : Addr) (cd : Value) (A : Around) (outer : List Env) (s : Shared) (H : Hp) (E : XK) : Cx where
 prog := P
 w := w
 K := K
 mg := mg
 base := base
 A := A.deeper (envOfC qual scope s.heap.objs.size f cd)
 N := N
 s₀ := s
 H₀ := H
 env := envOfC qual scope s.heap.objs.size f cd
 outer := outer
 stack := envOfC qual scope s.heap.objs.size f cd :: outer
 ex := []
 calm := true
 fn := fun _ => true
 pn := []
 xe := fun e s' => wpAny (model P w) (A.deeper (envOfC qual scope s.heap.objs.size f cd)) (leaving (envOfC qual scope s.heap.objs.size f cd) e) (fun _ s'' => CX outer H s E e s'') (fun e' s'' => CX outer H s E e' s'') s'
theorem cell_has {sc : Scope} {n : Nat} {x : Str} (h : sc.names.lookup x = some .cell) : ∃ c, (cellsFrom n sc.names []).lookup x = some c := by
 have q := PySem.W.cellsFrom_some sc.names n [] (.inl h)
 exact Option.isSome_iff_exists.mp q
theorem inv_start {CX : CXT} {P : Program} {w : World} {K : Frag} {mg : Str → Option Value} {base : Heap} {N ps : List Str} {qual : Str} {scope : Scope} {f : Addr} {cd : Value} {A : Around} {outer : List Env} {s s1 : Shared} {H : Hp} {E : XK} {us : List Value} {vs : List V}
  (S : FnScope N ps scope) (hd : A.handled = none) (e0 : Env0 P w K mg base A outer s H) (hl : vs.length = ps.length) (r : Vals vs us)
  (x : InCallC s s.heap.objs.size (bindL (envOfC qual scope s.heap.objs.size f cd).kindOf (ps.zip us) fun _ => none) (cellsFrom (s.heap.objs.size + 1) scope.names []) (bindC (envOfC qual scope s.heap.objs.size f cd).kindOf (ps.zip us) fun _ => none) s1) :
  Inv (cxOf CX P w K mg base N qual scope f cd A outer s H E) [] (start N vs) H s1 := by
 have hpl : ps.length ≤ N.length := by have := congrArg List.length S.pre; rw [List.length_take] at this; omega
 obtain ⟨h1, tk, rfl, hk⟩ := x.done
 have noA : ∀ b : Addr, b ∉ (cxOf CX P w K mg base N qual scope f cd A outer s H E).ex := fun b z => absurd (show b ∈ ([] : List Addr) from z) (by simp)
 refine ⟨⟨e0.mod, S.kind, rfl, rfl, Nat.le_refl _, fun y z c h1 h2 => ?_, fun y hy => ?_, fun y c _ h => ?_, fun _ => hd, Around.frames_deeper e0.frames, .inr ⟨rfl, rfl⟩, fun b z => absurd z (noA b), e0.bs, e0.bsz, fun b _ _ => noA b, fun b z => absurd z (noA b), e0.funs, e0.frf⟩,
  rfl, e0.bare, Un.kept hk, ⟨_, x.toInCall.ns, fun i y v h1 h2 h3 => ?_⟩, fun y c h => ⟨_, x.cell y c h⟩, e0.hok.fresh (Nat.le_refl _), fun y c h => ?_, fun p hp => absurd (show p ∈ ([] : List (Addr × Obj)) from hp) (by simp), e0.hok.kept hk, ?_⟩
 ·exact name_of_addr x.apart (PySem.mem_of_lookup h1) (PySem.mem_of_lookup h2)
 ·have hy : scope.names.lookup y = some .cell ∨ scope.names.lookup y = some .free := hy
  rcases hy with hy | hy
  ·exact cell_has hy
  ·exact absurd rfl (S.nofree _ (PySem.mem_of_lookup hy))
 ·exact Nat.le_of_lt (x.above y c (PySem.mem_of_lookup h))
 ·have hi : i < vs.length := by
   unfold start at h2
   by_cases hi : i < vs.length
   ·exact hi
   ·rw [List.getElem?_append_right (by simpa using hi)] at h2
    rw [List.getElem?_replicate] at h2
    split at h2 <;> cases h2
  have ha : vs[i]? = some v := by
   unfold start at h2
   rw [List.getElem?_append_left (by simpa using hi), List.getElem?_map] at h2
   cases e : vs[i]? with
   | none => rw [e] at h2; cases h2
   | some a => rw [e] at h2; cases h2; rfl
  obtain ⟨u, hu, rv⟩ := r.get ha
  have hp : ps[i]? = some y := by
   rw [← S.pre, List.getElem?_take_of_lt (by omega)]; exact h1
  have ndP : ps.Nodup := by rw [← S.pre]; exact S.nd.sublist (List.take_sublist _ _)
  refine ⟨u, rv, ?_⟩
  rcases S.par y (List.mem_of_getElem? hp) with k | k
  ·exact .inl ⟨k, bindL_get ndP hp hu k⟩
  ·obtain ⟨c, e⟩ := cell_has (n := s.heap.objs.size + 1) k
   refine .inr ⟨.inl k, c, e, ?_⟩
   have q := x.cell y c e
   rw [bindC_get ndP hp hu (by show scope.names.lookup y ≠ _; rw [k]; decide)] at q
   exact q
 ·exact e0.hok.fresh (Nat.le_of_lt (x.above y c (PySem.mem_of_lookup h)))
 ·unfold start
  show _ = N.length
  rw [List.length_append, List.length_map, List.length_replicate]
  omega
theorem fn_of {CX : CXT} {P : Program} {w : World} {K : Frag} {mg : Str → Option Value} {base : Heap} {k : Nat} {f : Addr} {name qual : Str} {params : Arguments} {body : List Stmt} {scope : Scope} {dV kV doc pm cdv ct oc : Value} {an od : Option Addr}
  {osl : Array (Option Value)} {N ps : List Str} {sp : Sp} (lk : K.lookup f = some ⟨oc, od, .func (fnOf name qual params body scope dV kV doc pm an cdv ct), osl⟩) (hcd : codeIn K cdv qual = true) (S : FnScope N ps scope)
  (len : ∀ vs H Q E, sp vs H Q E → vs.length = ps.length)
  (hbody : ∀ (A : Around) (outer : List Env) (s : Shared) (H : Hp) (vs : List V) (Q : VK) (E : XK), Room k (A.deeper (envOfC qual scope s.heap.objs.size f cdv)) → sp vs H Q E →
   ∃ t, PSs (cxOf CX P w K mg base N qual scope f cdv A outer s H E) body t ∧ t { nx := fun _ H' => Q .non H', rt := Q } (start N vs) H) :
  FnOk P w K mg base CX (k + 1) f (fnOf name qual params body scope dV kV doc pm an cdv ct) ps sp := by
 refine ⟨len, fun A outer s H args us vs Q E hr e0 hb r hsp => ?_⟩
 have hl := len _ _ _ _ hsp
 have KX : K.In s.heap := e0.mod.kin.keeps fun b o e => (e0.bs b o e).1
 have lim : s.heap.NoLimit := e0.mod.nolimit.keeps fun b o e => (e0.bs b o e).1
 have hkind : ∀ y ∈ ps.zip us, scope.names.lookup y.1 = some .local ∨ (scope.names.lookup y.1 = some .cell ∧ ((cellsFrom (s.heap.objs.size + 1) scope.names []).lookup y.1).isSome = true) := fun ⟨n, v⟩ hy => by
  rcases S.par n (List.of_mem_zip hy).1 with q | q
  ·exact .inl q
  ·exact .inr ⟨q, PySem.W.cellsFrom_some _ _ _ (.inl q)⟩
 refine codeAny_call_function hr.depth (KX _ _ lk) rfl S.co S.gen rfl (PySem.W.codeRec_of KX hcd) (hb _ _ _ _ ?_)
 refine wpAny_newFunctionEnv_cells S.kind hkind fun env he s1 x => ?_
 subst he
 refine ⟨lim.keeps x.toInCall.keep, codeAny_func ?_⟩
 obtain ⟨t, ht, hq⟩ := hbody A outer s H vs Q E (hr.deeper _) hsp
 have I : Inv (cxOf CX P w K mg base N qual scope f cdv A outer s H E) [] (start N vs) H s1 := inv_start S hr.hd e0 hl r x
 refine wpAny_mono (ht [] s1 (start N vs) H _ I hq) (fun fl s' hs => ?_) fun e s' hs => hs
 have fin : ∀ {σ' : St} {H' : Hp} {v : V} {u : Value}, Inv (cxOf CX P w K mg base N qual scope f cdv A outer s H E) [] σ' H' s' → RelV v u → Q v H' → CE outer P w H s Q u s' :=
  fun {σ' H' v u} J rv q => ⟨v, H', J.os, J.bare, J.base, J.hok, rv, q⟩
 cases fl with
 | ret u =>
  obtain ⟨v, σ', H', J, rv, q⟩ := hs
  exact fin J rv q
 | next =>
  obtain ⟨σ', H', J, q⟩ := hs
  exact fin (v := V.non) (u := Value.none) J rfl q
 | brk =>
  obtain ⟨_, _, _, q⟩ := hs
  exact False.elim q
 | cont =>
  obtain ⟨_, _, _, q⟩ := hs
  exact False.elim q
end L2
namespace L2
open PySem PySem.Spec PyProof.Rows
section
variable {X : Cx} {x : Str} {p pos : Pos} {e : Expr} {es : List Expr} {t : TA} {id T : String} {r : List V → Hp → VK → Prop}
def tCB (r : List V → Hp → VK → Prop) (t : TA) : TE := fun σ H Q => t σ H fun vs H1 => r vs H1 Q
theorem pe_callB (hc : CallR X (.builtin id) r) (hg : Gl X x) (hm : X.mg x = none) (hv : bootBuiltins x = some (.builtin id)) (ha : PA X (e :: es) t) (hn : x ≠ "__name__" := by decide) (hdb : (x == ("__debug__" : Str)) = false := by decide)
  (he : starEach (e :: es) X.env = (false, eval e X.env) :: starEach es X.env := by rfl) (hpl : (backTo pos (starEach es X.env)).any (·.1) = false := by rfl) : PE X (.Call (.Name x p) (e :: es) [] pos) (tCB r t) := by
 intro pins s σ H Q I h
 refine wpAny_Call_Name_kw (ld_blt I hg hm hv ?_ hn hdb)
 exact PyProof.Rows.callWith_builtin1 (thn (ha pos pins s σ H _ I h) fun us s1 ⟨vs, H1, I1, r1, q1⟩ => hc pins s1 σ H1 vs us Q I1 r1 q1) he hpl
theorem pe_callTy (hc : CallR X (.type T) r) (hg : Gl X x) (hm : X.mg x = none) (hv : bootBuiltins x = some (.type T)) (ha : PA X (e :: es) t) (hn : x ≠ "__name__" := by decide) (hdb : (x == ("__debug__" : Str)) = false := by decide)
  (he : starEach (e :: es) X.env = (false, eval e X.env) :: starEach es X.env := by rfl) (hpl : (backTo pos (starEach es X.env)).any (·.1) = false := by rfl) : PE X (.Call (.Name x p) (e :: es) [] pos) (tCB r t) := by
 intro pins s σ H Q I h
 refine wpAny_Call_Name_kw (ld_blt I hg hm hv ?_ hn hdb)
 exact PyProof.Rows.callWith_type1 (thn (ha pos pins s σ H _ I h) fun us s1 ⟨vs, H1, I1, r1, q1⟩ => hc pins s1 σ H1 vs us Q I1 r1 q1) he hpl
end
end L2
namespace HT
open PySem PyProof.Rows
def lexLt : List Int → List Int → Bool
 | [], [] => false
 | [], _ :: _ => true
 | _ :: _, [] => false
 | x :: xs, y :: ys => if x = y then lexLt xs ys else decide (x < y)
section
open PySem.SeqAt
open PySem.AutoSeq1 (wpAny_loadPart')
open PySem.MeetsSeq PySem.MeetsSeq2 PySem.MeetsSeq3
end
section
variable {prog : Program} {w : World} {A : Around} {E : Value → Shared → Prop} {s : Shared}
def sIx (n d : Nat) : Option Int → Nat
 | none => d
 | some v => if v < 0 then (v + (n : Int)).toNat else min v.toNat n
end
end HT
namespace L2
open PySem PySem.Spec PyProof.Rows
abbrev TO := St → Hp → (Option Int → Hp → Prop) → Prop
def PO (X : Cx) (e : Option Expr) (t : TO) : Prop :=
 ∀ (pins : List (Addr × Obj)) (s : Shared) (σ : St) (H : Hp) (Q : Option Int → Hp → Prop), Inv X pins σ H s → t σ H Q →
  wpAny (model X.prog X.w) X.A (evalPart e X.env) (fun u s' => ∃ o H', Inv X pins σ H' s' ∧ IsPart u o ∧ Q o H') X.xe s
def tNoPart : TO := fun _ H Q => Q none H
def tPart (t : TE) : TO := fun σ H Q => t σ H fun x H1 => ∃ i, x = .int i ∧ Q (some i) H1
section
variable {X : Cx} {e : Expr} {te : TE} {lo hi : Option Expr} {tl th : TO} {pos p2 : Pos}
theorem po_none : PO X none tNoPart := by
 intro pins s σ H Q I h
 rw [evalPart_none]
 exact wpAny_pure ⟨none, H, I, .none, h⟩
theorem po_some (h : PE X e te) : PO X (some e) (tPart te) := by
 intro pins s σ H Q I hw
 rw [evalPart_some]
 refine thn (h pins s σ H _ I hw) fun u s1 ⟨x, H1, I1, r1, q1⟩ => ?_
 obtain ⟨i, rfl, q⟩ := q1
 obtain ⟨t, rfl⟩ := r1
 exact ⟨some i, H1, I1, .int i t, q⟩
def SlR (X : Cx) (r : V → Option Int → Option Int → Hp → VK → Prop) : Prop :=
 ∀ (pins : List (Addr × Obj)) (s : Shared) (σ : St) (H : Hp) (x : V) (v vl vu : Value) (lo hi : Option Int) (sl : Addr) (Q : VK), Inv X pins σ H s → RelV x v → s.heap.IsSliceOf sl vl vu .none → IsPart vl lo → IsPart vu hi → r x lo hi H Q →
  ∃ T id, typeLookup (.type T) "__getitem__" = pure (some (.builtin id)) ∧ s.TypeIs v T ∧ wpAny (model X.prog X.w) X.A (getItem v (.ref sl)) (EP X pins σ Q) X.xe s
def tSl (r : V → Option Int → Option Int → Hp → VK → Prop) (te : TE) (tl th : TO) : TE := fun σ H Q => te σ H fun x H1 => tl σ H1 fun l H2 => th σ H2 fun u H3 => r x l u H3 Q
theorem pe_slice {r : V → Option Int → Option Int → Hp → VK → Prop} (hr : SlR X r) (he : PE X e te) (hl : PO X lo tl) (hu : PO X hi th) : PE X (.Subscript e (.Slice lo hi none p2) pos) (tSl r te tl th) := by
 intro pins s σ H Q I h
 refine Subscript_ (thn (he pins s σ H _ I h) fun v s1 ⟨x, H1, I1, r1, q1⟩ => ?_)
 refine wpAny_Slice (thn (hl pins s1 σ H1 _ I1 q1) fun vl s2 ⟨l, H2, I2, pl, q2⟩ => thn (hu pins s2 σ H2 _ I2 q2) fun vu s3 ⟨u, H3, I3, pu, q3⟩ => ?_)
 rw [evalPart_none]
 refine wpAny_pure ?_
 have I4 : Inv X pins σ H3 { s3 with heap := s3.heap.push { cls := .type "slice", data := .fields #[vl, vu, .none] } } := I3.kept (t' := s3.toks) fun b ob q => Heap.get?_push_of_some _ q
 obtain ⟨T, id, hT, ht, hg⟩ := hr pins { s3 with heap := s3.heap.push { cls := .type "slice", data := .fields #[vl, vu, .none] } } σ H3 x v vl vu l u s3.heap.objs.size Q I4 r1 (Heap.IsSliceOf.new ..) pl pu q3
 show wpAny (model X.prog X.w) X.A (subscriptTail e (.Slice lo hi none p2) v (.ref s3.heap.objs.size)) (EP X pins σ Q) X.xe { s3 with heap := s3.heap.push { cls := .type "slice", data := .fields #[vl, vu, .none] } }
 exact tail_any (ops := [.ref s3.heap.objs.size, v]) ht hT hg (by with_unfolding_all rfl)
def cutV (xs : List V) (lo hi : Option Int) : List V := (xs.drop (HT.sIx xs.length 0 lo)).take (HT.sIx xs.length xs.length hi - HT.sIx xs.length 0 lo)
theorem cutV_length (xs : List V) (lo hi : Option Int) : (cutV xs lo hi).length ≤ xs.length := by
 unfold cutV
 rw [List.length_take, List.length_drop]
 omega
def rSlT (K : Frag) : V → Option Int → Option Int → Hp → VK → Prop := fun x lo hi H Q => ∃ a xs, x = .ref a ∧ SqT K H a xs ∧
 ¬ (HT.sIx xs.length 0 lo = 0 ∧ HT.sIx xs.length xs.length hi = xs.length) ∧ ∀ p, H p = none → Q (.ref p) (upd H p (.tup (cutV xs lo hi)))
def rLtT (K : Frag) : R2 := fun x y H Q => ∃ a b ns ms, x = .ref a ∧ y = .ref b ∧ SqT K H a (ns.map V.int) ∧ SqT K H b (ms.map V.int) ∧ Q (.bl (HT.lexLt ns ms)) H
def rCatT (K : Frag) : R2 := fun x y H Q => ∃ a b xs ys, x = .ref a ∧ y = .ref b ∧ SqT K H a xs ∧ SqT K H b ys ∧ xs ≠ [] ∧ xs.length + ys.length ≤ sizeLine ∧
 (ys = [] → Q (.ref a) H) ∧ (ys ≠ [] → ∀ p, H p = none → Q (.ref p) (upd H p (.tup (xs ++ ys))))
end
end L2
namespace L2
open PySem PySem.Spec PyProof.Rows
def ixN (n : Nat) (i : Int) : Option Nat := if 0 ≤ i then (if i < n then some i.toNat else none) else if -(n : Int) ≤ i then some (i + n).toNat else none
def atI {α : Type} (xs : List α) (i : Int) : Option α := (ixN xs.length i).bind fun j => xs[j]?
theorem ixN_seq {n : Nat} {i : Int} {j : Nat} (h : ixN n i = some j) : seqIndex? i n = some j ∧ j < n ∧ -(n : Int) ≤ i ∧ i < n := by
 unfold ixN at h
 by_cases h0 : 0 ≤ i
 ·rw [if_pos h0] at h
  by_cases h1 : i < n
  ·rw [if_pos h1] at h
   have e : i.toNat = j := Option.some.inj h
   exact ⟨by rw [seqIndex_of h0 h1, e], by omega, by omega, h1⟩
  ·rw [if_neg h1] at h; cases h
 ·rw [if_neg h0] at h
  by_cases h1 : -(n : Int) ≤ i
  ·rw [if_pos h1] at h
   have e : (i + n).toNat = j := Option.some.inj h
   exact ⟨by rw [seqIndex_neg (by omega) h1, e], by omega, h1, by omega⟩
  ·rw [if_neg h1] at h; cases h
theorem atI_get {α : Type} {xs : List α} {i : Int} {v : α} (h : atI xs i = some v) : ∃ j, seqIndex? i xs.length = some j ∧ xs[j]? = some v ∧ j < xs.length ∧ -(xs.length : Int) ≤ i ∧ i < xs.length := by
 unfold atI at h
 cases e : ixN xs.length i with
 | none => rw [e] at h; cases h
 | some j =>
  rw [e] at h
  obtain ⟨h1, h2, h3, h4⟩ := ixN_seq e
  exact ⟨j, h1, h, h2, h3, h4⟩
theorem atI_nat {α : Type} {xs : List α} {j : Nat} {v : α} (h : xs[j]? = some v) : atI xs (j : Int) = some v := by
 have hj : j < xs.length := (List.getElem?_eq_some_iff.mp h).1
 have e : ixN xs.length (j : Int) = some j := by
  unfold ixN
  rw [if_pos (by omega), if_pos (by omega)]; simp
 unfold atI; rw [e]; exact h
def PlainIx (b : Expr) : Prop := ∀ o i, subscripted b false o i = operate [o, i] (getItem o i)
def IxR (X : Cx) (r : R2) : Prop :=
 ∀ (value slice : Expr) (pins : List (Addr × Obj)) (s : Shared) (σ : St) (H : Hp) (x y : V) (v u : Value) (Q : VK), Inv X pins σ H s → RelV x v → RelV y u → r x y H Q →
  subscripted slice false v u = operate [v, u] (getItem v u) → wpAny (model X.prog X.w) X.A (subscriptTail value slice v u) (EP X pins σ Q) X.xe s
def MtR (X : Cx) (id : String) (r : V → List V → Hp → VK → Prop) : Prop :=
 ∀ (pins : List (Addr × Obj)) (s : Shared) (σ : St) (H : Hp) (x : V) (xs : List V) (v : Value) (us : List Value) (Q : VK), Inv X pins σ H s → RelV x v → Vals xs us → r x xs H Q →
  wpAny (model X.prog X.w) X.A (call (.builtin id) (v :: us)) (EP X pins σ Q) X.xe s
section
variable {X : Cx} {a b : Expr} {ta tb : TE} {pos : Pos}
theorem pe_ix {r : R2} (hr : IxR X r) (ha : PE X a ta) (hb : PE X b tb) (hs : PlainIx b) : PE X (.Subscript a b pos) (tOp r ta tb) := by
 intro pins s σ H Q I h
 exact Subscript_ (binT ha hb I h fun v u s2 x y H2 I2 rx ry q => hr a b pins s2 σ H2 x y v u Q I2 rx ry q (hs _ _))
def rIxL (K : Frag) : R2 := fun x y H Q => ∃ p xs i v, x = .ref p ∧ y = .int i ∧ SqL K H p xs ∧ atI xs i = some v ∧ Q v H
def rIxT (K : Frag) : R2 := fun x y H Q => ∃ p xs i v, x = .ref p ∧ y = .int i ∧ SqT K H p xs ∧ atI xs i = some v ∧ Q v H
def rIxS : R2 := fun x y H Q => ∃ z i c, x = .str z ∧ y = .int i ∧ z.length ≤ sizeLine ∧ atI z.cps.toList i = some c ∧ Q (.str ⟨#[c]⟩) H
theorem ix_list : IxR X (rIxL X.K) := by
 intro value slice pins s σ H x y v u Q I rx ry h hs
 obtain ⟨p, xs, i, z, rfl, rfl, hq, he, q⟩ := h
 cases rx
 obtain ⟨t, rfl⟩ := ry
 obtain ⟨its, r, pl, hz⟩ := I.list hq
 obtain ⟨j, h1, h2, h3, h4, h5⟩ := atI_get he
 obtain ⟨w, ew, rw'⟩ := r.get h2
 have hl := r.length
 have hn := line63
 have fin : EP X pins σ Q w s := ⟨z, H, I, rw', q⟩
 by_cases h0 : 0 ≤ i
 ·have hj : i.toNat = j := by
   rw [seqIndex_of h0 h5] at h1
   exact Option.some.inj h1
  exact item_listR pl.isList h0 (by omega) (by rw [hj]; simpa using ew) fin hs
 ·have hj : (i + (its.toArray.size : Int)).toNat = j := by
   rw [seqIndex_neg (by omega) h4] at h1
   rw [List.size_toArray, ← hl]
   exact Option.some.inj h1
  exact subscriptTail_builtinR (x := w) pl.isList.typeIs slot_list_getitem.lookup
   (wpAny_getItem_list_neg (Q := fun r s' => r = w ∧ EP X pins σ Q r s') pl.isList (by omega) (by rw [List.size_toArray] <;> omega) (by omega) (by rw [hj]; simpa using ew) ⟨rfl, fin⟩) hs
theorem ix_tup : IxR X (rIxT X.K) := by
 intro value slice pins s σ H x y v u Q I rx ry h hs
 obtain ⟨p, xs, i, z, rfl, rfl, hq, he, q⟩ := h
 cases rx
 obtain ⟨t, rfl⟩ := ry
 obtain ⟨its, r, pl, hz⟩ := I.tuple hq
 obtain ⟨j, h1, h2, h3, h4, h5⟩ := atI_get he
 obtain ⟨w, ew, rw'⟩ := r.get h2
 have hl := r.length
 have hn := line63
 have fin : EP X pins σ Q w s := ⟨z, H, I, rw', q⟩
 exact subscriptTail_builtinR (x := w) pl.typeIs slot_tuple_getitem.lookup
  (getItem_tuple (j := j) (Q := fun r s' => r = w ∧ EP X pins σ Q r s') pl (by omega) (by omega) (by rw [List.size_toArray, ← hl]; exact h1) (by simpa using ew) ⟨rfl, fin⟩) hs
theorem ix_str : IxR X rIxS := by
 intro value slice pins s σ H x y v u Q I rx ry h hs
 obtain ⟨z, i, c, rfl, rfl, hz, he, q⟩ := h
 obtain ⟨t, rfl⟩ := rx
 obtain ⟨t', rfl⟩ := ry
 obtain ⟨j, h1, h2, h3, h4, h5⟩ := atI_get he
 have hl : z.cps.toList.length = z.length := by simp [Str.length]
 rw [hl] at h1 h4 h5
 have hn := line63
 exact tail_any (typeIs_str s z t) slot_str_getitem.lookup (getItem_str (c := c) (by
  have e1 : decide (i < -(2 ^ 63 : Int)) = false := decide_eq_false (by omega)
  have e2 : decide (i ≥ 2 ^ 63) = false := decide_eq_false (by omega)
  rw [e1, e2, Bool.or_false]) (by rw [h1]; simpa using h2) ⟨.str ⟨#[c]⟩, H, I.tok _, ⟨_, rfl⟩, q⟩) hs
def rIx (K : Frag) : R2 := fun x y H Q => rIxL K x y H Q ∨ rIxT K x y H Q ∨ rIxS x y H Q
def rSetL : V → V → V → Hp → (Hp → Prop) → Prop := fun o i v H Q => ∃ p xs k j, o = .ref p ∧ i = .int k ∧ H p = some (.lst xs) ∧ ixN xs.length k = some j ∧ Q (upd H p (.lst (xs.set j v)))
theorem slice_bounds (lo hi : Option Int) (n : Nat) : (sliceBounds lo hi none n).1 = ((HT.sIx n 0 lo : Nat) : Int) ∧ (sliceBounds lo hi none n).2.1 = ((HT.sIx n n hi : Nat) : Int) ∧ (sliceBounds lo hi none n).2.2 = 1 := by
 refine ⟨?_, ?_, rfl⟩
 ·cases lo with
  | none => simp [sliceBounds, HT.sIx]
  | some i =>
   simp only [sliceBounds, HT.sIx, Option.getD_none, show (1 : Int) > 0 by decide, if_true]
   by_cases h : i < 0
   ·simp only [h, if_true] <;> omega
   ·simp only [h, if_false] <;> omega
 ·cases hi with
  | none => simp [sliceBounds, HT.sIx]
  | some i =>
   simp only [sliceBounds, HT.sIx, Option.getD_none, show (1 : Int) > 0 by decide, if_true]
   by_cases h : i < 0
   ·simp only [h, if_true] <;> omega
   ·simp only [h, if_false] <;> omega
theorem slicePick_cut (its : List Value) (lo hi : Option Int) : slicePick its.toArray lo hi none = ((its.drop (HT.sIx its.length 0 lo)).take (HT.sIx its.length its.length hi - HT.sIx its.length 0 lo)).toArray := by
 obtain ⟨h1, h2, h3⟩ := slice_bounds lo hi its.toArray.size
 unfold slicePick
 rw [h1, h2, h3]
 simp only [sliceRange_one, pick_run, List.size_toArray] <;> rfl
def rSlL (K : Frag) : V → Option Int → Option Int → Hp → VK → Prop := fun x lo hi H Q => ∃ a xs, x = .ref a ∧ SqL K H a xs ∧ ∀ p, H p = none → Q (.ref p) (upd H p (.lst (cutV xs lo hi)))
theorem sl_list : SlR X (rSlL X.K) := by
 intro pins s σ H x v vl vu lo hi sl Q I rx hs pl pu h
 obtain ⟨a, xs, rfl, hx, q⟩ := h
 cases rx
 obtain ⟨its, r, ht, hz⟩ := I.list hx
 have hlen := r.length
 refine ⟨"list", _, slot_list_getitem.lookup, ht.isList.typeIs, ?_⟩
 refine wpAny_getItem_list_slice ht.isList hs pl pu .none (by simp) ?_ (by rw [List.size_toArray] <;> omega)
 rw [slicePick_cut, ← hlen]
 refine ⟨.ref s.heap.objs.size, _, I.laid (t' := s.toks) (o := .lst (cutV xs lo hi)) (fun b ob q => Heap.get?_push_of_some _ q) (Nat.le_refl _) ?_, rfl, q _ (I.hok.fresh (Nat.le_refl _))⟩
 exact ⟨Nat.le_trans (cutV_length xs lo hi) hz, _, 0, (r.drop (HT.sIx xs.length 0 lo)).take (HT.sIx xs.length xs.length hi - HT.sIx xs.length 0 lo), Heap.get?_push_size _ rfl⟩
def flatV : V → Bool
 | .non => true
 | .bl _ => true
 | .int _ => true
 | .str _ => true
 | _ => false
def eqV : V → V → Bool
 | .non, .non => true
 | .bl a, .bl b => a == b
 | .bl a, .int b => (if a then 1 else 0) == b
 | .int a, .bl b => a == (if b then 1 else 0)
 | .int a, .int b => a == b
 | .str a, .str b => a == b
 | _, _ => false
theorem eqAt_V {A : Around} {s : Shared} {y x : V} {u v : Value} (ry : RelV y u) (rx : RelV x v) (fy : flatV y = true) (fx : flatV x = true) : SeqAt.EqAt A s u v (eqV y x) := by
 cases y with
 | non =>
  cases ry
  cases x with
  | non => cases rx; exact SeqAt.EqAt.same _
  | bl b => cases rx; exact SeqAt.EqAt.none_bool b
  | int b => obtain ⟨t, rfl⟩ := rx; exact SeqAt.EqAt.none_int b t
  | str b => obtain ⟨t, rfl⟩ := rx; exact SeqAt.EqAt.none_str b t
  | _ => exact absurd (show false = true from fx) Bool.false_ne_true
 | bl a =>
  cases ry
  cases x with
  | non => cases rx; exact SeqAt.EqAt.bool_none a
  | bl b => cases rx; exact SeqAt.EqAt.bool_bool a b
  | int b => obtain ⟨t, rfl⟩ := rx; exact SeqAt.EqAt.bool_int a b t
  | str b => obtain ⟨t, rfl⟩ := rx; exact SeqAt.EqAt.bool_str a b t
  | _ => exact absurd (show false = true from fx) Bool.false_ne_true
 | int a =>
  obtain ⟨t', rfl⟩ := ry
  cases x with
  | non => cases rx; exact SeqAt.EqAt.int_none a t'
  | bl b => cases rx; exact SeqAt.EqAt.int_bool a t' b
  | int b => obtain ⟨t, rfl⟩ := rx; exact SeqAt.EqAt.int_int a t' b t
  | str b => obtain ⟨t, rfl⟩ := rx; exact SeqAt.EqAt.int_str a t' b t
  | _ => exact absurd (show false = true from fx) Bool.false_ne_true
 | str a =>
  obtain ⟨t', rfl⟩ := ry
  cases x with
  | non => cases rx; exact SeqAt.EqAt.str_none a t'
  | bl b => cases rx; exact SeqAt.EqAt.str_bool a t' b
  | int b => obtain ⟨t, rfl⟩ := rx; exact SeqAt.EqAt.str_int a t' b t
  | str b => obtain ⟨t, rfl⟩ := rx; exact SeqAt.EqAt.str_str a t' b t
  | _ => exact absurd (show false = true from fx) Bool.false_ne_true
 | _ => exact absurd (show false = true from fy) Bool.false_ne_true
def eqU (x : V) (u : Value) : Bool := match u with
 | .none => eqV .non x
 | .bool b => eqV (.bl b) x
 | .int i _ => eqV (.int i) x
 | .str z _ => eqV (.str z) x
 | _ => false
def inV (x : V) (xs : List V) : Bool := xs.any fun y => eqV y x
def rIn (K : Frag) (neg : Bool) : R2 := fun x y H Q => ∃ p xs, y = .ref p ∧ (SqL K H p xs ∨ SqT K H p xs) ∧ flatV x = true ∧ xs.all flatV = true ∧ Q (.bl (if neg then !inV x xs else inV x xs)) H
theorem call_len_seq : CallR X (.builtin "len") (fun xs H Q => ∃ p ys, xs = [.ref p] ∧ (SqL X.K H p ys ∨ SqT X.K H p ys) ∧ Q (.int ys.length) H) := by
 intro pins s σ H xs us Q I r h
 obtain ⟨p, ys, rfl, hq, q⟩ := h
 obtain ⟨u, rfl, rx⟩ := vals1 r
 cases rx
 have hn := line63
 rcases hq with hq | hq
 ·obtain ⟨its, r', pl, hz⟩ := I.list hq
  have hlen := r'.length
  exact Calls.call_len_list pl.isList (by simp only [List.size_toArray] <;> omega) ⟨.int ys.length, H, I.tok _, ⟨s.toks + 1, by rw [List.size_toArray, hlen]⟩, q⟩
 ·obtain ⟨its, r', pl, hz⟩ := I.tuple hq
  have hlen := r'.length
  exact len_tuple pl (by simp only [List.size_toArray] <;> omega) ⟨.int ys.length, H, I.tok _, ⟨s.toks + 1, by rw [List.size_toArray, hlen]⟩, q⟩
theorem call_len_str : CallR X (.builtin "len") (fun xs H Q => ∃ z, xs = [.str z] ∧ z.length ≤ sizeLine ∧ Q (.int z.length) H) := by
 intro pins s σ H xs us Q I r h
 obtain ⟨z, rfl, hz, q⟩ := h
 obtain ⟨u, rfl, t, rfl⟩ := vals1 r
 have hn := line63
 exact len_str (by omega) ⟨.int z.length, H, I.tok _, ⟨_, rfl⟩, q⟩
def tyV (K : Frag) (T : String) (x : V) (H : Hp) : Prop := match x with
 | .str _ => T = "str"
 | .int _ => T = "int"
 | .ref p => (T = "list" ∧ ∃ xs, SqL K H p xs) ∨ (T = "tuple" ∧ ∃ o, K.lookup p = some o ∧ o.cls = .type "tuple" ∧ o.dict = none) ∨
   (T = "dict" ∧ ((∃ kvs, H p = some (.dK kvs)) ∨ ∃ kvs, H p = some (.dT kvs))) ∨ (T = "set" ∧ ∃ S n, H p = some (.set S n))
 | _ => False
theorem tyV_is {pins : List (Addr × Obj)} {σ : St} {H : Hp} {s : Shared} {T : String} {x : V} {v : Value} (I : Inv X pins σ H s) (r : RelV x v) (ty : tyV X.K T x H) :
  s.TypeIs v T ∧ ∀ a, v = .ref a → ∃ ob, s.heap.get? a = some ob ∧ ob.dict = none := by
 cases x with
 | str z =>
  obtain ⟨t, rfl⟩ := r
  cases (show T = "str" from ty)
  exact ⟨typeIs_str s z t, fun _ e => nomatch e⟩
 | int i =>
  obtain ⟨t, rfl⟩ := r
  cases (show T = "int" from ty)
  exact ⟨typeIs_int s i t, fun _ e => nomatch e⟩
 | ref p =>
  cases r
  rcases ty with ⟨rfl, xs, hq⟩ | ⟨rfl, o, hk, hc, hd⟩ | ⟨rfl, hk⟩ | ⟨rfl, S, n, hk⟩
  ·obtain ⟨its, _, pl, _⟩ := I.list hq
   refine ⟨pl.isList.typeIs, fun a e => ?_⟩
   cases e
   obtain ⟨o, n, e, c, hd, _⟩ := pl
   exact ⟨o, e, hd⟩
  ·refine ⟨⟨o, I.kIn p o hk, hc⟩, fun a e => ?_⟩
   cases e
   exact ⟨o, I.kIn _ o hk, hd⟩
  ·have z : ∃ o, s.heap.get? p = some o ∧ o.ExactDict := by
    rcases hk with ⟨kvs, hk⟩ | ⟨kvs, hk⟩
    ·obtain ⟨_, _, _, _, o, _, _, e, ex, _⟩ := I.hok p _ hk
     exact ⟨o, e, ex⟩
    ·obtain ⟨_, _, _, _, o, _, _, e, ex, _⟩ := I.hok p _ hk
     exact ⟨o, e, ex⟩
   obtain ⟨o, e, ex⟩ := z
   refine ⟨⟨o, e, ex.1⟩, fun a e2 => ?_⟩
   cases e2
   exact ⟨o, e, ex.2.1⟩
  ·obtain ⟨o, _, _, _, e, ex, _⟩ := I.hok p _ hk
   refine ⟨⟨o, e, ex.1⟩, fun a e2 => ?_⟩
   cases e2
   exact ⟨o, e, ex.2.1⟩
 | _ => exact False.elim ty
def tBM0 (K : Frag) (T : String) (r : V → List V → Hp → VK → Prop) (to : TE) : TE := fun σ H Q => to σ H fun x H1 => tyV K T x H1 ∧ r x [] H1 Q
def tBM (K : Frag) (T : String) (r : V → List V → Hp → VK → Prop) (to : TE) (t : TA) : TE := fun σ H Q => to σ H fun x H1 => tyV K T x H1 ∧ t σ H1 fun xs H2 => r x xs H2 Q
variable {o e : Expr} {es : List Expr} {to : TE} {t : TA} {name : Str} {apos cpos : Pos} {T id : String} {r : V → List V → Hp → VK → Prop}
theorem pe_bm (pa : PlainAttrs T) (slot : Slot T name id) (hty : typeOf (.builtin id) = pure (.type "method_descriptor")) (hm : MtR X id r) (ho : PE X o to) (ha : PA X (e :: es) t)
  (hbase : attributeBase o name X.env (eval o X.env) = eval o X.env := by rfl)
  (hfew : ((backTo cpos (starEach (e :: es) X.env)).all (fun x => !x.1) && (backToKw cpos (keywordEach [] X.env)).all (fun x => x.1.isSome)
   && decide ((e :: es).length + ([] : List Keyword).length + (if ([] : List Keyword).isEmpty then 0 else 1) < 30)) = true := by rfl)
  (hline : (apos.endLine == cpos.line) = true := by rfl) (hs : starEach (e :: es) X.env = (false, eval e X.env) :: starEach es X.env := by rfl) (hplain : (backTo cpos (starEach es X.env)).any (·.1) = false := by rfl) :
  PE X (.Call (.Attribute o name apos) (e :: es) [] cpos) (tBM X.K T r to t) := by
 intro pins s σ H Q I h
 refine wpAny_Call_method_late hbase hfew hline rfl (thn (ho pins s σ H _ I h) fun v s1 ⟨x, H1, I1, r1, ty, q1⟩ => ?_)
 obtain ⟨h1, h2⟩ := tyV_is I1 r1 ty
 refine ⟨T, id, pa, slot, hty, h1, h2, ?_⟩
 have hA := ha cpos pins s1 σ H1 _ I1 q1
 rw [hs] at hA ⊢
 refine Calls.callWith_builtin (by show (false || (backTo cpos (starEach es X.env)).any (·.1)) = false; rw [hplain] <;> rfl) (Calls.evalArgs_plain ?_)
 exact thn hA fun us s2 ⟨vs, H2, I2, r2, q2⟩ => hm pins s2 σ H2 x vs v us Q I2 r1 r2 q2
end
end L2
namespace L2
open PySem PySem.Spec PyProof.Rows
def MtM (X : Cx) (id : String) (r : V → List V → Hp → VK → Prop) : Prop :=
 ∀ (pins : List (Addr × Obj)) (s : Shared) (σ : St) (H : Hp) (x : V) (xs : List V) (v : Value) (us : List Value) (Q : VK), Inv X pins σ H s → RelV x v → Vals xs us → r x xs H Q →
  wpAny (model X.prog X.w) X.A (call (.builtin id) (v :: us)) (EP X pins σ Q) X.xe s
theorem Vals.one : ∀ {x : V} {us : List Value}, Vals [x] us → ∃ u, us = [u] ∧ RelV x u
 | _, _, .cons r .nil => ⟨_, rfl, r⟩
section
variable {X : Cx} {pins : List (Addr × Obj)} {σ : St} {H : Hp} {s : Shared} {l b : Addr} {xs ys zs : List V}
theorem Inv.lset {its its' : List Value} {n : Nat} {f : Array Value → Array Value} {t' : Nat} (I : Inv X pins σ H s) (hH : H l = some (.lst xs))
  (e : s.heap.get? l = some { cls := .type "list", data := .seq its.toArray n }) (hf : f its.toArray = its'.toArray) (hv : Vals ys its') (hz : ys.length ≤ sizeLine) :
  Inv X pins σ (upd H l (.lst ys)) { s with heap := s.heap.update l (Obj.mapSeq f), toks := t' } := by
 have q := PySem.IsL.update e f
 rw [hf] at q
 refine I.write (x := l) (e := l) (by rw [hH]; exact trivial) (.inl rfl) (fun b' u hb hu => (Heap.get?_update_other s.heap (Obj.mapSeq f) (Ne.symm hb)).trans hu) ⟨_, q⟩ ?_
 exact ⟨hz, its', _, hv, q⟩
theorem Inv.lnew {its : List Value} {t' : Nat} (I : Inv X pins σ H s) (hv : Vals ys its) (hz : ys.length ≤ sizeLine) :
  Inv X pins σ (upd H s.heap.objs.size (.lst ys)) { s with heap := s.heap.push { cls := .type "list", data := .seq its.toArray }, toks := t' } :=
 I.laid (fun _ _ q => Heap.get?_push_of_some _ q) (Nat.le_refl _) ⟨hz, its, 0, hv, Heap.get?_push_size _ rfl⟩
theorem Inv.fresh (I : Inv X pins σ H s) : H s.heap.objs.size = none := I.hok.fresh (Nat.le_refl _)
theorem Inv.lstM (I : Inv X pins σ H s) (hH : H l = some (.lst xs)) : xs.length ≤ sizeLine ∧ ∃ (its : List Value) (n : Nat), Vals xs its ∧ xs.length = its.length ∧ s.heap.get? l = some { cls := .type "list", data := .seq its.toArray n } := by
 obtain ⟨z, its, n, r, e⟩ := I.hok l _ hH
 exact ⟨z, its, n, r, r.length, e⟩
end
section
variable {X : Cx}
def rAppend : V → List V → Hp → VK → Prop := fun x vs H Q => ∃ l xs y, x = .ref l ∧ vs = [y] ∧ H l = some (.lst xs) ∧ xs.length < sizeLine ∧ Q .non (upd H l (.lst (xs ++ [y])))
theorem mt_append : MtM X "list.append" rAppend := by
 intro pins s σ H x vs v us Q I rx rv h
 obtain ⟨l, xs, y, rfl, rfl, hH, hz, q⟩ := h
 cases rx
 obtain ⟨u, rfl, ru⟩ := rv.one
 obtain ⟨z, its, n, r, hl, e⟩ := I.lstM hH
 refine call_meets F.slot_list_append ⟨_, e, rfl⟩ F.entry_list_append (F.args_list_append_2 _ _) (PySem.list_append l its.toArray n u (by rw [List.size_toArray]; omega)) ⟨e, ?_⟩
 refine ⟨.non, _, I.lset (its' := its ++ [u]) hH e (by simp) (r.append (.cons ru .nil)) ?_, rfl, q⟩
 rw [List.length_append, List.length_singleton]
 omega
def rExtend : V → List V → Hp → VK → Prop := fun x vs H Q => ∃ l b xs zs, x = .ref l ∧ vs = [.ref b] ∧ H l = some (.lst xs) ∧ H b = some (.lst zs) ∧ xs.length + zs.length ≤ sizeLine ∧ Q .non (upd H l (.lst (xs ++ zs)))
def rPop : V → List V → Hp → VK → Prop := fun x vs H Q => ∃ l xs y, x = .ref l ∧ vs = [] ∧ H l = some (.lst xs) ∧ xs[xs.length - 1]? = some y ∧ Q y (upd H l (.lst xs.dropLast))
def rPopAt : V → List V → Hp → VK → Prop := fun x vs H Q => ∃ l xs i k y, x = .ref l ∧ vs = [.int i] ∧ H l = some (.lst xs) ∧ -(2 ^ 63) ≤ i ∧ i < 2 ^ 63 ∧ seqIndex? i xs.length = some k ∧ xs[k]? = some y ∧ Q y (upd H l (.lst (xs.eraseIdx k)))
def rReverse : V → List V → Hp → VK → Prop := fun x vs H Q => ∃ l xs, x = .ref l ∧ vs = [] ∧ H l = some (.lst xs) ∧ Q .non (upd H l (.lst xs.reverse))
def rClear : V → List V → Hp → VK → Prop := fun x vs H Q => ∃ l xs, x = .ref l ∧ vs = [] ∧ H l = some (.lst xs) ∧ Q .non (upd H l (.lst []))
def rCat : R2 := fun x y H Q => ∃ l b xs zs, x = .ref l ∧ y = .ref b ∧ H l = some (.lst xs) ∧ H b = some (.lst zs) ∧ xs.length + zs.length ≤ sizeLine ∧ ∀ p, H p = none → Q (.ref p) (upd H p (.lst (xs ++ zs)))
theorem op_cat : OpR X (binaryOp .Add) rCat := by
 intro pins s σ H x y v u Q I rx ry h
 obtain ⟨l, b, xs, zs, rfl, rfl, hH, hB, hz, q⟩ := h
 cases rx
 cases ry
 obtain ⟨z, its, n, r, hl, e⟩ := I.lstM hH
 obtain ⟨z2, its2, n2, r2, hl2, e2⟩ := I.lstM hB
 refine PySem.P.add_list e e2 ?_ (by rw [List.size_toArray, List.size_toArray]; omega)
 have ea : its.toArray ++ its2.toArray = (its ++ its2).toArray := by simp
 rw [ea]
 exact ⟨.ref _, _, I.lnew (t' := s.toks) (r.append r2) (by rw [List.length_append]; omega), rfl, q _ I.fresh⟩
def rRep : R2 := fun x y H Q => ∃ l k xs, x = .ref l ∧ y = .int k ∧ H l = some (.lst xs) ∧ -(2 ^ 63) ≤ k ∧ k < 2 ^ 63 ∧ xs.length * k.toNat ≤ sizeLine ∧
 ∀ p, H p = none → Q (.ref p) (upd H p (.lst (List.replicate k.toNat xs).flatten))
end
section
variable {prog : Program} {w : World} {A : Around} {E : Value → Shared → Prop} {s : Shared}
set_option maxRecDepth 100000 in
end
section
variable {X : Cx}
end
end L2
namespace Att
open PySem PySem.W PySem.Calls PyProof.Rows
theorem ints_of_wellAll {P : Params} {h : Heap} : ∀ (ns : List Int) (vs : List Value), WellAll P h vs (ns.map WData.int) → IntsAre vs ns := by
 intro ns
 induction ns with
 | nil =>
  intro vs w
  rw [List.map_nil] at w
  cases w
  exact .nil
 | cons n ns ih =>
  intro vs w
  rw [List.map_cons] at w
  cases w with
  | cons a b =>
   cases a
   exact .cons _ _ (ih _ b)
theorem script_of {l : OpenLaw} {n : Nat} (hn : l.most = some n) {P : Params} {h : Heap} {args : List WData} {vals : List Value}
  (hpre : l.row.toRowW.claim.pre args = true) (hwl : WellAll P h vals args) :
  ∃ a vs ns, vals = [Value.ref a] ∧ args = [WData.list (ns.map WData.int)] ∧ h.get? a = some { cls := .type "list", data := .seq vs.toArray } ∧ IntsAre vs ns ∧ ns.length ≤ n := by
 have hsh : WShape.hasAll [] args [.list .int] = true := (pre_splitW hpre).1
 have hc : l.pre.holds [] { args := args } = true := (pre_splitW hpre).2
 obtain ⟨d, r, rfl, h1, h2⟩ := hasAllW_cons hsh
 obtain rfl := hasAllW_nil h2
 obtain ⟨xs, rfl, h3⟩ := hasW_list h1
 obtain ⟨ns, rfl⟩ := items_int h3
 have hlen : ns.length ≤ n := by
  unfold OpenLaw.pre at hc
  have h4 : (WTm.not (.lt (.lit (.int (n : Int))) (.len (.arg 0)))).holds [] { args := [.list (ns.map .int)] } = true := by
   have h4 := (holds_andW hc).1
   rw [hn] at h4
   exact h4
  have h5 := condW_of h4 (w_not (w_lt w_lit (w_len_list (w_arg rfl))))
  rw [List.length_map] at h5
  refine Nat.le_of_not_lt fun q => ?_
  have q' : (n : Int) < ((ns.length : Nat) : Int) := by omega
  first
   | (rw [decide_eq_true q'] at h5; exact absurd h5 (by decide))
   | (simp at h5; omega)
 cases hwl with
 | cons w1 w2 =>
  cases w2
  cases w1 with
  | list ho hall => exact ⟨_, _, ns, rfl, rfl, ho, ints_of_wellAll ns _ hall, hlen⟩
theorem post_true (l : OpenLaw) (args : List WData) : l.row.toRowW.claim.post args (.bool true) args = true :=
 postW_of (r := l.row.toRowW) (X := (true == true))
  (show WShape.has [] (.bool true) .bool = true by first | rfl | decide | simp [WShape.has, WShape.arms, WShape.armsAll])
  (show (WTm.eq .res (.lit (.bool true))).value [] { args := args, res := some (.bool true), after := args } = some (.bool (true == true)) from w_eq_bool (w_res rfl) w_lit) rfl
section
variable {prog : Program} {w : World} {A : Around} {E : Value → Shared → Prop} {s : Shared} {K : Frag}
def noObjs (h : Heap) : Heap := { h with objs := #[] }
def ledger (h : Heap) (L d : Addr) : List (Addr × Obj) := (List.range h.objs.size).filterMap fun a => if a = L ∨ a = d then none else (h.get? a).map fun o => (a, o)
end
end Att
namespace L2
open PySem PySem.Spec PyProof.Rows
theorem vals_ints : ∀ {vs : List Value} {ns : List Int}, IntsAre vs ns → Vals (ns.map V.int) vs
 | _, _, .nil => .nil
 | _, _, .cons n t h => .cons ⟨t, rfl⟩ (vals_ints h)
def Only (H : Hp) : Prop := ∀ b, H b = none ∨ ∃ o xs, H b = some (.frz o (.lst xs))
theorem law_call {P : Program} {w : World} {K : Frag} {mg mb : Str → Option Value} {CX : CXT} {k : Nat} {fa a : Addr} {fd : FuncData} {x : Str} {sp : Sp} {s₁ : Shared} {vs : List Value} {ns : List Int}
  (KX : K.In s₁.heap) (hns : s₁.heap.Ns mainGlobals mg) (hb : s₁.heap.Ns builtinsNs mb) (hbb : ∀ x : Str, x ≠ "__name__" → mb x = bootBuiltins x) (hlim : s₁.heap.NoLimit) (hsee : s₁.heap.NoSeer) (hg : s₁.gens = #[])
  (ha : s₁.heap.get? a = some { cls := .type "list", data := .seq vs.toArray }) (hi : IntsAre vs ns) (hl : ns.length ≤ sizeLine) (hr : Room k callerA)
  (F : ∀ base : Heap, K.In base → base.Ns mainGlobals mg → FnOk P w K mg base CX k fa fd [x] sp) (hbind : ∀ (s : Shared) (u : Value), BindsTo s fd ⟨[u], []⟩ [(x, u)])
  (hsp : ∀ H : Hp, Only H → SqL K H a (ns.map V.int) → sp [.ref a] H (fun v _ => v = .bl true) fun _ _ _ => False)
  (hCX : ∀ H e s', CX [] H s₁ (fun _ _ _ => False) e s' → False) :
  codeAny (model P w) callerA (.call (.ref fa) ⟨[.ref a], []⟩) (fun r s' => r = .ok (.ret (.bool true)) ∧ OldK s₁.heap s'.heap ∧ s'.os = s₁.os ∧ AllBare s'.gens) s₁ := by
 have rv := vals_ints hi
 have lenV := hi.length
 have core : ∀ H : Hp, Only H → SqL K H a (ns.map V.int) → HOk P w H s₁.heap → (∀ b, H b ≠ none → b = a) → (H a ≠ none → K.lookup a = none) →
   codeAny (model P w) callerA (.call (.ref fa) ⟨[.ref a], []⟩) (fun r s' => r = .ok (.ret (.bool true)) ∧ OldK s₁.heap s'.heap ∧ s'.os = s₁.os ∧ AllBare s'.gens) s₁ := by
  intro H hO hS hok hA hK
  have base_of : ∀ {b : Addr} {o : Obj}, s₁.heap.get? b = some o → H b = none → (hidT s₁.heap H).get? b = some o := fun e n => hidT_get e n
  have noA : ∀ {b : Addr} {o : Obj} {es : Array DictEntry} {ep : Nat}, s₁.heap.get? b = some o → o.data = .dict es ep → H b = none := fun {b o es ep} e d => by
   cases q : H b with
   | none => rfl
   | some u =>
    have e' : b = a := hA b (by rw [q]; simp)
    subst e'
    rw [ha] at e; cases e
    have d' : Data.seq vs.toArray _ = Data.dict es ep := d
    cases d'
  have nsK : ∀ {b : Addr} {m : Str → Option Value}, s₁.heap.Ns b m → (hidT s₁.heap H).Ns b m := fun {b m} ⟨o, es, ep, e, d, r⟩ => ⟨o, es, ep, base_of e (noA e d), d, r⟩
  have hKb : K.In (hidT s₁.heap H) := fun b o e => base_of (KX b o e) (by
   cases q : H b with
   | none => rfl
   | some u =>
    have e' : b = a := hA b (by rw [q]; simp)
    subst e'
    rw [hK (by rw [q]; simp)] at e; cases e)
  have hM : Mod K mg (hidT s₁.heap H) := ⟨hKb, nsK hns, ⟨mb, nsK hb, hbb⟩, let ⟨mc, h1, h2⟩ := hlim; ⟨mc, nsK h1, h2⟩,
   ⟨let ⟨mc, h1, h2⟩ := hsee.statics; ⟨mc, nsK h1, h2⟩, let ⟨mc, h1, h2⟩ := hsee.mods; ⟨mc, nsK h1, h2⟩, let ⟨mc, h1, h2⟩ := hsee.imp; ⟨mc, nsK h1, h2⟩,
    let ⟨mg', bm, ob, h1, h2, h3, h4, h5⟩ := hsee.main; ⟨mg', bm, ob, nsK h1, h2, base_of h3 (by
     cases q : H bm with
     | none => rfl
     | some u =>
      have e' : bm = a := hA bm (by rw [q]; simp)
      subst e'
      rw [ha] at h3
      cases h3
      have h4' : Value.type "list" = Value.type "module" := h4
      injection h4' with e9
      exact absurd e9 (by decide)), h4, h5⟩⟩⟩
  have e0 : Env0 P w K mg (hidT s₁.heap H) callerA [] s₁ H := ⟨rfl, hM, fun b o e => of_hidT e, Nat.le_of_eq (hidT_size _ _), trivial, fun b hb => absurd (show b ∈ ([] : List Addr) from hb) (by simp), hok, .of_eq hg⟩
  refine codeAny_mono ((F _ hKb (nsK hns)).run callerA [] s₁ H ⟨[.ref a], []⟩ [.ref a] [.ref a] _ _ hr e0 (hbind s₁ (.ref a)) (.cons rfl .nil) (hsp H hO hS)) fun r s' h => ?_
  cases r with
  | error e => exact (hCX H e s' h).elim
  | ok fl =>
   cases fl with
   | next => exact False.elim h
   | brk => exact False.elim h
   | cont => exact False.elim h
   | ret u =>
    obtain ⟨v, H', os, bare, un, hok', r', q⟩ := h
    have q' : v = .bl true := q
    subst q'
    obtain rfl : u = Value.bool true := r'
    refine ⟨rfl, OldK.of_keep fun b o e => ?_, os, bare⟩
    cases q : H b with
    | none => exact un.keep b o e q (by intro z; exact absurd (show b ∈ ([] : List Addr) from z) (by simp)) (by simp)
    | some u =>
     rcases hO b with z | ⟨ob, xs, z⟩
     ·rw [q] at z; cases z
     ·have z2 := un.frzs b ob _ z
      obtain ⟨e1, _⟩ := hok b _ z
      obtain ⟨e2, _⟩ := hok' b _ z2
      rw [e] at e1; cases e1
      exact e2
 cases hk : K.lookup a with
 | some o =>
  have e := KX a o hk
  rw [ha] at e
  cases e
  refine core (fun _ => none) (fun _ => .inl rfl) (.inr ⟨_, vs.toArray, _, hk, rfl, rfl, rfl, by rw [List.size_toArray, lenV]; exact hl, by simpa using rv⟩) (fun b u z => by have z' : (none : Option HO) = some u := z; cases z') (fun b z => absurd rfl z) fun z => absurd rfl z
 | none =>
  refine core (fun b => if b = a then some (.frz { cls := .type "list", data := .seq vs.toArray } (.lst (ns.map V.int))) else none) (fun b => ?_) (.inl (.inr ⟨{ cls := .type "list", data := .seq vs.toArray }, if_pos rfl⟩)) (fun b u z => ?_) (fun b z => ?_) fun _ => hk
  ·by_cases hb : b = a
   ·exact .inr ⟨_, _, if_pos hb⟩
   ·exact .inl (if_neg hb)
  ·by_cases hb : b = a
   ·have z' := (if_pos hb).symm.trans z
    cases z'
    subst hb
    exact ⟨ha, by rw [List.length_map]; exact hl, vs, _, rv, ha⟩
   ·have z' := (if_neg hb).symm.trans z
    cases z'
  ·by_cases hb : b = a
   ·exact hb
   ·exact absurd (if_neg hb) z
end L2
namespace L2
open PySem PySem.Spec PyProof.Rows
abbrev KOf {K : Frag} {h : Heap} (_ : K.In h) : Frag := K
end L2
namespace L2
open PySem PySem.Spec PyProof.Rows
def inClass (s : Stmt) (j : Nat) : Stmt := match s with
 | .ClassDef _ _ _ body _ _ _ _ _ _ _ => body.getD j (.Pass ⟨0, 0, 0, 0⟩)
 | _ => .Pass ⟨0, 0, 0, 0⟩
def defArgs (s : Stmt) : Arguments := match s with
 | .FunctionDef _ a _ _ _ _ _ _ _ _ => a
 | _ => { posonlyargs := [], args := [], vararg := none, kwonlyargs := [], kw_defaults := [], kwarg := none, defaults := [] }
def defBody (s : Stmt) : List Stmt := match s with
 | .FunctionDef _ _ b _ _ _ _ _ _ _ => b
 | _ => []
def defScope (s : Stmt) : Scope := match s with
 | .FunctionDef _ _ _ _ _ _ sc _ _ _ => sc
 | _ => { kind := .function, names := [], isGenerator := false, isCoroutine := false }
abbrev CX0 : CXT := fun _ _ _ _ _ _ => False
abbrev E0 : XK := fun _ _ _ => False
structure Fun (K : Frag) (x qual : Str) (st : Stmt) (f : Addr) (fd : FuncData) : Prop where
 ex : ∃ (oc : Value) (od : Option Addr) (kV doc pm : Value) (an : Option Addr) (cdv ct : Value) (osl : Array (Option Value)),
  fd = fnOf x qual (defArgs st) (defBody st) (defScope st) .none kV doc pm an cdv ct ∧ K.lookup f = some ⟨oc, od, .func fd, osl⟩ ∧ codeIn K cdv qual = true
 kp : keepIn K (.ref f) = true
section
variable {P : Program} {w : World} {K : Frag} {mg : Str → Option Value} {base : Heap}
theorem Fun.binds {x qual : Str} {st : Stmt} {f : Addr} {fd : FuncData} {ps : List Str} (F : Fun K x qual st f fd)
  (h : ∀ (kV doc pm : Value) (an : Option Addr) (cdv ct : Value) (us : List Value), us.length = ps.length → bindArgs (fnOf x qual (defArgs st) (defBody st) (defScope st) .none kV doc pm an cdv ct) ⟨us, []⟩ = pure (ps.zip us)) : Binds K fd ps [] := by
 obtain ⟨oc, od, kV, doc, pm, an, cdv, ct, osl, rfl, lk, hcd⟩ := F.ex
 exact .all (h kV doc pm an cdv ct)
theorem fun_mk {x qual : Str} {st : Stmt} {f : Addr} {oc : Value} {od an : Option Addr} {osl : Array (Option Value)} {kV doc pm cdv ct : Value} (l : K.lookup f = some ⟨oc, od, .func (fnOf x qual (defArgs st) (defBody st) (defScope st) .none kV doc pm an cdv ct), osl⟩)
  (c : codeIn K cdv qual = true) (k : keepIn K (.ref f) = true) : Fun K x qual st f (fnOf x qual (defArgs st) (defBody st) (defScope st) .none kV doc pm an cdv ct) := ⟨⟨oc, od, kV, doc, pm, an, cdv, ct, osl, rfl, l, c⟩, k⟩
end
theorem hu_of {A : Around} {k : Nat} (hr : Room k A) : A.units + 1 < cLine := Nat.lt_of_le_of_lt (Nat.add_le_add_left (by decide : 1 ≤ 64) _) hr.units
section
variable {X : Cx}
theorem pv (i : Nat) {x : Str} {pos : Pos} (hN : X.N[i]? = some x := by rfl) (hv : Vis X.env.scope x := by first | exact Or.inl rfl | exact Or.inr (Or.inl rfl) | exact Or.inr (Or.inr rfl)) (hd : (x == ("__debug__" : Str)) = false := by decide)
  (hcd : (x == ("__classdict__" : Str)) = false := by decide) : PE X (.Name x pos) (tVar i) := pe_var hN hv hd hcd
end
theorem iteF {A B : Prop} (h : B) : if false = true then A else B := by
 rw [if_neg Bool.false_ne_true]
 exact h
theorem iteT {A B : Prop} (h : A) : if true = true then A else B := by
 rw [if_pos rfl]
 exact h
theorem ite2 {c A B : Prop} [Decidable c] (h1 : c → A) (h2 : ¬ c → B) : if c then A else B := by
 by_cases h : c
 ·rw [if_pos h]
  exact h1 h
 ·rw [if_neg h]
  exact h2 h
theorem iteNS {c A B : Prop} [Decidable c] (hc : c) (h : B) : if (!decide c) = true then A else B := by
 rw [decide_eq_true hc]
 exact iteF h
def Same (H H' : Hp) : Prop := ∀ b o, H b = some o → H' b = some o
theorem Same.refl (H : Hp) : Same H H := fun _ _ h => h
theorem Same.trans {H H1 H2 : Hp} (a : Same H H1) (b : Same H1 H2) : Same H H2 := fun c o h => b c o (a c o h)
theorem Same.free {H H' : Hp} (e : Same H H') {l : Addr} (h : H' l = Option.none) : H l = Option.none := by
 cases q : H l with
 | none => rfl
 | some o =>
  rw [e l o q] at h
  cases h
theorem Same.seq {K : Frag} {H H' : Hp} {a : Addr} {xs : List V} (e : Same H H') (h : SqL K H a xs) : SqL K H' a xs := by
 rcases h with (h | ⟨o, h⟩) | h
 ·exact .inl (.inl (e _ _ h))
 ·exact .inl (.inr ⟨o, e _ _ h⟩)
 ·exact .inr h
end L2
namespace Ty
def gz (t b : Int) : Int := (Int.gcd t b : Nat)
def sg (t b : Int) : Int := if b < 0 then -gz t b else gz t b
def low (t b : Int) : Int × Int := (t.fdiv (sg t b), b.fdiv (sg t b))
theorem gcd_step (a b : Int) : Int.gcd b (a.fmod b) = Int.gcd a b := by
 rw [Int.fmod_def, Int.gcd_sub_mul_left_right, Int.gcd_comm]
theorem fmod_less {a b : Int} (h : b ≠ 0) : (a.fmod b).natAbs < b.natAbs := by
 rcases Int.lt_trichotomy b 0 with q | q | q
 ·have h1 : (-a).fmod (-b) = -(a.fmod b) := by
   rw [Int.fmod_def, Int.fmod_def, Int.neg_fdiv_neg, Int.neg_mul]
   omega
  have h2 := Int.fmod_nonneg_of_pos (-a) (show 0 < -b by omega)
  have h3 := Int.fmod_lt_of_pos (-a) (show 0 < -b by omega)
  omega
 ·exact absurd q h
 ·have h2 := Int.fmod_nonneg_of_pos a q
  have h3 := Int.fmod_lt_of_pos a q
  omega
theorem gz_pos {t b : Int} (h : b ≠ 0) : 0 < gz t b := by
 have := Int.gcd_pos_iff.mpr (Or.inr h : t ≠ 0 ∨ b ≠ 0)
 show (0 : Int) < ((Int.gcd t b : Nat) : Int)
 omega
theorem sg_ne {t b : Int} (h : b ≠ 0) : sg t b ≠ 0 := by
 have := gz_pos (t := t) h
 unfold sg
 split <;> omega
theorem sg_abs {t b : Int} : (sg t b).natAbs = (gz t b).natAbs := by
 unfold sg
 split
 ·exact Int.natAbs_neg _
 ·rfl
theorem sg_dvd_left (t b : Int) : sg t b ∣ t := by
 unfold sg gz
 split
 ·exact Int.neg_dvd.mpr (Int.gcd_dvd_left t b)
 ·exact Int.gcd_dvd_left t b
theorem sg_dvd_right (t b : Int) : sg t b ∣ b := by
 unfold sg gz
 split
 ·exact Int.neg_dvd.mpr (Int.gcd_dvd_right t b)
 ·exact Int.gcd_dvd_right t b
theorem fdiv_of_dvd {a g : Int} (h : g ≠ 0) (d : g ∣ a) : a = g * a.fdiv g := by
 obtain ⟨c, hc⟩ := d
 have := Int.fdiv_eq_of_eq_mul_right h hc
 rw [this]
 exact hc
theorem low_top {t b : Int} (h : b ≠ 0) : t = sg t b * (low t b).1 := fdiv_of_dvd (sg_ne h) (sg_dvd_left t b)
theorem low_bot {t b : Int} (h : b ≠ 0) : b = sg t b * (low t b).2 := fdiv_of_dvd (sg_ne h) (sg_dvd_right t b)
theorem low_pos {t b : Int} (h : b ≠ 0) : 0 < (low t b).2 := by
 have e := low_bot (t := t) h
 have g := gz_pos (t := t) h
 rcases Int.lt_trichotomy (low t b).2 0 with q | q | q
 ·exfalso
  by_cases c : b < 0
  ·have s : sg t b = -gz t b := by unfold sg; rw [if_pos c]
   rw [s] at e
   have := Int.mul_pos_of_neg_of_neg (show -gz t b < 0 by omega) q
   omega
  ·have s : sg t b = gz t b := by unfold sg; rw [if_neg c]
   rw [s] at e
   have := Int.mul_neg_of_pos_of_neg g q
   omega
 ·exfalso
  rw [q, Int.mul_zero] at e
  exact h e
 ·exact q
theorem low_cross {t b : Int} (h : b ≠ 0) : (low t b).1 * b = t * (low t b).2 := by
 have e1 := low_top (t := t) h
 have e2 := low_bot (t := t) h
 calc (low t b).1 * b = (low t b).1 * (sg t b * (low t b).2) := by rw [← e2]
  _ = sg t b * (low t b).1 * (low t b).2 := by rw [← Int.mul_assoc, Int.mul_comm (low t b).1]
  _ = t * (low t b).2 := by rw [← e1]
theorem low_gcd {t b : Int} (h : b ≠ 0) : Int.gcd (low t b).1 (low t b).2 = 1 := by
 have e1 := low_top (t := t) h
 have e2 := low_bot (t := t) h
 have k : Int.gcd t b = (sg t b).natAbs * Int.gcd (low t b).1 (low t b).2 := by
  have q := Int.gcd_mul_left (sg t b) (low t b).1 (low t b).2
  rw [← e1, ← e2] at q
  exact q
 have g : (sg t b).natAbs = Int.gcd t b := by
  rw [sg_abs]
  rfl
 have p := Int.gcd_pos_iff.mpr (Or.inr h : t ≠ 0 ∨ b ≠ 0)
 rw [g] at k
 have k' : Int.gcd t b * 1 = Int.gcd t b * Int.gcd (low t b).1 (low t b).2 := by rw [Nat.mul_one]; exact k
 exact (Nat.eq_of_mul_eq_mul_left p k').symm
theorem natAbs_factor {g a : Int} (h : g ≠ 0) : a.natAbs ≤ (g * a).natAbs := by
 rw [Int.natAbs_mul]
 have : 1 ≤ g.natAbs := by omega
 have := Nat.mul_le_mul_right a.natAbs this
 omega
theorem low_top_le {t b : Int} (h : b ≠ 0) : (low t b).1.natAbs ≤ t.natAbs := by
 have e := low_top (t := t) h
 have := natAbs_factor (g := sg t b) (a := (low t b).1) (sg_ne h)
 rw [← e] at this
 exact this
theorem low_bot_le {t b : Int} (h : b ≠ 0) : (low t b).2.natAbs ≤ b.natAbs := by
 have e := low_bot (t := t) h
 have := natAbs_factor (g := sg t b) (a := (low t b).2) (sg_ne h)
 rw [← e] at this
 exact this
theorem low_of {t b g x y : Int} (hg : g ≠ 0) (ht : t = g * x) (hb : b = g * y) (hy : 0 < y) (h1 : Int.gcd x y = 1) : low t b = (x, y) := by
 have hbn : b ≠ 0 := by
  rw [hb]
  exact Int.mul_ne_zero hg (by omega)
 have gg : Int.gcd t b = g.natAbs := by
  rw [ht, hb, Int.gcd_mul_left, h1, Nat.mul_one]
 have s : sg t b = g := by
  unfold sg gz
  rw [gg]
  by_cases c : g < 0
  ·have : b < 0 := by rw [hb]; exact Int.mul_neg_of_neg_of_pos c hy
   rw [if_pos this]
   omega
  ·have : ¬ b < 0 := by
    have := Int.mul_nonneg (show 0 ≤ g by omega) (show 0 ≤ y by omega)
    omega
   rw [if_neg this]
   omega
 unfold low
 rw [s]
 rw [Int.fdiv_eq_of_eq_mul_right hg ht, Int.fdiv_eq_of_eq_mul_right hg hb]
theorem low_self {x y : Int} (hy : 0 < y) (h : Int.gcd x y = 1) : low x y = (x, y) := low_of (g := 1) (by decide) (by omega) (by omega) hy h
theorem low_scale {t b k : Int} (hk : k ≠ 0) (h : b ≠ 0) : low (k * t) (k * b) = low t b := by
 refine low_of (g := k * sg t b) (Int.mul_ne_zero hk (sg_ne h)) ?_ ?_ (low_pos h) (low_gcd h)
 ·rw [Int.mul_assoc]
  exact congrArg (k * ·) (low_top h)
 ·rw [Int.mul_assoc]
  exact congrArg (k * ·) (low_bot h)
theorem low_cross_iff {t b u c : Int} (hb : b ≠ 0) (hc : c ≠ 0) (h : t * c = u * b) : low t b = low u c := by
 rw [← low_scale (t := t) (b := b) hc hb, ← low_scale (t := u) (b := c) hb hc]
 rw [Int.mul_comm c t, h, Int.mul_comm u b, Int.mul_comm c b]
end Ty
set_option maxHeartbeats 4000000
namespace Ty
open PySem PySem.Spec PyProof.Rows L2
open Builtin.Int (intBits)
section
variable {X : Cx}
def CMulB (i j : Int) : Prop := intBits i ≤ 33554432 ∧ intBits j ≤ 33554432
theorem op_mulB : OpR X (binaryOp .Mult) (rI CMulB fun i j => .int (i * j)) :=
 opI fun _ _ _ _ _ _ _ hc q => mul_int q (IntMulOk.of_le hc.1 hc.2 (by decide))
def CDivB (i j : Int) : Prop := j ≠ 0 ∧ intBits j ≤ 9000
theorem noPy {i j : Int} (h : intBits j ≤ 9000) : Builtin.divisionGoesByPylong i j = false := by
 refine PyProof.noPylong_of_log2 ?_
 have h1 := intBits_le_iff.mp h
 by_cases h0 : j.natAbs = 0
 ·rw [h0]
  decide +kernel
 ·exact (Nat.log2_lt h0).mpr h1
theorem op_fdivB : OpR X (binaryOp .FloorDiv) (rI CDivB fun i j => .int (i.fdiv j)) :=
 opI fun _ _ _ _ _ _ _ hc q => floordiv_int hc.1 q (.inl (noPy hc.2))
end
inductive Da where
 | v (x : V)
 | t (ds : List Da)
 | l (ds : List Da)
mutual
def Is (K : Frag) (H : Hp) : Da → V → Prop
 | .v x, u => u = x ∧ flatV x = true
 | .t ds, u => ∃ p xs, u = .ref p ∧ SqT K H p xs ∧ Iss K H ds xs
 | .l ds, u => ∃ p xs, u = .ref p ∧ SqL K H p xs ∧ Iss K H ds xs
def Iss (K : Frag) (H : Hp) : List Da → List V → Prop
 | [], [] => True
 | d :: ds, x :: xs => Is K H d x ∧ Iss K H ds xs
 | _, _ => False
end
mutual
def eqDa : Da → Da → Bool
 | .v x, .v y => eqV x y
 | .t ds, .t es => eqDas ds es
 | .l ds, .l es => eqDas ds es
 | _, _ => false
def eqDas : List Da → List Da → Bool
 | [], [] => true
 | d :: ds, e :: es => eqDa d e && eqDas ds es
 | _, _ => false
end
mutual
def alike : Da → Da → Bool
 | .v _, .v _ => true
 | .t ds, .t es => alikes ds es
 | .l ds, .l es => alikes ds es
 | _, _ => false
def alikes : List Da → List Da → Bool
 | d :: ds, e :: es => alike d e && alikes ds es
 | _, _ => true
end
mutual
def dep : Da → Nat
 | .v _ => 0
 | .t ds => deps ds + 1
 | .l ds => deps ds + 1
def deps : List Da → Nat
 | [] => 0
 | d :: ds => max (dep d) (deps ds)
end
theorem Iss.length {K : Frag} {H : Hp} : ∀ {ds : List Da} {xs : List V}, Iss K H ds xs → ds.length = xs.length
 | [], [], _ => rfl
 | _ :: _, _ :: _, h => congrArg (· + 1) (Iss.length (by unfold Iss at h; exact h.2))
 | [], _ :: _, h => by unfold Iss at h; exact h.elim
 | _ :: _, [], h => by unfold Iss at h; exact h.elim
def bitDa (ds es : List Da) (j : Nat) : Bool := match ds[j]?, es[j]? with
 | some d, some e => eqDa d e
 | _, _ => true
theorem eqDas_bits : ∀ ds es : List Da, eqDas ds es = ((List.range (min ds.length es.length)).all (bitDa ds es) && ds.length == es.length)
 | [], [] => rfl
 | [], _ :: _ => by simp [eqDas]
 | _ :: _, [] => by simp [eqDas]
 | d :: ds, e :: es => by
  have ih := eqDas_bits ds es
  have r : min (d :: ds).length (e :: es).length = min ds.length es.length + 1 := by simp [Nat.succ_min_succ]
  rw [r, List.range_succ_eq_map, List.all_cons, List.all_map]
  have b0 : bitDa (d :: ds) (e :: es) 0 = eqDa d e := rfl
  have b1 : (bitDa (d :: ds) (e :: es) ∘ Nat.succ) = bitDa ds es := by
   funext j
   rfl
  have l1 : ((d :: ds).length == (e :: es).length) = (ds.length == es.length) := by simp
  rw [b0, b1, l1, Bool.and_assoc, ← ih]
  rfl
section
variable {X : Cx} {pins : List (Addr × Obj)} {σ : L2.St} {H : Hp} {s : Shared}
theorem eqV_refl {x : V} (h : flatV x = true) : eqV x x = true := by
 cases x <;> first | rfl | (simp [eqV]; done) | (cases h; done)
mutual
theorem is_same (I : Inv X pins σ H s) : ∀ (d e : Da) (x : V), Is X.K H d x → Is X.K H e x → alike d e = true → eqDa d e = true
 | .v a, .v b, x, h1, h2, _ => by
  unfold Is at h1 h2
  obtain ⟨rfl, f⟩ := h1
  obtain ⟨rfl, _⟩ := h2
  unfold eqDa
  exact eqV_refl f
 | .t ds, .t es, x, h1, h2, a => by
  unfold Is at h1 h2
  obtain ⟨p, xs, rfl, q1, k1⟩ := h1
  obtain ⟨p', ys, e', q2, k2⟩ := h2
  cases e'
  cases I.tuple_inj q1 q2
  unfold eqDa
  unfold alike at a
  exact iss_same I ds es xs k1 k2 a
 | .l ds, .l es, x, h1, h2, a => by
  unfold Is at h1 h2
  obtain ⟨p, xs, rfl, q1, k1⟩ := h1
  obtain ⟨p', ys, e', q2, k2⟩ := h2
  cases e'
  cases I.list_inj q1 q2
  unfold eqDa
  unfold alike at a
  exact iss_same I ds es xs k1 k2 a
 | .v _, .t _, _, _, _, a => by unfold alike at a; cases a
 | .v _, .l _, _, _, _, a => by unfold alike at a; cases a
 | .t _, .v _, _, _, _, a => by unfold alike at a; cases a
 | .t _, .l _, _, _, _, a => by unfold alike at a; cases a
 | .l _, .v _, _, _, _, a => by unfold alike at a; cases a
 | .l _, .t _, _, _, _, a => by unfold alike at a; cases a
theorem iss_same (I : Inv X pins σ H s) : ∀ (ds es : List Da) (xs : List V), Iss X.K H ds xs → Iss X.K H es xs → alikes ds es = true → eqDas ds es = true
 | [], [], _, _, _, _ => by unfold eqDas; rfl
 | d :: ds, e :: es, x :: xs, h1, h2, a => by
  unfold Iss at h1 h2
  unfold alikes at a
  rw [Bool.and_eq_true] at a
  unfold eqDas
  rw [is_same I d e x h1.1 h2.1 a.1, iss_same I ds es xs h1.2 h2.2 a.2]
  rfl
 | [], _ :: _, [], _, h2, _ => by unfold Iss at h2; exact h2.elim
 | [], _ :: _, _ :: _, h1, _, _ => by unfold Iss at h1; exact h1.elim
 | _ :: _, [], [], h1, _, _ => by unfold Iss at h1; exact h1.elim
 | _ :: _, [], _ :: _, _, h2, _ => by unfold Iss at h2; exact h2.elim
 | _ :: _, _ :: _, [], h1, _, _ => by unfold Iss at h1; exact h1.elim
end
theorem in1_units (A : Around) : A.in1.units = A.units + 1 := rfl
mutual
theorem eqAt_da (I : Inv X pins σ H s) : ∀ (d e : Da) (x y : V) (u w : Value) (A : Around), Is X.K H d x → Is X.K H e y → alike d e = true → RelV x u → RelV y w → A.units + dep d < cLine → SeqAt.EqAt A s u w (eqDa d e)
 | .v a, .v b, x, y, u, w, A, h1, h2, _, r1, r2, _ => by
  unfold Is at h1 h2
  obtain ⟨rfl, f1⟩ := h1
  obtain ⟨rfl, f2⟩ := h2
  unfold eqDa
  exact eqAt_V r1 r2 f1 f2
 | .t ds, .t es, x, y, u, w, A, h1, h2, a, r1, r2, hu => by
  have h1' := h1
  have h2' := h2
  unfold Is at h1 h2
  obtain ⟨p, xs, rfl, q1, k1⟩ := h1
  obtain ⟨p', ys, rfl, q2, k2⟩ := h2
  cases r1
  cases r2
  by_cases e : p = p'
  ·subst e
   rw [is_same I _ _ _ h1' h2' a]
   exact .same _
  ·refine .of_refs e ?_
   obtain ⟨its, v1, t1, _⟩ := I.tuple q1
   obtain ⟨its2, v2, t2, _⟩ := I.tuple q2
   unfold eqDa
   rw [eqDas_bits, k1.length, k2.length, v1.length, v2.length]
   have z := SeqAt.RcAt.tuples (A := A) (e := bitDa ds es) t1 t2 (by unfold dep at hu; omega) fun j g1 g2 => by
    unfold dep at hu
    unfold alike at a
    exact eqAt_das I ds es xs ys its its2 A.in1 k1 k2 a v1 v2 (by rw [in1_units]; omega) j (by simpa using g1) (by simpa using g2)
   simpa using z
 | .l ds, .l es, x, y, u, w, A, h1, h2, a, r1, r2, hu => by
  have h1' := h1
  have h2' := h2
  unfold Is at h1 h2
  obtain ⟨p, xs, rfl, q1, k1⟩ := h1
  obtain ⟨p', ys, rfl, q2, k2⟩ := h2
  cases r1
  cases r2
  by_cases e : p = p'
  ·subst e
   rw [is_same I _ _ _ h1' h2' a]
   exact .same _
  ·refine .of_refs e ?_
   obtain ⟨its, v1, t1, _⟩ := I.list q1
   obtain ⟨its2, v2, t2, _⟩ := I.list q2
   unfold eqDa
   unfold dep at hu
   unfold alike at a
   by_cases el : its.length = its2.length
   ·rw [eqDas_bits, k1.length, k2.length, v1.length, v2.length]
    have z := SeqAt.RcAt.lists (A := A) (e := bitDa ds es) t1.isList t2.isList (by simpa using el) (by omega) fun j g1 g2 =>
     eqAt_das I ds es xs ys its its2 A.in1 k1 k2 a v1 v2 (by rw [in1_units]; omega) j (by simpa using g1) (by simpa using g2)
    rw [el, Nat.min_self, beq_self_eq_true, Bool.and_true]
    rw [List.size_toArray, el] at z
    exact z
   ·have ne : eqDas ds es = false := by
     rw [eqDas_bits, k1.length, k2.length, v1.length, v2.length, beq_eq_false_iff_ne.mpr el, Bool.and_false]
    rw [ne]
    exact SeqAt.RcAt.lists_lengths t1.isList t2.isList (by simpa using el) (by omega)
 | .v _, .t _, _, _, _, _, _, _, _, a, _, _, _ => by unfold alike at a; cases a
 | .v _, .l _, _, _, _, _, _, _, _, a, _, _, _ => by unfold alike at a; cases a
 | .t _, .v _, _, _, _, _, _, _, _, a, _, _, _ => by unfold alike at a; cases a
 | .t _, .l _, _, _, _, _, _, _, _, a, _, _, _ => by unfold alike at a; cases a
 | .l _, .v _, _, _, _, _, _, _, _, a, _, _, _ => by unfold alike at a; cases a
 | .l _, .t _, _, _, _, _, _, _, _, a, _, _, _ => by unfold alike at a; cases a
theorem eqAt_das (I : Inv X pins σ H s) : ∀ (ds es : List Da) (xs ys : List V) (us ws : List Value) (A : Around), Iss X.K H ds xs → Iss X.K H es ys → alikes ds es = true → Vals xs us → Vals ys ws → A.units + deps ds < cLine →
  ∀ (j : Nat) (h1 : j < us.length) (h2 : j < ws.length), SeqAt.EqAt A s us[j] ws[j] (bitDa ds es j)
 | d :: ds, e :: es, x :: xs, y :: ys, u :: us, w :: ws, A, k1, k2, a, .cons r1 v1, .cons r2 v2, hu, 0, _, _ => by
  unfold Iss at k1 k2
  unfold alikes at a
  rw [Bool.and_eq_true] at a
  unfold deps at hu
  exact eqAt_da I d e x y u w A k1.1 k2.1 a.1 r1 r2 (by omega)
 | d :: ds, e :: es, x :: xs, y :: ys, u :: us, w :: ws, A, k1, k2, a, .cons r1 v1, .cons r2 v2, hu, j + 1, h1, h2 => by
  unfold Iss at k1 k2
  unfold alikes at a
  rw [Bool.and_eq_true] at a
  unfold deps at hu
  exact eqAt_das I ds es xs ys us ws A k1.2 k2.2 a.2 v1 v2 (by omega) j (by simpa using h1) (by simpa using h2)
 | [], _, [], _, _, _, _, _, _, _, .nil, _, _, _, h1, _ => absurd h1 (Nat.not_lt_zero _)
 | _, [], _, [], _, _, _, _, _, _, _, .nil, _, _, _, h2 => absurd h2 (Nat.not_lt_zero _)
 | [], _, _ :: _, _, _, _, _, k1, _, _, _, _, _, _, _, _ => by unfold Iss at k1; exact k1.elim
 | _ :: _, _, [], _, _, _, _, k1, _, _, _, _, _, _, _, _ => by unfold Iss at k1; exact k1.elim
 | _, [], _, _ :: _, _, _, _, _, k2, _, _, _, _, _, _, _ => by unfold Iss at k2; exact k2.elim
 | _, _ :: _, _, [], _, _, _, _, k2, _, _, _, _, _, _, _ => by unfold Iss at k2; exact k2.elim
end
end
section
variable {X : Cx}
def rEqDa (K : Frag) : R2 := fun x y H Q => ∃ ds es, ((Is K H (.t ds) x ∧ Is K H (.t es) y) ∨ (Is K H (.l ds) x ∧ Is K H (.l es) y)) ∧ alikes ds es = true ∧ deps ds ≤ 60 ∧ Q (.bl (eqDas ds es)) H
def rNeDa (K : Frag) : R2 := fun x y H Q => ∃ ds es, ((Is K H (.t ds) x ∧ Is K H (.t es) y) ∨ (Is K H (.l ds) x ∧ Is K H (.l es) y)) ∧ alikes ds es = true ∧ deps ds ≤ 60 ∧ Q (.bl (!eqDas ds es)) H
theorem op_eqDa (hu : X.A.units + 64 < cLine) : OpR X (compareOp .Eq) (rEqDa X.K) := by
 intro pins s σ H x y v u Q I rx ry h
 obtain ⟨ds, es, h, a, hd, q⟩ := h
 rcases h with ⟨h1, h2⟩ | ⟨h1, h2⟩
 ·unfold Is at h1 h2
  obtain ⟨p, xs, rfl, q1, k1⟩ := h1
  obtain ⟨p', ys, rfl, q2, k2⟩ := h2
  cases rx
  cases ry
  obtain ⟨its, v1, t1, _⟩ := I.tuple q1
  obtain ⟨its2, v2, t2, _⟩ := I.tuple q2
  have z := SeqAt.RcAt.tuples (A := X.A) (e := bitDa ds es) t1 t2 (by omega) fun j g1 g2 =>
   eqAt_das I ds es xs ys its its2 X.A.in1 k1 k2 a v1 v2 (by rw [in1_units]; omega) j (by simpa using g1) (by simpa using g2)
  refine z X.prog X.w X.xe _ ⟨.bl _, H, I, rfl, ?_⟩
  have e := eqDas_bits ds es
  rw [k1.length, k2.length, v1.length, v2.length] at e
  simpa [e] using q
 ·unfold Is at h1 h2
  obtain ⟨p, xs, rfl, q1, k1⟩ := h1
  obtain ⟨p', ys, rfl, q2, k2⟩ := h2
  cases rx
  cases ry
  obtain ⟨its, v1, t1, _⟩ := I.list q1
  obtain ⟨its2, v2, t2, _⟩ := I.list q2
  have e := eqDas_bits ds es
  rw [k1.length, k2.length, v1.length, v2.length] at e
  by_cases el : its.length = its2.length
  ·have z := SeqAt.RcAt.lists (A := X.A) (e := bitDa ds es) t1.isList t2.isList (by simpa using el) (by omega) fun j g1 g2 =>
    eqAt_das I ds es xs ys its its2 X.A.in1 k1 k2 a v1 v2 (by rw [in1_units]; omega) j (by simpa using g1) (by simpa using g2)
   refine z X.prog X.w X.xe _ ⟨.bl _, H, I, rfl, ?_⟩
   rw [el, Nat.min_self, beq_self_eq_true, Bool.and_true] at e
   simpa [e, el] using q
  ·have ne : eqDas ds es = false := by rw [e, beq_eq_false_iff_ne.mpr el, Bool.and_false]
   rw [ne] at q
   exact SeqAt.RcAt.lists_lengths t1.isList t2.isList (by simpa using el) (by omega) X.prog X.w X.xe _ ⟨.bl _, H, I, rfl, q⟩
theorem op_neDa (hu : X.A.units + 64 < cLine) : OpR X (compareOp .NotEq) (rNeDa X.K) := by
 intro pins s σ H x y v u Q I rx ry h
 obtain ⟨ds, es, h, a, hd, q⟩ := h
 rcases h with ⟨h1, h2⟩ | ⟨h1, h2⟩
 ·unfold Is at h1 h2
  obtain ⟨p, xs, rfl, q1, k1⟩ := h1
  obtain ⟨p', ys, rfl, q2, k2⟩ := h2
  cases rx
  cases ry
  obtain ⟨its, v1, t1, _⟩ := I.tuple q1
  obtain ⟨its2, v2, t2, _⟩ := I.tuple q2
  have z := SeqAt.RcNeAt.tuples (A := X.A) (e := bitDa ds es) t1 t2 (by omega) fun j g1 g2 =>
   eqAt_das I ds es xs ys its its2 X.A.in1 k1 k2 a v1 v2 (by rw [in1_units]; omega) j (by simpa using g1) (by simpa using g2)
  refine z X.prog X.w X.xe _ ⟨.bl _, H, I, rfl, ?_⟩
  have e := eqDas_bits ds es
  rw [k1.length, k2.length, v1.length, v2.length] at e
  simpa [e] using q
 ·unfold Is at h1 h2
  obtain ⟨p, xs, rfl, q1, k1⟩ := h1
  obtain ⟨p', ys, rfl, q2, k2⟩ := h2
  cases rx
  cases ry
  obtain ⟨its, v1, t1, _⟩ := I.list q1
  obtain ⟨its2, v2, t2, _⟩ := I.list q2
  have e := eqDas_bits ds es
  rw [k1.length, k2.length, v1.length, v2.length] at e
  by_cases el : its.length = its2.length
  ·have z := SeqAt.RcNeAt.lists (A := X.A) (e := bitDa ds es) t1.isList t2.isList (by simpa using el) (by omega) fun j g1 g2 =>
    eqAt_das I ds es xs ys its its2 X.A.in1 k1 k2 a v1 v2 (by rw [in1_units]; omega) j (by simpa using g1) (by simpa using g2)
   refine z X.prog X.w X.xe _ ⟨.bl _, H, I, rfl, ?_⟩
   rw [el, Nat.min_self, beq_self_eq_true, Bool.and_true] at e
   simpa [e, el] using q
  ·have ne : eqDas ds es = false := by rw [e, beq_eq_false_iff_ne.mpr el, Bool.and_false]
   rw [ne] at q
   exact SeqAt.RcNeAt.lists_lengths t1.isList t2.isList (by simpa using el) (by omega) X.prog X.w X.xe _ ⟨.bl _, H, I, rfl, q⟩
def clsV : V → Value
 | .ty n => .type n
 | .ref a => .ref a
 | _ => .none
def isCls : V → Bool
 | .ty _ => true
 | .ref _ => true
 | _ => false
theorem cls_rel {c : V} {u : Value} (h : isCls c = true) (r : RelV c u) : u = clsV c := by
 cases c <;> first | exact r | (cases h; done)
def rIsi (K : Frag) : List V → Hp → VK → Prop := fun xs H Q => ∃ x c t b, xs = [x, c] ∧ isCls c = true ∧ TyOf K H x t ∧ PySem.W.kitOne K t (clsV c) = some b ∧ Q (.bl b) H
theorem call_isi : CallR X (.builtin "isinstance") (rIsi X.K) := by
 intro pins s σ H xs us Q I r h
 obtain ⟨x, c, t, b, rfl, hc, ty, e, q⟩ := h
 obtain ⟨u, w, rfl, r1, r2⟩ := vals2 r
 obtain rfl := cls_rel hc r2
 exact isinst_ok I r1 ty e fun tk => ⟨.bl b, H, I.tok tk, rfl, q⟩
end
section
variable {K : Frag}
theorem kind_sub {a b : String} {v : Bool} (h : ((Value.type a == Value.type b) = true → v = true) ∧ ((Value.type a == Value.type b) = false → PySem.W.kitMeta b = true ∧ (fastBuiltinMro a).map (·.contains (Value.type b)) = some v)) : PySem.W.kitOne K (.type a) (.type b) = some v := by
 unfold PySem.W.kitOne
 by_cases e : (Value.type a == Value.type b) = true
 ·rw [if_pos e, h.1 e]
 ·rw [if_neg e]
  obtain ⟨h1, h2⟩ := h.2 (by simpa using e)
  unfold PySem.W.kitCls
  dsimp only
  rw [if_pos h1]
  exact h2
end
theorem b_len : bootBuiltins "len" = some (.builtin "len") := by decide +kernel
theorem b_abs : bootBuiltins "abs" = some (.builtin "abs") := by decide +kernel
theorem b_isinstance : bootBuiltins "isinstance" = some (.builtin "isinstance") := by decide +kernel
theorem b_all : bootBuiltins "all" = some (.builtin "all") := by decide +kernel
theorem b_int : bootBuiltins "int" = some (.type "int") := by decide +kernel
theorem b_bool : bootBuiltins "bool" = some (.type "bool") := by decide +kernel
theorem b_str : bootBuiltins "str" = some (.type "str") := by decide +kernel
theorem b_list : bootBuiltins "list" = some (.type "list") := by decide +kernel
theorem pe_ty {X : Cx} {x : Str} {n : String} {pos : Pos} (hg : Gl X x) (hm : X.mg x = none) (hv : bootBuiltins x = some (.type n)) (hn : x ≠ "__name__" := by decide) (hd : (x == ("__debug__" : Str)) = false := by decide) : PE X (.Name x pos) (tC (.ty n)) := pe_bltn (v := .ty n) hg hm hv rfl hn hd
def CMod (_ j : Int) : Prop := j ≠ 0
theorem nz {i j : Int} (h : j ≠ 0) : CMod i j := h
theorem op_modB {X : Cx} : OpR X (binaryOp .Mod) (rI CMod fun i j => .int (i.fmod j)) := op_modN
end Ty
set_option maxHeartbeats 4000000
namespace TyAtt
open PySem PySem.W PySem.Calls PyProof.Rows
open Builtin.Int (intBits)
theorem bits_item {ns : List Int} {n : Int} (h : (WData.list (ns.map WData.int)).layable = true) (hn : n ∈ ns) : intBits n ≤ 1048576 := by
 obtain ⟨_, _, hw⟩ := layableW_iff.mp h
 have a : ∀ (l : List Int), n ∈ l → intBits n ≤ WData.weightAll (l.map WData.int) := by
  intro l
  induction l with
  | nil => intro q; cases q
  | cons y r ih =>
   intro q
   rw [List.map_cons]
   unfold WData.weightAll
   rcases List.mem_cons.mp q with z | z
   ·subst z
    have : intBits n ≤ WData.weight (.int n) := by
     unfold WData.weight
     exact Nat.le_refl _
    omega
   ·have := ih z
    omega
 have b := a ns hn
 unfold WData.weight at hw
 omega
theorem attach_bits {l : OpenLaw} {n : Nat} {q : Program} {loose : List Str} {XP : (Str → Option Value) → Heap → Prop} {YP : World → Heap → Prop} {d : DefRec}
  (hn : l.most = some n) (hdf : d.params.defaults = [])
  (call : ∀ (w : World) (s₀ s₁ : Shared) (mg mb : Str → Option Value) (fa : Addr) (o : Obj) (pm cd doc : Value) (a : Addr) (vs : List Value) (ns : List Int),
   Ground q loose [] XP w s₀ mg mb s₁.heap → YP w s₁.heap →
   s₁.heap.get? fa = some o → o.data = .func (docDef d.name d.params d.body d.scope pm cd doc) → s₁.heap.CodeRec cd d.name → mg d.name = some (.ref fa) →
   s₁.heap.get? a = some { cls := .type "list", data := .seq vs.toArray } → IntsAre vs ns → ns.length ≤ n → (∀ i ∈ ns, intBits i ≤ 1048576) → s₁.gens = #[] →
   codeAny (model l.prog w) callerA (.call (.ref fa) ⟨[.ref a], []⟩) (fun r s' => r = .ok (.ret (.bool true)) ∧ OldK s₁.heap s'.heap ∧ s'.os = s₁.os ∧ AllBare s'.gens) s₁) :
  WalkO q loose XP YP l.row.toRowW d [] (fun f vs => PySem.call f vs) := by
 intro w s₀ s₁ mg mb G Y fa o pm cd doc dV kV ho hd hcd hD hmg hg args vals as hpre hlay hrd hwl hlo
 obtain rfl : dV = .none := Dflts.none hD hdf
 obtain rfl : kV = .none := Dflts.noKw hD
 obtain ⟨a, vs, ns, rfl, rfl, hobj, hints, hlen⟩ := Att.script_of hn hpre hwl
 have hb : ∀ i ∈ ns, intBits i ≤ 1048576 := fun i hi => bits_item (layW_cons hlay).1 hi
 refine enter_call (codeAny_mono (call w s₀ s₁ mg mb fa o pm cd doc a vs ns G Y ho (fd_plain hd) hcd hmg hobj hints hlen hb hg) fun r s' hq => ?_)
 obtain ⟨rfl, h2, h3, h4⟩ := hq
 exact ⟨.inl ⟨.bool true, .bool true, [], rfl, fun _ => rfl, .bool true, Att.post_true l _, fun _ => ⟨List.Pairwise.nil, fun _ hm => (nomatch hm)⟩⟩, h2, h3, h4⟩
end TyAtt
namespace Ty
open PySem PySem.Spec PyProof.Rows L2
open Builtin.Int (intBits)
structure Fn (P : Program) (w : World) (K : Frag) (mg : Str → Option Value) (base : Heap) (CX : CXT) (k : Nat) (x : Str) (ps : List Str) (sp : Sp) : Prop where
 ex : ∃ (f : Addr) (fd : FuncData), FnOk P w K mg base CX k f fd ps sp ∧ Binds K fd ps [] ∧ mg x = some (.ref f) ∧ keepIn K (.ref f) = true
structure Def (K : Frag) (mg : Str → Option Value) (x : Str) (st : Stmt) (ps : List Str) : Prop where
 ex : ∃ (f : Addr) (dV oc : Value) (od : Option Addr) (kV doc pm : Value) (an : Option Addr) (cdv ct : Value) (osl : Array (Option Value)),
  K.lookup f = some ⟨oc, od, .func (fnOf x x (defArgs st) (defBody st) (defScope st) dV kV doc pm an cdv ct), osl⟩ ∧ codeIn K cdv x = true ∧ keepIn K (.ref f) = true ∧
  Binds K (fnOf x x (defArgs st) (defBody st) (defScope st) dV kV doc pm an cdv ct) ps [] ∧ mg x = some (.ref f)
theorem Def.of {K : Frag} {mg : Str → Option Value} {x : Str} {st : Stmt} {ps : List Str} {f : Addr} {fd : FuncData} (F : Fun K x x st f fd) (b : Binds K fd ps []) (m : mg x = some (.ref f)) : Def K mg x st ps := by
 obtain ⟨oc, od, kV, doc, pm, an, cdv, ct, osl, rfl, lk, hcd⟩ := F.ex
 exact ⟨f, .none, oc, od, kV, doc, pm, an, cdv, ct, osl, lk, hcd, F.kp, b, m⟩
structure DefD (K : Frag) (mg : Str → Option Value) (x : Str) (st : Stmt) (ps : List Str) (ds : List Value) : Prop where
 ex : ∃ (f : Addr) (dV oc : Value) (od : Option Addr) (kV doc pm : Value) (an : Option Addr) (cdv ct : Value) (osl : Array (Option Value)),
  K.lookup f = some ⟨oc, od, .func (fnOf x x (defArgs st) (defBody st) (defScope st) dV kV doc pm an cdv ct), osl⟩ ∧ codeIn K cdv x = true ∧ keepIn K (.ref f) = true ∧
  Binds K (fnOf x x (defArgs st) (defBody st) (defScope st) dV kV doc pm an cdv ct) ps [] ∧ Binds K (fnOf x x (defArgs st) (defBody st) (defScope st) dV kV doc pm an cdv ct) ps ds ∧ mg x = some (.ref f)
section
variable {P : Program} {w : World} {K : Frag} {mg : Str → Option Value} {base : Heap} {CX : CXT}
theorem Def.ok {x : Str} {st : Stmt} {N ps : List Str} {k : Nat} {sp : Sp} (D : Def K mg x st ps) (S : FnScope N ps (defScope st)) (len : ∀ vs H Q E, sp vs H Q E → vs.length = ps.length)
  (hbody : ∀ (f : Addr) (cdv : Value) (A : Around) (outer : List Env) (s : Shared) (H : Hp) (vs : List V) (Q : VK) (E : XK), Room k (A.deeper (envOfC x (defScope st) s.heap.objs.size f cdv)) → sp vs H Q E →
   ∃ t, PSs (cxOf CX P w K mg base N x (defScope st) f cdv A outer s H E).nox (defBody st) t ∧ t { nx := fun _ H' => Q .non H', rt := Q } (start N vs) H) : Fn P w K mg base CX (k + 1) x ps sp := by
 obtain ⟨f, dV, oc, od, kV, doc, pm, an, cdv, ct, osl, lk, hcd, kp, b, m⟩ := D.ex
 refine ⟨f, _, fn_of lk hcd S len fun A outer s H vs Q E hr hsp => ?_, b, m, kp⟩
 obtain ⟨t, h, q⟩ := hbody f cdv A outer s H vs Q E hr hsp
 exact ⟨t, h.nox, q⟩
theorem _root_.L2.Fun.okG {x : Str} {st : Stmt} {f : Addr} {fd : FuncData} {N ps : List Str} {k : Nat} {sp : Sp} (F : Fun K x x st f fd) (S : FnScope N ps (defScope st)) (len : ∀ vs H Q E, sp vs H Q E → vs.length = ps.length)
  (hbody : ∀ (cdv : Value) (A : Around) (outer : List Env) (s : Shared) (H : Hp) (vs : List V) (Q : VK) (E : XK), Room k (A.deeper (envOfC x (defScope st) s.heap.objs.size f cdv)) → sp vs H Q E →
   ∃ t, PSs (cxOf CX P w K mg base N x (defScope st) f cdv A outer s H E).nox (defBody st) t ∧ t { nx := fun _ H' => Q .non H', rt := Q } (start N vs) H) : FnOk P w K mg base CX (k + 1) f fd ps sp := by
 obtain ⟨oc, od, kV, doc, pm, an, cdv, ct, osl, rfl, lk, hcd⟩ := F.ex
 refine fn_of lk hcd S len fun A outer s H vs Q E hr hsp => ?_
 obtain ⟨t, h, q⟩ := hbody cdv A outer s H vs Q E hr hsp
 exact ⟨t, h.nox, q⟩
def Mute (CX : CXT) : Prop := ∀ outer H s e s', CX outer H s E0 e s' → False
theorem passM {X : Cx} (h : Mute CX) : Passes CX X.nox E0 := fun _ _ _ _ _ _ _ q => (h _ _ _ _ _ q).elim
section
variable {X : Cx} {k : Nat} {ps : List Str} {sp : Sp} {E : XK} {x : Str} {p pos : Pos} {e : Expr} {es : List Expr} {t : TA}
theorem pe_fn (F : Fn X.prog X.w X.K X.mg X.base CX k x ps sp) (hr : Room k X.A) (hx : Passes CX X E) (ha : PA X (e :: es) t) (hg : Gl X x := by rfl) (hdb : (x == ("__debug__" : Str)) = false := by decide)
  (he : starEach (e :: es) X.env = (false, eval e X.env) :: starEach es X.env := by rfl) (hpl : (backTo pos (starEach es X.env)).any (·.1) = false := by rfl) : PE X (.Call (.Name x p) (e :: es) [] pos) (tCall sp [] E t) := by
 obtain ⟨f, fd, G, b, m, kp⟩ := F.ex
 exact pe_call G hr hg m kp b .nil hx ha hdb he hpl
structure FnD (P : Program) (w : World) (K : Frag) (mg : Str → Option Value) (base : Heap) (CX : CXT) (k : Nat) (x : Str) (ps : List Str) (ds : List Value) (sp : Sp) : Prop where
 ex : ∃ (f : Addr) (fd : FuncData), FnOk P w K mg base CX k f fd ps sp ∧ Binds K fd ps ds ∧ mg x = some (.ref f) ∧ keepIn K (.ref f) = true
end
end
def spLaw (K : Frag) : Sp := fun vs H Q _ => ∃ (a : Addr) (ns : List Int), vs = [.ref a] ∧ SqL K H a (ns.map V.int) ∧ ns.length ≤ 63 ∧ (∀ i ∈ ns, intBits i ≤ 1048576) ∧ ∀ H', Q (.bl true) H'
theorem walk {l : PySem.W.OpenLaw} {q : Program} {loose : List Str} {XP : (Str → Option Value) → Heap → Prop} {YP : World → Heap → Prop} {d : DefRec} {K : Params → Frag} {CX : World → CXT} {x : Str} {k : Nat}
  (hn : l.most = some 63) (hdf : d.params.defaults = []) (hi : importsNone q = true) (hr : Room k callerA)
  (hY : ∀ (w : World) (h : Heap), YP w h → (K w.params).In h) (hm : ∀ w, Mute (CX w))
  (F : ∀ (w : World) (mg : Str → Option Value) (fa : Addr) (h : Heap), (K w.params).In h → h.Ns mainGlobals mg → mg d.name = some (.ref fa) →
   ∃ fd : FuncData, (∀ (s : Shared) (u : Value), BindsTo s fd ⟨[u], []⟩ [(x, u)]) ∧
    ∀ base : Heap, (K w.params).In base → base.Ns mainGlobals mg → FnOk l.prog w (K w.params) mg base (CX w) k fa fd [x] (spLaw (K w.params))) :
  PySem.W.WalkO q loose XP YP l.row.toRowW d [] (fun f vs => PySem.call f vs) := by
 refine TyAtt.attach_bits hn hdf fun w s₀ s₁ mg mb fa o pm cd doc a vs ns G Y ho hd hcd hmg hobj hints hlen hb hg => ?_
 have KX := hY w _ Y
 obtain ⟨fd, hbd, hF⟩ := F w mg fa _ KX G.T.g hmg
 exact law_call KX G.T.g G.T.b G.T.builtins G.T.nolimit (G.T.seer hi) hg hobj hints (Nat.le_trans hlen (by decide)) hr hF hbd (fun H hO hS => ⟨a, ns, rfl, hS, hlen, hb, fun _ => rfl⟩) fun H e s' => hm w [] H s₁ e s'
end Ty
set_option maxHeartbeats 4000000
namespace Ty
open PySem PySem.Spec PyProof.Rows
def KD (h h' : Heap) : Prop := ∀ b o, h.get? b = some o → ∃ o', h'.get? b = some o' ∧ o'.dict = o.dict
theorem KD.refl {h : Heap} : KD h h := fun b o e => ⟨o, e, rfl⟩
theorem KD.trans {h1 h2 h3 : Heap} (a : KD h1 h2) (b : KD h2 h3) : KD h1 h3 := fun c o e => by
 obtain ⟨o1, e1, d1⟩ := a c o e
 obtain ⟨o2, e2, d2⟩ := b c o1 e1
 exact ⟨o2, e2, d2.trans d1⟩
theorem KD.keeps {h h' : Heap} (k : ∀ b o, h.get? b = some o → h'.get? b = some o) : KD h h' := fun b o e => ⟨o, k b o e, rfl⟩
theorem not_freed {h : Heap} {a : Addr} {o : Obj} (e : h.get? a = some o) : o.isFreed = false := by
 unfold Heap.get? at e
 split at e
 ·cases e
 ·rename_i o' hn
  unfold Obj.isFreed
  split
  ·rename_i c d sl
   exact absurd e (hn c d sl)
  ·rfl
theorem KD.update {h : Heap} {a : Addr} {f : Obj → Obj} (hf : ∀ o, (f o).dict = o.dict ∧ (f o).isFreed = o.isFreed) : KD h (h.update a f) := fun b o e => by
 by_cases c : b = a
 ·subst c
  exact ⟨f o, Heap.get?_update_self f e ((hf o).2.trans (not_freed e)), (hf o).1⟩
 ·exact ⟨o, (Heap.get?_update_other h f (fun z => c z.symm)).trans e, rfl⟩
def Kp {α : Type} : Sem α → Prop
 | .pure _ => True
 | .raise _ => True
 | .unsupported _ => True
 | .finish _ => True
 | .rule _ k => Kp (k ())
 | .at _ k => Kp (k ())
 | .load _ _ k => ∀ o, Kp (k o)
 | .update _ _ f k => (∀ o, (f o).dict = o.dict ∧ (f o).isFreed = o.isFreed) ∧ Kp (k ())
 | .alloc _ k => ∀ a, Kp (k a)
 | .loadIfAlive _ k => ∀ o, Kp (k o)
 | .point _ k => Kp (k ())
 | .fresh k => ∀ t, Kp (k t)
 | .ask k => ∀ t, Kp (k t)
 | .handled _ k => ∀ t, Kp (k t)
 | .stack k => ∀ t, Kp (k t)
 | .thread k => ∀ t, Kp (k t)
 | _ => False
theorem Kp.bind {α β : Type} : ∀ {m : Sem α} {f : α → Sem β}, Kp m → (∀ a, Kp (f a)) → Kp (m.bind f) := by
 intro m f
 induction m with
 | pure a => exact fun _ h => h a
 | raise e => exact fun _ _ => trivial
 | unsupported w => exact fun _ _ => trivial
 | finish e => exact fun _ _ => trivial
 | rule t k ih => exact fun h hf => ih () h hf
 | «at» p k ih => exact fun h hf => ih () h hf
 | load a p k ih => exact fun h hf o => ih o (h o) hf
 | update a p g k ih => exact fun h hf => ⟨h.1, ih () h.2 hf⟩
 | alloc o k ih => exact fun h hf a => ih a (h a) hf
 | loadIfAlive a k ih => exact fun h hf o => ih o (h o) hf
 | point l k ih => exact fun h hf => ih () h hf
 | fresh k ih => exact fun h hf o => ih o (h o) hf
 | ask k ih => exact fun h hf o => ih o (h o) hf
 | handled o k ih => exact fun h hf o => ih o (h o) hf
 | stack k ih => exact fun h hf o => ih o (h o) hf
 | thread k ih => exact fun h hf o => ih o (h o) hf
 | _ => exact fun h => h.elim
theorem Kp.wp {α : Type} {M : Model} {Γ : PySem.Ctx} : ∀ {t : Sem α} {P : α → Pos → Shared → Prop} {E : Value → Pos → Shared → Prop} {p : Pos} {s : Shared} {h0 : Heap}, Kp t → KD h0 s.heap → Sem.wp M Γ t P E p s → Sem.wp M Γ t (fun a p' s' => P a p' s' ∧ KD h0 s'.heap) E p s := by
 intro t
 induction t with
 | pure a => exact fun _ kd h => ⟨h, kd⟩
 | raise e => exact fun _ _ h => h
 | unsupported w => exact fun _ _ h => h
 | finish e => exact fun _ _ h => h
 | rule t k ih => exact fun hk kd h => ih () hk kd h
 | «at» p k ih => exact fun hk kd h => ih () hk kd h
 | load a p k ih => exact fun hk kd h => by obtain ⟨o, e, h⟩ := h; exact ⟨o, e, ih o (hk o) kd h⟩
 | update a p g k ih => exact fun hk kd h => ⟨h.1, ih () hk.2 (kd.trans (KD.update hk.1)) h.2⟩
 | alloc o k ih => exact fun hk kd h => ih _ (hk _) (kd.trans (KD.keeps fun b o e => Heap.get?_push_of_some _ e)) h
 | loadIfAlive a k ih => exact fun hk kd h => ih _ (hk _) kd h
 | point l k ih => exact fun hk kd h => ih () hk kd h
 | fresh k ih => exact fun hk kd h => ih _ (hk _) kd h
 | ask k ih => exact fun hk kd h => ih _ (hk _) kd h
 | handled o k ih => exact fun hk kd h => ih _ (hk _) kd h
 | stack k ih => exact fun hk kd h => ih _ (hk _) kd h
 | thread k ih => exact fun hk kd h => ih _ (hk _) kd h
 | _ => exact fun hk => hk.elim
theorem Kp.any {α : Type} {M : Model} {A : Around} {t : Sem α} {Q : α → Shared → Prop} {E : Value → Shared → Prop} {s : Shared} (k : Kp t) (h : wpAny M A t Q E s) : wpAny M A t (fun a s' => Q a s' ∧ KD s.heap s'.heap) E s :=
 fun Γ p hΓ => Kp.wp k KD.refl (h Γ p hΓ)
theorem kp_pure {α : Type} {a : α} : Kp (pure a : Sem α) := trivial
theorem kp_un {α : Type} {w : String} : Kp (unsupported w : Sem α) := trivial
theorem kp_bind {α β : Type} {m : Sem α} {f : α → Sem β} (h : Kp m) (hf : ∀ a, Kp (f a)) : Kp (m >>= f) := Kp.bind h hf
theorem kp_ite {α : Type} {c : Prop} [Decidable c] {a b : Sem α} (h1 : Kp a) (h2 : Kp b) : Kp (if c then a else b) := by
 split
 ·exact h1
 ·exact h2
theorem kp_load {a : Addr} : Kp (load a) := fun _ => trivial
theorem kp_stack : Kp stack := fun _ => trivial
theorem kp_setField {e x : Value} {i : Nat} : Kp (setField e i x) := by
 unfold setField
 split
 ·unfold updateField
  refine kp_bind kp_load fun o => ?_
  split
  ·refine kp_ite ⟨fun o => ?_, trivial⟩ kp_un
   unfold Obj.mapFields
   split <;> exact ⟨rfl, rfl⟩
  ·exact kp_un
 ·exact kp_un
theorem kp_field {e : Value} {i : Nat} : Kp (field e i) := by
 unfold field
 refine kp_bind ?_ fun vs => ?_
 ·unfold fieldsOf
  split
  ·refine kp_bind kp_load fun o => ?_
   split
   ·exact kp_pure
   ·exact kp_un
  ·exact kp_un
 ·split
  ·exact kp_pure
  ·exact kp_un
theorem kp_setFlight {e : Value} {f : Option Addr} : Kp (setFlight e f) := by
 unfold setFlight
 exact kp_bind kp_field fun tb => kp_ite kp_setField kp_pure
theorem kp_behind {env : Env} {outer : List Env} : Kp (behindIsImport env outer) := by
 unfold behindIsImport
 exact kp_ite kp_pure (kp_ite kp_pure (kp_bind kp_field fun _ => kp_pure))
theorem kp_keptBack {env : Env} {b : Bool} {outer : List Env} : Kp (keptBack env b outer) := by
 unfold keptBack
 split
 ·refine kp_ite kp_pure (kp_bind ?_ fun _ => kp_pure)
  unfold underTheClaimsCaller
  exact kp_bind kp_stack fun _ => kp_pure
 ·exact kp_pure
theorem kp_readyFrames : ∀ l : List Env, Kp (readyFrames l)
 | [] => trivial
 | env :: outer => by
  rw [readyFrames.eq_2]
  split
  ·refine kp_bind kp_load fun o => kp_ite kp_pure (kp_bind kp_behind fun _ => kp_bind kp_keptBack fun _ => kp_bind ⟨fun o => ⟨rfl, ?_⟩, trivial⟩ fun _ => kp_readyFrames outer)
   obtain ⟨c, d, dt, sl⟩ := o
   cases dt <;> rfl
  ·exact kp_un
theorem kp_frameOf {env : Env} : Kp (PySem.frameOf env) := by
 unfold PySem.frameOf
 refine kp_bind ?_ fun l => kp_bind ?_ fun o => ?_
 ·unfold frameEnvs
  exact kp_bind kp_stack fun _ => kp_pure
 ·unfold frameObject
  split
  ·exact kp_pure
  ·exact kp_bind (kp_readyFrames _) fun _ => kp_pure
 ·split
  ·exact kp_pure
  ·exact kp_un
theorem kp_entryPlaceOf {f : Addr} {b : Bool} : Kp (entryPlaceOf f b) := by
 unfold entryPlaceOf
 refine kp_bind kp_stack fun a => ?_
 dsimp only
 split <;> exact kp_pure
theorem kp_newEntry {a b c d e : Value} {l : List Value} : Kp (EntryCells.newEntry a b c d e l) := by
 unfold EntryCells.newEntry newFields newObj
 dsimp only
 refine kp_ite (kp_bind kp_un fun _ => ?_) ?_
 ·exact fun _ => trivial
 ·exact fun _ => trivial
theorem kp_noteFrame {e : Value} {env : Env} : Kp (noteFrame e env) := by
 unfold noteFrame
 split
 ·refine kp_bind kp_field fun head => kp_ite (kp_bind kp_field fun x => kp_ite kp_pure (kp_bind kp_setField fun _ => ?_)) ?_
  ·exact kp_bind kp_frameOf fun _ => kp_bind kp_entryPlaceOf fun _ => kp_bind kp_newEntry fun _ => kp_setField
  ·exact kp_bind kp_frameOf fun _ => kp_bind kp_entryPlaceOf fun _ => kp_bind kp_newEntry fun _ => kp_setField
 ·exact kp_un
theorem kp_leaving {e : Value} {env : Env} : Kp (leaving env e) := by
 unfold leaving
 exact kp_bind kp_noteFrame fun _ => kp_setFlight
end Ty
set_option maxHeartbeats 4000000
namespace Ty
open PySem PySem.Spec PyProof.Rows L2
theorem Un.shrink {fs fs' ex : List Addr} {H H' : Hp} {h h' : Heap} (u : Un fs' ex H H' h h') (hs : ∀ b o, h.get? b = some o → b ∈ fs' → b ∈ fs) : Un fs ex H H' h h' :=
 ⟨fun b o e n hb hx => u.keep b o e n (fun z => hb (hs b o e z)) hx, fun b o e n hb hx => u.any e n hx, u.free, u.there, u.tups, u.frzs, u.tbls⟩
theorem un_land {l : List Env} {H H' : Hp} {h h1 h2 B : Heap} (u : Un (frs l) [] H H' h h1) (s1 : B.StaysIn h1) (s2 : B.StaysIn h2) (th : ∀ b o, h.get? b = some o → b ∉ frs l → ∃ o', B.get? b = some o')
  (ff : h1.FunFrames B l) (up : h1.UpToSlots h2) : Un (frs l) [] H H' h h2 := by
 have inB : ∀ b o, h.get? b = some o → H b = none → b ∉ frs l → B.get? b = some o := fun b o e n hb => by
  obtain ⟨o', eB⟩ := th b o e hb
  have z := u.keep b o e n hb (by simp)
  rw [s1 b o' eB] at z
  cases z
  exact eB
 refine ⟨fun b o e n hb _ => s2 b o (inB b o e n hb), fun b o e n hb _ => ?_, fun b o e n _ => u.free b o e n (by simp), fun b o e _ => ?_, u.tups, u.frzs, u.tbls⟩
 ·obtain ⟨sl, e1⟩ := u.any e n (by simp)
  obtain ⟨_, o', e2, nf⟩ := ff.mem hb
  rw [e1] at e2
  cases e2
  obtain ⟨sl', e3⟩ := up b _ e1 nf
  exact ⟨sl', e3⟩
 ·by_cases hb : b ∈ frs l
  ·obtain ⟨_, o', e2, nf⟩ := ff.mem hb
   obtain ⟨sl', e3⟩ := up b _ e2 nf
   exact ⟨_, e3⟩
  ·obtain ⟨o', eB⟩ := th b o e hb
   exact ⟨o', s2 b o' eB⟩
theorem hok_land {P : Program} {w : World} {H' : Hp} {h1 h2 B : Heap} (ok : HOk P w H' h1) (s1 : B.StaysIn h1) (s2 : B.StaysIn h2) (tr : ∀ b u, H' b = some u → ∃ o, B.get? b = some o) : HOk P w H' h2 := fun b u e =>
 (ok b u e).stay (fun c v hc q => by
  obtain ⟨o, eB⟩ : ∃ o, B.get? c = some o := by
   rcases hc with z | z
   ·rw [z]
    exact tr b u e
   ·exact tr c _ z
  rw [s1 c o eB] at q
  cases q
  exact s2 c _ eB) (fun _ q => q) fun _ _ q => q
theorem obj_some {P : Program} {w : World} {H : Hp} {h : Heap} {a : Addr} {o : HO} (x : ObjOk P w H h a o) : ∃ ob, h.get? a = some ob := by
 cases o with
 | lst xs => obtain ⟨_, _, _, _, e⟩ := x; exact ⟨_, e⟩
 | tup xs => obtain ⟨_, _, _, ob, e, _⟩ := x; exact ⟨ob, e⟩
 | dK kvs => obtain ⟨_, _, _, _, ob, _, _, e, _⟩ := x; exact ⟨ob, e⟩
 | dT kvs => obtain ⟨_, _, _, _, ob, _, _, e, _⟩ := x; exact ⟨ob, e⟩
 | set S n => obtain ⟨ob, _, _, _, e, _⟩ := x; exact ⟨ob, e⟩
 | ins C dx fs => obtain ⟨_, _, _, e, _⟩ := x; exact ⟨_, e⟩
 | own y => exact (show ∃ o, h.get? a = some o from x)
 | xd fs => obtain ⟨_, ⟨od, _, _, e, _⟩, _⟩ := x; exact ⟨od, e⟩
 | rng lo hi => obtain ⟨_, _, _, e⟩ := x; exact ⟨_, e⟩
 | frz ob u => exact ⟨ob, x.1⟩
 | tbl ps => exact ⟨_, x⟩
 | met f y => exact ⟨_, x⟩
 | ext φ => exact x.2.1
def DictAt (h : Heap) (a : Addr) (dx : Option Addr) : Prop := ∃ o, h.get? a = some o ∧ o.dict = dx
theorem DictAt.kd {h h' : Heap} {a : Addr} {dx : Option Addr} (d : DictAt h a dx) (k : KD h h') : DictAt h' a dx := by
 obtain ⟨o, e, d⟩ := d
 obtain ⟨o', e', d'⟩ := k a o e
 exact ⟨o', e', d'.trans d⟩
def CXr (P : Program) (w : World) : CXT := fun outer H s E e s' => ∃ (a : Addr) (cls a0 : Value) (dx : Option Addr) (H' : Hp) (B : Heap),
 e = .ref a ∧ Heap.FlyingW B outer a cls a0 s'.heap ∧ DictAt s'.heap a dx ∧ Un (frs outer) [] H H' s.heap s'.heap ∧ HOk P w H' s'.heap ∧ s'.os = s.os ∧ AllBare s'.gens ∧
 (∀ b o, s.heap.get? b = some o → b ∉ frs outer → ∃ o', B.get? b = some o') ∧ (∀ b u, H' b = some u → ∃ o, B.get? b = some o) ∧ E cls dx H'
theorem CXr.mute {P : Program} {w : World} : Mute (CXr P w) := fun _ _ _ _ _ ⟨_, _, _, _, _, _, _, _, _, _, _, _, _, _, _, z⟩ => z
section
variable {P : Program} {w : World} {K : Frag} {mg : Str → Option Value} {base : Heap} {N : List Str} {qual : Str} {scope : Scope} {f : Addr} {cdv : Value} {A : Around} {outer : List Env} {s0 : Shared} {H0 : Hp} {E : XK}
abbrev cxr (P : Program) (w : World) (K : Frag) (mg : Str → Option Value) (base : Heap) (N : List Str) (qual : Str) (scope : Scope) (f : Addr) (cdv : Value) (A : Around) (outer : List Env) (s0 : Shared) (H0 : Hp) (E : XK) : Cx := cxOf (CXr P w) P w K mg base N qual scope f cdv A outer s0 H0 E
theorem out_of {pins : List (Addr × Obj)} {σ : L2.St} {H H' : Hp} {s s' : Shared} {a : Addr} {cls a0 : Value} {dx : Option Addr} {B h2 : Heap} (I : Inv (cxr P w K mg base N qual scope f cdv A outer s0 H0 E) pins σ H s)
  (fl : Heap.FlyingW B outer a cls a0 h2) (da : DictAt h2 a dx) (ff : s'.heap.FunFrames B (cxr P w K mg base N qual scope f cdv A outer s0 H0 E).stack) (st : B.StaysIn s'.heap)
  (un : Un (frs (cxr P w K mg base N qual scope f cdv A outer s0 H0 E).stack) [] H H' s.heap s'.heap) (ok : HOk P w H' s'.heap) (os : s'.os = s.os) (bare : AllBare s'.gens)
  (th : ∀ b o, s.heap.get? b = some o → b ∉ frs (cxr P w K mg base N qual scope f cdv A outer s0 H0 E).stack → ∃ o', B.get? b = some o') (tr : ∀ b u, H' b = some u → ∃ o, B.get? b = some o) (up : s'.heap.UpToSlots h2) (hE : E cls dx H') :
  CXr P w outer H0 s0 E (.ref a) { s' with heap := h2 } := by
 have sh : ∀ b o, s0.heap.get? b = some o → b ∈ frs (cxr P w K mg base N qual scope f cdv A outer s0 H0 E).stack → b ∈ frs outer := fun b o e hb => by
  rcases List.mem_cons.mp (I.stkSub b hb) with z | z
  ·subst z
   exact absurd (Nat.lt_of_lt_of_le (Heap.lt_size e) I.ok.above) (Nat.lt_irrefl _)
  ·exact z
 have un2 := un_land un st fl.1 th ff up
 have ub : Un (frs (cxr P w K mg base N qual scope f cdv A outer s0 H0 E).stack) [] H0 H s0.heap s.heap := I.base.mono (fun b hb => by
  obtain ⟨env, he, hf⟩ := List.mem_filterMap.mp hb
  exact List.mem_filterMap.mpr ⟨env, List.mem_cons_of_mem _ he, hf⟩) fun _ z => z
 refine ⟨a, cls, a0, dx, H', B, rfl, fl, da, Un.shrink (ub.trans un2) sh, hok_land ok st fl.1 tr, os.trans I.os, bare, fun b o e hb => ?_, tr, hE⟩
 obtain ⟨o', e'⟩ := I.base.there b o e (fun z => (nomatch (show b ∈ ([] : List Addr) from z)))
 exact th b o' e' fun z => hb (sh b o e z)
theorem pass_up : Passes (CXr P w) (cxr P w K mg base N qual scope f cdv A outer s0 H0 E) E := fun pins σ H s e s' I q => by
 obtain ⟨a, cls, a0, dx, H', B, rfl, fl, da, un, ok, os, bare, th, tr, hE⟩ := q
 show wpAny (model P w) (A.deeper (envOfC qual scope s0.heap.objs.size f cdv)) (leaving (envOfC qual scope s0.heap.objs.size f cdv) (.ref a)) _ _ s'
 refine wpAny_mono (Kp.any kp_leaving (wpAny_leaves_onW (outer := outer) (Q := fun _ s2 => ∃ h2, s2 = { s' with heap := h2 } ∧ B.FlyingW outer a cls a0 h2 ∧ s'.heap.UpToSlots h2) (E := fun _ _ => False) I.ok.frames rfl fl fun h2 fl2 up => ⟨h2, rfl, fl2, up⟩)) (fun _ s2 z => ?_) fun _ _ z => z.elim
 obtain ⟨⟨h2, rfl, fl2, up⟩, kd⟩ := z
 exact out_of I fl2 (da.kd kd) fl.2.2.1 fl.1 un ok os bare th tr up hE
theorem exc_obj {h : Heap} {C : Addr} {bmB : List Value} {newId : String} (X : K.In h) (q : PySem.W.excIn K C bmB newId = true) :
  ∃ bm N nm q bs hdct sn sub ab col dd k0 k1 k2 k3 k5 mN, h.get? C = some (excClassObj nm q C N bs bm hdct sn sub ab col dd k0 k1 k2 k3 k5 newId) ∧ h.Ns N mN ∧ mN "__init__" = none ∧ OwnTail h bmB bm := by
 unfold PySem.W.excIn at q
 split at q
 ·rename_i dd cd sl ho
  split at q
  ·rename_i C' bm k0 k1 k2 k3 n k5 hm hs
   simp only [Bool.and_eq_true, beq_iff_eq, Bool.not_eq_true'] at q
   obtain ⟨⟨⟨⟨⟨rfl, rfl⟩, hdel⟩, ht⟩, hok⟩, hni⟩ := q
   obtain ⟨nm, bs, mro, ns, qn, hd, sn, sub, ab, col, del⟩ := cd
   dsimp only at hm hdel hok hni
   subst hm hdel
   have hsl : sl = #[k0, k1, k2, k3, some (.builtin n), k5] := by
    obtain ⟨l⟩ := sl
    simp only at hs
    rw [hs]
   subst hsl
   exact ⟨bm, ns, nm, qn, bs, hd, sn, sub, ab, col, dd, k0, k1, k2, k3, k5, _, X _ _ ho, .of_isNs (PySem.W.isNs_of_in X hok), PySem.W.nsMap_none_of_in X hok hni, PySem.W.tail_of_in X ht⟩
  ·cases q
 ·cases q
def tRaise (C : Addr) (E : XK) (ta : TA) : TS := fun _ σ H => ta σ H fun vs H1 => vs.length ≤ sizeLine ∧ E (.ref C) none H1
theorem ps_raise {x : Str} {C : Addr} {Bn newId initId : String} {bmB : List Value} {e₀ : Expr} {rest : List Expr} {np cpos pos : Pos} {ta : TA} (FB : ExcBaseFacts Bn newId initId bmB) (hm : mg x = some (.ref C)) (hq : PySem.W.excIn K C bmB newId = true)
  (hh : (A.deeper (envOfC qual scope s0.heap.objs.size f cdv)).handled = none) (ha : PA (cxr P w K mg base N qual scope f cdv A outer s0 H0 E).nox (e₀ :: rest) ta)
  (hg : Gl (cxr P w K mg base N qual scope f cdv A outer s0 H0 E) x := by rfl) (hd : (x == ("__debug__" : Str)) = false := by decide)
  (he : starEach (e₀ :: rest) (cxr P w K mg base N qual scope f cdv A outer s0 H0 E).env = (false, eval e₀ (cxr P w K mg base N qual scope f cdv A outer s0 H0 E).env) :: starEach rest (cxr P w K mg base N qual scope f cdv A outer s0 H0 E).env := by rfl)
  (hp : (backTo cpos (starEach rest (cxr P w K mg base N qual scope f cdv A outer s0 H0 E).env)).any (·.1) = false := by rfl) :
  PS (cxr P w K mg base N qual scope f cdv A outer s0 H0 E) (.Raise (some (.Call (.Name x np) (e₀ :: rest) [] cpos)) none pos) (tRaise C E ta) := by
 intro pins s σ H D I h
 obtain ⟨tl, Na, nm, q, bs, hdct, sn, sub, ab, col, dd, k0, k1, k2, k3, k5, mN, hC, hN, hni, T⟩ := exc_obj (h := base) I.mod.kin hq
 refine wpAny_Raise_call_subT (C := C) (nm := nm) (q := q) (N := Na) (bs := bs) (bm := tl) (hdct := hdct) (sn := sn) (sub := sub) (ab := ab) (col := col) (dd := dd) (k0 := k0) (k1 := k1) (k2 := k2) (k3 := k3) (k5 := k5)
  FB (mN := mN) (T.hasType FB.hasBase) hh (by rw [he]; show (false || (backTo cpos (starEach rest _)).any (·.1)) = false; rw [hp]; rfl) hni (ld_glob I hg hm ⟨rfl, ?_⟩ hd)
 suffices z : wpAny (model P w) (A.deeper (envOfC qual scope s0.heap.objs.size f cdv)) (spliced (backTo cpos (starEach (e₀ :: rest) (cxr P w K mg base N qual scope f cdv A outer s0 H0 E).env))) (fun vs s₂ => vs.length ≤ sizeLine ∧ (∀ b o, base.get? b = some o → s₂.heap.get? b = some o) ∧
   ∀ h' e, Heap.MadeExcOf s₂.heap h' e (.ref C) vs → (cxr P w K mg base N qual scope f cdv A outer s0 H0 E).xe (.ref e) { s₂ with heap := h' }) (cxr P w K mg base N qual scope f cdv A outer s0 H0 E).xe s by
  rw [he] at z ⊢
  exact Calls.evalArgs_plain (wpAny_mono z (fun vs s₂ h₂ => ⟨rfl, h₂.1, h₂.2.1 _ _ hC, hN.keeps h₂.2.1, T.keeps h₂.2.1, h₂.2.2⟩) fun _ _ y => y)
 refine wpAny_mono (ha cpos pins s σ H _ (I.wish _) h) (fun us s2 z => ?_) fun _ _ z => z.elim
 obtain ⟨vs, H1, I1, r, hl, hE⟩ := z
 have I2 : Inv (cxr P w K mg base N qual scope f cdv A outer s0 H0 E) pins σ H1 s2 := I1.unwish
 have bk := I2.bk
 refine ⟨by rw [← r.length]; exact hl, bk, fun h' e hx => ?_⟩
 show wpAny (model P w) (A.deeper (envOfC qual scope s0.heap.objs.size f cdv)) (leaving (envOfC qual scope s0.heap.objs.size f cdv) (.ref e)) _ _ { s2 with heap := h' }
 have hin : ∀ env ∈ (cxr P w K mg base N qual scope f cdv A outer s0 H0 E).stack, ∀ b, env.frame = some b → b ∈ frs (cxr P w K mg base N qual scope f cdv A outer s0 H0 E).stack := fun env he b hb => List.mem_filterMap.mpr ⟨env, he, hb⟩
 have ffB := PySem.W.funFrames_hide I2.stack hin
 have st : (PySem.W.hideAll s2.heap (frs (cxr P w K mg base N qual scope f cdv A outer s0 H0 E).stack)).StaysIn s2.heap := fun b o q => PySem.W.of_hideAll _ q
 have da : DictAt h' e none := by
  obtain ⟨t, ht, _⟩ := hx.there
  exact ⟨_, ht, rfl⟩
 refine wpAny_mono (Kp.any kp_leaving (wpAny_leaves_madeW (outer := outer) (s := { s2 with heap := h' }) (Q := fun _ s3 => ∃ h2 t, s3 = { s2 with heap := h2 } ∧ (PySem.W.hideAll s2.heap (frs (cxr P w K mg base N qual scope f cdv A outer s0 H0 E).stack)).FlyingW outer e (.ref C) (.ref t) h2 ∧ h'.UpToSlots h2) (E := fun _ _ => False) I.ok.frames rfl st ffB hx fun h2 t fl _ _ up => ⟨h2, t, rfl, fl, up⟩)) (fun _ s3 z => ?_) fun _ _ z => z.elim
 obtain ⟨⟨h2, t, rfl, fl, up⟩, kd⟩ := z
 refine out_of (s' := { s2 with heap := h' }) (H := H1) (s := s2) I2 fl (da.kd kd) (ffB.of_keeps fun b o e _ => ⟨o, hx.keeps b o e, rfl⟩) (fun b o q => hx.keeps b o (st b o q)) (Un.kept hx.keeps) (I2.hok.kept hx.keeps) rfl I2.bare (fun b o e hb => ⟨o, PySem.W.hideAll_get _ e hb⟩) (fun b u e => ?_) up hE
 obtain ⟨o, ho⟩ : ∃ o, s2.heap.get? b = some o := by
  have := I2.hok b u e
  exact obj_some this
 exact ⟨o, PySem.W.hideAll_get _ ho fun z => by
  have := I2.stkFree b z
  rw [e] at this
  cases this⟩
end
end Ty
set_option maxHeartbeats 4000000
namespace Ty
open PySem PySem.Spec PyProof.Rows L2
section
variable {X : Cx} {pins : List (Addr × Obj)} {σ : L2.St} {H H' : Hp} {s : Shared}
abbrev hnd (X : Cx) (a : Addr) : Cx := { X with A := X.A.mark (some (.ref a)), calm := false, xe := fun _ _ => False }
theorem hnd_ok {a : Addr} (ok : X.Ok) : (hnd X a).Ok :=
 ⟨ok.mod, ok.kind, ok.glob, ok.blt, ok.above, ok.inj, ok.has, ok.cab, fun z => (nomatch z), ok.frames, ok.stk, ok.exf, ok.bs, ok.bsz, ok.noex, ok.exfs, ok.funs, ok.frf⟩
theorem to_hnd {a : Addr} (I : Inv X pins σ H s) : Inv (hnd X a) pins σ H s := ⟨hnd_ok I.ok, I.os, I.bare, I.base, I.loc, I.cell, I.free, I.freeC, I.pin, I.hok, I.len⟩
theorem of_hnd {a : Addr} (ok : X.Ok) (I : Inv (hnd X a) pins σ H s) : Inv X pins σ H s := ⟨ok, I.os, I.bare, I.base, I.loc, I.cell, I.free, I.freeC, I.pin, I.hok, I.len⟩
def excO (cls : Value) (a : Addr) (dx : Option Addr) : HO := .ext fun h => ∃ o vs, h.get? a = some o ∧ o.cls = cls ∧ o.data = .fields vs ∧ o.dict = dx
structure Ld (X : Cx) (pins : List (Addr × Obj)) (σ : L2.St) (H : Hp) (a : Addr) (cls : Value) (dx : Option Addr) (s : Shared) : Prop where
 ex : ∃ (H0 : Hp) (s0 : Shared) (a0 : Value) (B : Heap), Inv X pins σ H0 s0 ∧ Heap.FlyingW B X.stack a cls a0 s.heap ∧ DictAt s.heap a dx ∧ Un (frs X.stack) [] H0 H s0.heap s.heap ∧ HOk X.prog X.w H s.heap ∧ s.os = s0.os ∧ AllBare s.gens ∧
  (∀ b o, s0.heap.get? b = some o → b ∉ frs X.stack → ∃ o', B.get? b = some o') ∧ (∀ b u, H b = some u → ∃ o, B.get? b = some o)
theorem Ld.inv {a : Addr} {cls : Value} {dx : Option Addr} (L : Ld X pins σ H a cls dx s) : Inv X pins σ H s := by
 obtain ⟨H0, s0, a0, B, I, fl, da, un, ok, os, bare, th, tr⟩ := L.ex
 exact I.call' (ch := []) os un ok bare fun b z => absurd z (by simp)
abbrev TH := Value → Option Addr → Ends → L2.St → Hp → Prop
def PH (X : Cx) (hs : List ExceptHandler) (t : TH) : Prop :=
 ∀ (pins : List (Addr × Obj)) (s : Shared) (σ : L2.St) (H : Hp) (a : Addr) (cls : Value) (dx : Option Addr) (D : Ends), Ld X pins σ H a cls dx s → t cls dx D σ H → wpAny (model X.prog X.w) X.A (handleBy (.ref a) X.env hs) (SP X pins D) X.xe s
theorem ph_nil : PH X [] (fun _ _ _ _ _ => False) := fun _ _ _ _ _ _ _ _ _ h => h.elim
structure ClsN (X : Cx) (c : Str) (cv : Value) : Prop where
 ld : ∀ (a : Addr) (pins : List (Addr × Obj)) (s : Shared) (σ : L2.St) (H : Hp) (np : Pos) (Q : Value → Shared → Prop) (E : Value → Shared → Prop), Inv (hnd X a) pins σ H s → Q cv s → wpAny (model X.prog X.w) (X.A.mark (some (.ref a))) (eval (.Name c np) X.env) Q E s
theorem ClsN.own {c : Str} {C : Addr} (hm : X.mg c = some (.ref C)) (hg : Gl X c := by rfl) (hd : (c == ("__debug__" : Str)) = false := by decide) : ClsN X c (.ref C) :=
 ⟨fun a pins s σ H np Q E I h => ld_glob (X := hnd X a) I hg hm h hd⟩
def tAs (i : Nat) (cv : Value) (K : Frag) (ts : TS) (tr : TH) : TH := fun cls dx D σ H => ∃ b, PySem.W.exmOne K cls cv = some b ∧
 if b = true then ∀ a, H a = none → ts { nx := fun σ2 H2 => D.nx (σ2.set i none) H2, rt := D.rt, bk := fun σ2 H2 => D.bk (σ2.set i none) H2, ct := fun σ2 H2 => D.ct (σ2.set i none) H2 } (σ.set i (some (.ref a))) (upd H a (excO cls a dx)) else tr cls dx D σ H
def XP (X : Cx) (pins : List (Addr × Obj)) (σ : L2.St) (E : XK) (e : Value) (s' : Shared) : Prop := ∃ H s, Inv X pins σ H s ∧ CXr X.prog X.w X.stack H s E e s'
abbrev TEx := L2.St → Hp → VK → XK → Prop
abbrev TSx := Ends → (L2.St → XK) → L2.St → Hp → Prop
def PEx (X : Cx) (e : Expr) (t : TEx) : Prop :=
 ∀ (pins : List (Addr × Obj)) (s : Shared) (σ : L2.St) (H : Hp) (Q : VK) (E : XK), Inv X pins σ H s → t σ H Q E → wpAny (model X.prog X.w) X.A (eval e X.env) (EP X pins σ Q) (XP X pins σ E) s
def PSx (X : Cx) (st : Stmt) (t : TSx) : Prop :=
 ∀ (pins : List (Addr × Obj)) (s : Shared) (σ : L2.St) (H : Hp) (D : Ends) (E : L2.St → XK), Inv X pins σ H s → t D E σ H → wpAny (model X.prog X.w) X.A (exec st X.env) (SP X pins D) (fun e s' => ∃ σ', XP X pins σ' (E σ') e s') s
theorem px_fn {k : Nat} {ps : List Str} {sp : Sp} {x : Str} {p pos : Pos} {e : Expr} {es : List Expr} {t : TA} (F : Fn X.prog X.w X.K X.mg X.base (CXr X.prog X.w) k x ps sp) (hr : Room k X.A) (ha : PA X.nox (e :: es) t) (hg : Gl X x := by rfl) (hdb : (x == ("__debug__" : Str)) = false := by decide)
  (he : starEach (e :: es) X.env = (false, eval e X.env) :: starEach es X.env := by rfl) (hpl : (backTo pos (starEach es X.env)).any (·.1) = false := by rfl) :
  PEx X (.Call (.Name x p) (e :: es) [] pos) (fun σ H Q E => t σ H fun vs H1 => sp vs H1 Q E) := by
 intro pins s σ H Q E I h
 obtain ⟨f, fd, G, b, m, kp⟩ := F.ex
 refine wpAny_Call_Name_kw (ld_glob I hg m ?_ hdb)
 refine PySem.W.callWith_K (h₀ := X.base) I.ok.mod.kin kp (wpAny_mono (ha pos pins s σ H _ (I.wish _) h) (fun us s1 ⟨vs, H1, I1, r, q⟩ => ⟨I1.kIn, ?_⟩) fun _ _ z => z.elim) he hpl
 have I2 : Inv X pins σ H1 s1 := I1.unwish
 have hl : us.length = ps.length := by rw [← r.length]; exact G.len _ _ _ _ q
 have bt := b s1 us I2.kIn (by rw [List.append_nil]; exact hl)
 rw [List.append_nil] at bt
 refine wpAny_call (codeAny_mono (G.run X.A X.stack s1 H1 ⟨us, []⟩ us vs Q E hr I2.env0 bt r q) fun r s' hq => ?_)
 cases r with
 | error e => exact ⟨H1, s1, I2, hq⟩
 | ok fl =>
  cases fl with
  | ret u => exact I2.after hq
  | next => exact False.elim hq
  | brk => exact False.elim hq
  | cont => exact False.elim hq
theorem ps_try {st : Stmt} {h₀ : ExceptHandler} {hs : List ExceptHandler} {pos : Pos} {tb : TSx} {th : TH} (hstk : X.stack = X.env :: X.outer ∧ X.env.frame = some X.env.locals) (hb : PSx X st tb) (hh : PH X (h₀ :: hs) th) :
  PS X (.Try [st] (h₀ :: hs) [] [] pos) (fun D σ H => tb D (fun σ' cls dx H' => th cls dx D σ' H') σ H) := by
 intro pins s σ H D I h
 refine wpAny_Try_except (wpAny_execs_cons (wpAny_mono (hb pins s σ H D _ I h) (fun f s1 q => ?_) fun e s1 z => ?_))
 ·cases f with
  | next => exact wpAny_execs_nil (wpAny_execs_nil q)
  | ret v => exact q
  | brk => exact q
  | cont => exact q
 ·obtain ⟨σ', H0, s0, I0, a, cls, a0, dx, H', B, rfl, fl, da, un, ok, os, bare, th', tr, hE⟩ := z
  have fl' := fl
  rw [hstk.1] at fl'
  have hfr : X.A.frames = some (X.env :: X.outer) := by rw [← hstk.1]; exact I.ok.frames
  refine wpAny_mono (Kp.any kp_noteFrame (wpAny_looks_onW (Q := fun _ s4 => ∃ h4, s4 = { s1 with heap := h4 } ∧ B.HeldW (X.env :: X.outer) a cls a0 X.env.locals h4 ∧ s1.heap.UpToSlots h4) (E := fun _ _ => False) hfr hstk.2 fl' fun h4 hheld up4 => ⟨h4, rfl, hheld, up4⟩)) (fun _ s4 z => ?_) fun _ _ z => z.elim
  obtain ⟨⟨h4, rfl, hheld, up4⟩, kd4⟩ := z
  refine wpAny_mono (Kp.any kp_setFlight (wpAny_landsW (s := { s1 with heap := h4 }) (Q := fun _ s5 => ∃ h5, s5 = { s1 with heap := h5 } ∧ B.FlyingW (X.env :: X.outer) a cls a0 h5 ∧ h4.UpToSlots h5) (E := fun _ _ => False) hheld fun h5 fl5 up5 => ⟨h5, rfl, fl5, up5⟩)) (fun _ s5 z => ?_) fun _ _ z => z.elim
  obtain ⟨⟨h5, rfl, fl5, up5⟩, kd5⟩ := z
  have da5 : DictAt h5 a dx := (da.kd kd4).kd kd5
  rw [← hstk.1] at fl5
  have up := up4.trans up5
  exact hh pins { s1 with heap := h5 } σ' H' a cls dx D ⟨H0, s0, a0, B, I0, fl5, da5, un_land un fl.1 fl5.1 th' fl.2.2.1 up, hok_land ok fl.1 fl5.1 tr, os, bare, th', tr⟩ hE
end
end Ty
set_option maxHeartbeats 4000000
namespace TyExc
open PySem PySem.W PySem.Calls PyProof.Rows Builtin Builtin.ObjectAttr Builtin.Getset_descriptor
structure ExcK (K : Frag) (C : Addr) : Prop where
 ga : findIn K (.ref C) "__getattribute__" = some (some (.builtin "BaseException.__getattribute__"))
 gt : findIn K (.ref C) "__getattr__" = some none
 cl : findIn K (.ref C) "__class__" = some (some (.builtin "object.__class__"))
 mo : mroIn K C (.type "object") = some true
 mb : mroIn K C (.type "BaseException") = some true
 is : (clsIn K C).isSome = true
section
variable {prog : Program} {w : World} {A : Around} {E : Value → Shared → Prop} {K : Frag} {h : Heap} {g : Array GenState} {d : Drawn} {t : Nat} {os : OsState} {a C : Addr} {o : Obj}
end
def ExcAt (a C : Addr) (h : Heap) : Prop := ∃ o vs, h.get? a = some o ∧ o.cls = .ref C ∧ o.data = .fields vs
end TyExc
set_option maxHeartbeats 4000000
namespace Ty
open PySem PySem.Spec PyProof.Rows L2
section
variable {X : Cx}
def rIsiX (K : Frag) : List V → Hp → VK → Prop := fun xs H Q => ∃ a C c b dx, xs = [.ref a, c] ∧ isCls c = true ∧ H a = some (excO (.ref C) a dx) ∧ TyExc.ExcK K C ∧ PySem.W.kitOne K (.ref C) (clsV c) = some b ∧ Q (.bl b) H
def rCount (K : Frag) : V → List V → Hp → VK → Prop := fun x vs H Q => ∃ l xs y, x = .ref l ∧ vs = [y] ∧ SqL K H l xs ∧ flatV y = true ∧ xs.all flatV = true ∧ Q (.int (xs.countP (fun z => eqV z y) : Nat)) H
end
structure RoomH (k : Nat) (A : Around) : Prop where
 dp : A.depth + 3 * k + 5 < recursionLimit
 un : A.units + 16 * k + 200 < cLine
structure FnOkH (P : Program) (w : World) (K : Frag) (mg : Str → Option Value) (base : Heap) (k : Nat) (f : Addr) (fd : FuncData) (ps : List Str) (sp : Sp) : Prop where
 len : ∀ vs H Q E, sp vs H Q E → vs.length = ps.length
 run : ∀ (A : Around) (outer : List Env) (s : Shared) (H : Hp) (args : Args) (us : List Value) (vs : List V) (Q : VK), RoomH k A → Env0 P w K mg base A outer s H → BindsTo s fd args (ps.zip us) → Vals vs us → sp vs H Q E0 →
  codeAny (model P w) A (.call (.ref f) args) (CR CX0 outer P w H s Q E0) s
def cxh (P : Program) (w : World) (K : Frag) (mg : Str → Option Value) (base : Heap) (N : List Str) (qual : Str) (scope : Scope) (f : Addr) (cdv : Value) (A : Around) (outer : List Env) (s : Shared) (H : Hp) : Cx :=
 { cxOf CX0 P w K mg base N qual scope f cdv A outer s H E0 with calm := false, xe := fun _ _ => False }
structure FnH (P : Program) (w : World) (K : Frag) (mg : Str → Option Value) (base : Heap) (k : Nat) (x : Str) (ps : List Str) (sp : Sp) : Prop where
 ex : ∃ (f : Addr) (fd : FuncData), FnOkH P w K mg base k f fd ps sp ∧ Binds K fd ps [] ∧ mg x = some (.ref f) ∧ keepIn K (.ref f) = true
theorem Def.okX {P : Program} {w : World} {K : Frag} {mg : Str → Option Value} {base : Heap} {x : Str} {st : Stmt} {N ps : List Str} {k : Nat} {sp : Sp} (D : Def K mg x st ps) (S : FnScope N ps (defScope st)) (len : ∀ vs H Q E, sp vs H Q E → vs.length = ps.length)
  (hbody : ∀ (f : Addr) (cdv : Value) (A : Around) (outer : List Env) (s : Shared) (H : Hp) (vs : List V) (Q : VK) (E : XK), Room k (A.deeper (envOfC x (defScope st) s.heap.objs.size f cdv)) → sp vs H Q E →
   ∃ t, PSs (cxr P w K mg base N x (defScope st) f cdv A outer s H E) (defBody st) t ∧ t { nx := fun _ H' => Q .non H', rt := Q } (start N vs) H) : Fn P w K mg base (CXr P w) (k + 1) x ps sp := by
 obtain ⟨f, dV, oc, od, kV, doc, pm, an, cdv, ct, osl, lk, hcd, kp, b, m⟩ := D.ex
 exact ⟨f, _, fn_of lk hcd S len fun A outer s H vs Q E hr hsp => hbody f cdv A outer s H vs Q E hr hsp, b, m, kp⟩
theorem DefD.okX {P : Program} {w : World} {K : Frag} {mg : Str → Option Value} {base : Heap} {x : Str} {st : Stmt} {N ps : List Str} {ds : List Value} {k : Nat} {sp : Sp} (D : DefD K mg x st ps ds) (S : FnScope N ps (defScope st)) (len : ∀ vs H Q E, sp vs H Q E → vs.length = ps.length)
  (hbody : ∀ (f : Addr) (cdv : Value) (A : Around) (outer : List Env) (s : Shared) (H : Hp) (vs : List V) (Q : VK) (E : XK), Room k (A.deeper (envOfC x (defScope st) s.heap.objs.size f cdv)) → sp vs H Q E →
   ∃ t, PSs (cxr P w K mg base N x (defScope st) f cdv A outer s H E) (defBody st) t ∧ t { nx := fun _ H' => Q .non H', rt := Q } (start N vs) H) : Fn P w K mg base (CXr P w) (k + 1) x ps sp ∧ FnD P w K mg base (CXr P w) (k + 1) x ps ds sp := by
 obtain ⟨f, dV, oc, od, kV, doc, pm, an, cdv, ct, osl, lk, hcd, kp, b, b2, m⟩ := D.ex
 have F := fn_of (CX := CXr P w) (P := P) (w := w) (mg := mg) (base := base) lk hcd S len fun A outer s H vs Q E hr hsp => hbody f cdv A outer s H vs Q E hr hsp
 exact ⟨⟨f, _, F, b, m, kp⟩, ⟨f, _, F, b2, m, kp⟩⟩
abbrev bmVE : List Value := [.type "ValueError", .type "Exception", .type "BaseException", .type "object"]
end Ty
set_option maxHeartbeats 4000000
namespace TyExc
open PySem PySem.W PySem.Calls PyProof.Rows Builtin Builtin.ObjectAttr Builtin.Getset_descriptor
section
variable {prog : Program} {w : World} {A : Around} {E : Value → Shared → Prop} {K : Frag} {h : Heap} {g : Array GenState} {d : Drawn} {t : Nat} {os : OsState} {a C : Addr} {o : Obj} {od : Option Obj} {name : Str} {v : Value}
end
end TyExc
set_option maxHeartbeats 4000000
namespace TyExc
open PySem PySem.W PySem.Calls PyProof.Rows Builtin Builtin.ObjectAttr
def isRf : Value → Bool
 | .ref _ => true
 | _ => false
def exOnly (l : List Value) : Bool := l.dropWhile isRf == [.type "ValueError", .type "Exception", .type "BaseException", .type "object"]
section
variable {prog : Program} {w : World} {A : Around} {E : Value → Shared → Prop} {K : Frag} {s : Shared} {x C : Addr} {ox : Obj} {od : Option Obj} {name : Str} {v : Value} {cd : ClassData}
end
end TyExc
set_option maxHeartbeats 400000
namespace TyExc
open PySem PySem.W PySem.Calls PyProof.Rows Builtin
section
variable {prog : Program} {w : World} {A : Around} {K : Frag} {h : Heap} {g : Array GenState} {d : Drawn} {t : Nat} {os : OsState} {e C : Addr} {oe : Obj} {vs : Array Value} {args : List Value} {E : Value → Shared → Prop}
end
end TyExc
set_option maxHeartbeats 400000
namespace TyExc
open PySem PySem.W PySem.Calls PyProof.Rows Builtin
section
variable {prog : Program} {w : World} {A : Around} {K : Frag} {h : Heap} {g : Array GenState} {d : Drawn} {t : Nat} {os : OsState} {nm q : Str} {C N f : Addr} {bs bm bmB : List Value} {hdct : Bool} {sn : List Str} {sub : List Value} {ab : Bool} {col : Option Bool} {dd : Option Addr} {k0 k1 k2 k3 k5 : Option Value} {B newId initId : String} {rest : List Value} {E : Value → Shared → Prop}
def newExcH (h : Heap) (C : Addr) (rest : List Value) : Heap := (h.push { cls := Value.type "tuple", data := Data.seq rest.toArray }).push { cls := Value.ref C, data := Data.fields #[Value.ref h.objs.size, Value.none, Value.none, Value.none, Value.bool false, Value.none] }
end
end TyExc
set_option maxHeartbeats 400000
namespace TyExc
open PySem PySem.W PySem.Calls PyProof.Rows Builtin
section
variable {M : Model} {A : Around} {E : Value → Shared → Prop} {env : Env} {nm q : Str} {C N : Addr} {bs bm : List Value} {hdct : Bool} {sn : List Str} {sub : List Value} {ab : Bool} {col : Option Bool} {dd : Option Addr} {k0 k1 k2 k3 k5 : Option Value} {newId : String} {s : Shared} {x : Sem Value} {Q : Flow → Shared → Prop}
end
end TyExc
set_option maxHeartbeats 400000
namespace TyExc
open PySem PySem.W
structure ExcF (K : Frag) (C : Addr) (f : Str) : Prop where
 k : ExcK K C
 sa : findIn K (.ref C) "__setattr__" = some (some (.builtin "object.__setattr__"))
 hd : hasDictIn K C = true
 ov : (clsIn K C).any (fun cd => exOnly cd.mro) = true
 nf : findIn K (.ref C) f = some none
end TyExc
namespace Ty
open PySem PySem.Spec PyProof.Rows L2
def excN (C a : Addr) (dx : Option Addr) : HO := .ext fun h => ∃ o vs tp, h.get? a = some o ∧ o.cls = .ref C ∧ o.data = .fields vs ∧ o.dict = dx ∧ vs[0]? = some (.ref tp) ∧ vs[1]? = some .none
def xdO (d : Addr) (fs : List (Str × V)) : HO := .ext fun h => ∃ mA, h.Ns1 d mA ∧ ∀ f, RelO (fs.lookup f) (mA f)
section
variable {P : Program} {w : World} {H : Hp} {h : Heap} {C a : Addr} {dx : Option Addr}
end
section
variable {X : Cx}
def tExcI (K : Frag) (ta : TA) : TE := fun σ H Q => ta σ H fun vs H1 => ∃ a C dx rest, vs = .ref a :: rest ∧ H1 a = some (excN C a dx) ∧ TyExc.ExcK K C ∧ PySem.W.mroIn K C (.type "ValueError") = some true ∧ rest.length ≤ sizeLine ∧ Q .non H1
structure YardI (K : Frag) (Y : Addr) : Prop where
 ga : PySem.W.specialIn K (.ref Y) "__getattribute__" = some (some (.builtin "type.__getattribute__"))
 rd : PySem.W.readsIn K Y (.type "type") = true
 fi : PySem.W.findCls K (.ref Y) (.type "type") "__init__" = some (.val (.builtin "ValueError.__init__"))
def sExcF (K : Frag) (ta tv : TE) (f : Str) : TS := fun D σ H => tv σ H fun y H1 => ta σ H1 fun x H2 => ∃ a C, x = .ref a ∧ TyExc.ExcF K C f ∧
 ((H2 a = some (excN C a none) ∧ ∀ d, H2 d = none → d ≠ a → D.nx σ (upd (upd H2 d (xdO d [(f, y)])) a (excN C a (some d)))) ∨
  (∃ dx fs, H2 a = some (excN C a (some dx)) ∧ dx ≠ a ∧ H2 dx = some (xdO dx fs) ∧ fs.length < 1000 ∧ D.nx σ (upd H2 dx (xdO dx (putF f y fs)))))
def tExcG (K : Frag) (ta : TE) (f : Str) : TE := fun σ H Q => ta σ H fun x H1 => ∃ a C dx fs v, x = .ref a ∧ H1 a = some (excO (.ref C) a (some dx)) ∧ H1 dx = some (xdO dx fs) ∧ TyExc.ExcF K C f ∧ fs.lookup f = some v ∧ Q v H1
end
end Ty
set_option maxHeartbeats 1000000
namespace Ty
open PySem PySem.Spec PyProof.Rows L2
abbrev bmV : List Value := [Value.type "ValueError", Value.type "Exception", Value.type "BaseException", Value.type "object"]
structure ExcC (K : Frag) (C fi : Addr) : Prop where
 obj : ∃ nm q N bs bm hdct sn sub ab col dd k0 k1 k2 k3 k5, K.lookup C = some (excClassObj nm q C N bs bm hdct sn sub ab col dd k0 k1 k2 k3 k5 "ValueError.__new__") ∧ PySem.W.tailIn K bmV bm = true
 init : PySem.W.findIn K (.ref C) "__init__" = some (some (.ref fi))
 fn : PySem.W.isFn K (.ref fi) = true
 kp : keepIn K (.ref C) = true
def dropH (H : Hp) (e : Addr) : Hp := fun b => if b = e then none else H b
def tRaiseI (C : Addr) (sp : Sp) (E : XK) (ta : TA) : TS := fun _ σ H => ta σ H fun vs H1 => vs.length ≤ sizeLine ∧ ∀ e, H1 e = none → sp (.ref e :: vs) (upd H1 e (excN C e none)) (fun v H2 => v = .non ∧ ∃ dx, H2 e = some (excN C e dx) ∧ E (.ref C) dx (dropH H2 e)) E0
section
variable {P : Program} {w : World} {K : Frag} {mg : Str → Option Value} {base : Heap} {N : List Str} {qual : Str} {scope : Scope} {f : Addr} {cdv : Value} {A : Around} {outer : List Env} {s0 : Shared} {H0 : Hp} {E : XK}
end
end Ty
set_option maxHeartbeats 4000000
namespace Ty
open PySem PySem.Spec PyProof.Rows L2
section
variable {prog : Program} {w : World} {A : Around} {R : Result → Shared → Prop} {s : Shared}
theorem compLoop_any {elt target iter : Expr} {ifs : List Expr} {scope : Scope} {pos : Pos} {it acc : Value} {env : Env} (I : Nat → Shared → Prop)
  (turn : ∀ n s, I n s → wpAny (model prog w) A (pyNext it) (fun r s₁ => match r with
   | none => R (.ok .next) s₁
   | some v => wpAny (model prog w) A (letOwnedTupleGo target it v) (fun _ s₁' => wpAny (model prog w) A (assign target env v) (fun _ s₂ =>
     wpAny (model prog w) A (forIn ifs true fun c r => if r = true then do let ok ← isTrue c env (eval c env); pure (ForInStep.yield ok) else pure (ForInStep.yield r)) (fun ok s₃ =>
      if ok = true then wpAny (model prog w) A (eval elt env) (fun x s₄ =>
       wpAny (model prog w) A (call (.builtin "list.append") [acc, x]) (fun _ s₅ => ∃ m, m < n ∧ I m s₅) (fun _ _ => False) s₄) (fun _ _ => False) s₃
      else ∃ m, m < n ∧ I m s₃) (fun _ _ => False) s₂) (fun _ _ => False) s₁') (fun _ _ => False) s₁) (fun _ _ => False) s)
  (n : Nat) (h : I n s) :
  codeAny (model prog w) A (.compLoop (.ListComp elt [⟨target, iter, ifs, 0⟩] scope pos) 0 it acc env) R s := by
 refine codeAny_loop rfl I (fun n s hI => ?_) n h
 show wpAny _ A ((compTurn (.ListComp elt [⟨target, iter, ifs, 0⟩] scope pos) 0 it acc env).onRaise (fun x => do noteFrame x env; theTreesLotGoes x)) _ _ s
 refine wpAny_noted ?_
 rw [compTurn_list]
 refine wpAny_bind (wpAny_standAt (wpAny_bind (wpAny_mono (turn n s hI) (fun r s₁ h₁ => ?_) fun _ _ h' => h'.elim)))
 cases r with
 | none => exact wpAny_pure h₁
 | some v =>
  refine wpAny_bind (wpAny_mono h₁ (fun _ s₁' h₁' => ?_) fun _ _ h' => h'.elim)
  refine wpAny_bind (wpAny_mono h₁' (fun _ s₂ h₂ => wpAny_bind (wpAny_mono h₂ (fun ok s₃ h₃ => ?_) fun _ _ h' => h'.elim)) fun _ _ h' => h'.elim)
  cases ok with
  | false => exact wpAny_pure ⟨rfl, h₃⟩
  | true =>
   exact wpAny_bind (wpAny_bind (wpAny_mono h₃ (fun x s₄ h₄ => wpAny_bind (wpAny_mono h₄ (fun _ s₅ h₅ => wpAny_pure (wpAny_pure ⟨rfl, h₅⟩)) fun _ _ h' => h'.elim)) fun _ _ h' => h'.elim))
end
def capCl (env : Env) (fr : List Str) : List (Str × Addr) := fr.filterMap fun n => (env.cells.lookup n).map fun c => (n, c)
theorem lookup_mem {α : Type} {x : Str} {c : α} : ∀ {l : List (Str × α)}, l.lookup x = some c → (x, c) ∈ l
 | [], h => by simp at h
 | (y, d) :: r, h => by
  rw [List.lookup_cons] at h
  cases e : x == y with
  | true =>
   rw [e] at h
   have e1 : x = y := by simpa using e
   cases h
   rw [e1]
   exact List.mem_cons_self
  | false =>
   rw [e] at h
   exact List.mem_cons_of_mem _ (lookup_mem h)
theorem capCl_mem {env : Env} {fr : List Str} {x : Str} {c : Addr} (h : (x, c) ∈ capCl env fr) : env.cells.lookup x = some c := by
 obtain ⟨n, _, e⟩ := List.mem_filterMap.mp h
 cases q : env.cells.lookup n with
 | none => rw [q] at e; cases e
 | some d =>
  rw [q] at e
  have e' : (n, d) = (x, c) := Option.some.inj e
  cases e'
  exact q
theorem capCl_get {env : Env} {fr : List Str} {x : Str} {c : Addr} (h : (capCl env fr).lookup x = some c) : env.cells.lookup x = some c := capCl_mem (lookup_mem h)
theorem capCl_has {env : Env} {x : Str} {c : Addr} (q : env.cells.lookup x = some c) : ∀ {fr : List Str}, x ∈ fr → (capCl env fr).lookup x = some c
 | [], h => nomatch h
 | y :: r, h => by
  unfold capCl
  rw [List.filterMap_cons]
  by_cases e : x = y
  ·subst e
   rw [q]
   simp
  ·have hr : x ∈ r := by
    rcases List.mem_cons.mp h with z | z
    ·exact absurd z e
    ·exact z
   have ih := capCl_has q hr
   cases z : env.cells.lookup y with
   | none => exact ih
   | some d =>
    show List.lookup x ((y, d) :: _) = _
    rw [List.lookup_cons]
    have ne : (x == y) = false := by simpa using e
    rw [ne]
    exact ih
def AllCap (env : Env) : List Str → Prop
 | [] => True
 | y :: r => (env.kindOf y = some .cell ∨ env.kindOf y = some .free) ∧ AllCap env r
theorem AllCap.at {env : Env} {x : Str} : ∀ {fr : List Str}, AllCap env fr → x ∈ fr → env.kindOf x = some .cell ∨ env.kindOf x = some .free
 | [], _, h => nomatch h
 | y :: r, a, h => by
  rcases List.mem_cons.mp h with z | z
  ·rw [z]
   exact a.1
  ·exact AllCap.at a.2 z
section
variable {X : Cx}
def cxB (X : Cx) (NB : List Str) (scope : Scope) (cl : List (Str × Addr)) (C : Addr) (s : Shared) (H : Hp) (fp : List Addr) : Cx :=
 { prog := X.prog, w := X.w, K := X.K, mg := X.mg, base := X.base, A := X.A, N := NB, s₀ := s, H₀ := H, env := compEnvC scope cl C X.env, outer := X.stack, stack := X.stack, ex := fp, fn := fun _ => false, calm := X.calm, pn := [], xe := fun _ _ => False }
structure BlkS (X : Cx) (scope : Scope) (fr : List Str) (caps : List Nat) : Prop where
 clos : closureFor scope X.env = pure (capCl X.env fr)
 cell : ∀ y ∈ scope.names, y.2 ≠ .cell
 kind : scope.kind = .function
 names : ∀ y ∈ scope.names, y.2 = .local → scope.names.lookup y.1 = some .local
 free : ∀ y ∈ scope.names, y.2 = .free → y.1 ∈ fr
 caps : caps.map (fun i => X.N[i]?) = fr.map some
 out : AllCap X.env fr
 inn : AllCap (compEnvC scope [] 0 X.env) fr
def PF (X : Cx) (ifs : List Expr) (t : TT) : Prop :=
 ∀ (pins : List (Addr × Obj)) (s : Shared) (σ : L2.St) (H : Hp) (Q : Bool → Hp → Prop), Inv X pins σ H s → t σ H Q →
  wpAny (model X.prog X.w) X.A (forIn ifs true fun c r => if r = true then do let ok ← isTrue c X.env (eval c X.env); pure (ForInStep.yield ok) else pure (ForInStep.yield r)) (TP X pins σ Q) X.xe s
def tYes : TT := fun _ H Q => Q true H
theorem pf_nil : PF X [] tYes := fun _ _ _ H _ I h => wpAny_tests_nil ⟨H, I, h⟩
def sB (k : Nat) (caps : List Nat) (σ : L2.St) : L2.St := List.replicate k none ++ caps.map fun i => (σ[i]?).getD none
def tBlk (D : Addr) (g : TG) (tt : TT) (te : TE) (J : It) (σ0 : L2.St) (H1 : Hp) (Q : VK) : Prop := ∃ W : Nat → Nat → L2.St → List V → Hp → Prop,
 (∃ m, W 0 m σ0 [] (upd H1 D (.lst []))) ∧ ∀ i m σ2 ys H2, W i m σ2 ys H2 → (J.stop i H2 ∧ Q (.ref D) H2) ∨ (J.go i H2 ∧ ∀ x H3, J.yld i H2 x H3 → g x σ2 H3 fun σ4 H4 => tt σ4 H4 fun b H5 =>
  if b = true then te σ4 H5 fun v H6 => H6 D = some (.lst ys) ∧ ys.length < sizeLine ∧ ∃ m', m' < m ∧ W (i + 1) m' σ4 (ys ++ [v]) (upd H6 D (.lst (ys ++ [v]))) else ∃ m', m' < m ∧ W (i + 1) m' σ4 ys H5)
def tComp (k : Nat) (caps : List Nat) (wi : TI) (g : TG) (tt : TT) (te : TE) : TE := fun σ H Q => wi σ H fun J H1 => ∀ D, H1 D = none → tBlk D g tt te J (sB k caps σ) H1 Q
theorem sB_get {k : Nat} {caps : List Nat} {σ : L2.St} {i : Nat} {v : V} (h : (sB k caps σ)[i]? = some (some v)) : k ≤ i ∧ ∃ j, caps[i - k]? = some j ∧ σ[j]? = some (some v) := by
 unfold sB at h
 by_cases c : i < k
 ·rw [List.getElem?_append_left (by simpa using c), List.getElem?_replicate, if_pos c] at h
  cases h
 ·rw [List.getElem?_append_right (by simpa using Nat.le_of_not_lt c), List.length_replicate, List.getElem?_map] at h
  refine ⟨Nat.le_of_not_lt c, ?_⟩
  cases e : caps[i - k]? with
  | none => rw [e] at h; cases h
  | some j =>
   rw [e] at h
   refine ⟨j, rfl, ?_⟩
   have h' : (σ[j]?).getD none = some v := Option.some.inj h
   cases z : σ[j]? with
   | none => rw [z] at h'; cases h'
   | some o =>
    rw [z] at h'
    exact congrArg some h'
theorem comp_block {elt target iter : Expr} {ifs : List Expr} {scope : Scope} {pos : Pos} {tn fr : List Str} {caps : List Nat} {g : TG} {tt : TT} {te : TE} {pins : List (Addr × Obj)} {σ : L2.St} {H2 : Hp} {s2 : Shared} {J : It} {fp : List Addr} {it : Addr}
  {tnn : Nat → Heap → Prop} {Q : VK} {RR : Value → Addr → Result → Shared → Prop} {E : Value → Shared → Prop} (hc : X.calm = true) (B : BlkS X scope fr caps)
  (hg : ∀ C s H fp, PG (cxB X (tn ++ fr) scope (capCl X.env fr) C s H fp) target g) (ht : ∀ C s H fp, PF (cxB X (tn ++ fr) scope (capCl X.env fr) C s H fp) ifs tt) (he : ∀ C s H fp, PE (cxB X (tn ++ fr) scope (capCl X.env fr) C s H fp) elt te)
  (I2 : Inv X pins σ H2 s2) (T : Turn X.prog X.w X.K target J fp it tnn) (st2 : tnn 0 s2.heap) (f2 : ∀ b ∈ fp, FpOk X pins H2 b) (q : ∀ D, H2 D = none → tBlk D g tt te J (sB tn.length caps σ) H2 Q)
  (fin : ∀ D C H' s' m, Inv X pins σ H' s' → s'.heap.Ns C m → FpOk X pins H' C → Q (.ref D) H' → RR (.ref D) C (.ok .next) s') :
  wpAny (model X.prog X.w) X.A (newList []) (fun acc s₃ => wpAny (model X.prog X.w) X.A (newFunctionEnv scope X.env.globals (capCl X.env fr) [] X.env.qual none .none (some X.env)) (fun cenv s₄ =>
   codeAny (model X.prog X.w) X.A (.compStart (.ListComp elt [⟨target, iter, ifs, 0⟩] scope pos) 0 (.ref it) acc { cenv with scope := relabel scope X.env }) (RR acc cenv.locals) s₄) E s₃) E s2 := by
 refine wpAny_newObj_type (wpAny_newFunctionEnv B.cell (by intro y hy; simp at hy) (fun h₁ hns₁ hsb₁ => ?_) B.kind)
 have I3 : Inv X pins σ (upd H2 s2.heap.objs.size (.lst [])) { s2 with heap := s2.heap.push { cls := .type "list", data := .seq ([] : List Value).toArray } } := I2.lnew (t' := s2.toks) (its := []) .nil (Nat.zero_le _)
 obtain ⟨W, ⟨m0, w0⟩, turn⟩ := q s2.heap.objs.size (I2.hok.fresh (Nat.le_refl _))
 generalize hH3 : upd H2 s2.heap.objs.size (.lst []) = H3 at I3 w0
 have f3 : ∀ b ∈ fp, FpOk X pins H3 b := fun b hb => by
  obtain ⟨a0, a1⟩ := f2 b hb
  refine ⟨?_, a1⟩
  obtain ⟨o, e, _⟩ := T.obj _ _ st2 b hb
  rw [← hH3, upd_ne (Nat.ne_of_lt (Heap.lt_size e))]
  exact a0
 generalize hD : s2.heap.objs.size = D at *
 generalize hs3 : ({ s2 with heap := s2.heap.push { cls := .type "list", data := .seq ([] : List Value).toArray } } : Shared) = s3 at *
 have e3 : s3.heap = s2.heap.push { cls := .type "list", data := .seq ([] : List Value).toArray } := by rw [← hs3]
 have st3 : tnn 0 s3.heap := T.keep _ _ _ st2 fun b _ o e => by rw [e3]; exact Heap.get?_push_of_some _ e
 have kept : ∀ b o, s3.heap.get? b = some o → h₁.get? b = some o := fun b o e => (hsb₁.2 b (Nat.ne_of_lt (Heap.lt_size e))).trans (Heap.get?_push_of_some _ e)
 generalize hC : s3.heap.objs.size = C at *
 have hCs : s3.heap.objs.size ≤ C := Nat.le_of_eq hC
 have I4 : Inv X pins σ H3 { s3 with heap := h₁, toks := s3.toks + ([] : List (Str × Value)).length } := I3.kept kept
 have fpC : ∀ b ∈ fp, b ≠ C := fun b hb z => by
  obtain ⟨o, e, _⟩ := T.obj _ _ st3 b hb
  exact absurd z (Nat.ne_of_lt (Nat.lt_of_lt_of_le (Heap.lt_size e) hCs))
 have nst : ∀ b ∈ fp, b ∉ frs X.stack := fun b hb z => (List.mem_cons.mp (I3.stkSub b z)).elim (f3 b hb).2.1 (f3 b hb).2.2.1
 have okB : (cxB X (tn ++ fr) scope (capCl X.env fr) C s3 H3 fp).Ok := by
  refine ⟨I3.ok.mod, B.kind, I3.ok.glob, I3.ok.blt, hCs, fun x y c e1 e2 => I3.ok.inj x y c (capCl_get e1) (capCl_get e2), fun x hx => ?_, fun x c z => (nomatch z), I3.ok.hd, I3.ok.frames, .inl rfl,
   fun b hb => ⟨fpC b hb, fun x c e => (f3 b hb).2.2.2.2.1 x c (capCl_get e)⟩, I3.bs, Nat.le_trans I3.ok.bsz I3.sz, fun b o e hb => ?_, nst, I3.stack, I3.stkFree⟩
  ·have hm : ∃ k, (x, k) ∈ scope.names ∧ k ≠ .local ∧ (k = .cell ∨ k = .free) := by
    have : ∃ k', (relabel scope X.env).names.lookup x = some k' ∧ (k' = .cell ∨ k' = .free) := by
     rcases hx with z | z
     ·exact ⟨_, z, .inl rfl⟩
     ·exact ⟨_, z, .inr rfl⟩
    obtain ⟨k', e', h'⟩ := this
    obtain ⟨⟨n, k⟩, hn, en⟩ := List.mem_map.mp (lookup_mem e')
    dsimp only at en
    by_cases cc : (k == NameKind.free && X.env.scope.kind == .function && X.env.kindOf n == some .cell) = true
    ·rw [if_pos cc] at en
     cases en
     have kf : k = .free := by
      rw [Bool.and_eq_true, Bool.and_eq_true] at cc
      simpa using cc.1.1
     exact ⟨k, hn, (by intro z; rw [kf] at z; cases z), .inr kf⟩
    ·rw [if_neg cc] at en
     cases en
     exact ⟨k', hn, fun z' => by rcases h' with y | y <;> (rw [y] at z'; cases z'), h'⟩
   obtain ⟨k, hk, _, h2⟩ := hm
   rcases h2 with z | z
   ·exact absurd z (B.cell _ hk)
   ·have hf := B.free _ hk z
    obtain ⟨c, ec⟩ := I3.ok.has x (B.out.at hf)
    exact ⟨c, capCl_has ec hf⟩
  ·obtain ⟨_, _, _, h1, _⟩ := f3 b hb
   rcases h1 with z | z
   ·exact I3.ok.noex b o e z
   ·exact Nat.lt_irrefl _ (Nat.lt_of_lt_of_le (Nat.lt_of_lt_of_le (Heap.lt_size e) I3.ok.bsz) z)
 have IB : Inv (cxB X (tn ++ fr) scope (capCl X.env fr) C s3 H3 fp) [] (sB tn.length caps σ) H3 { s3 with heap := h₁, toks := s3.toks + ([] : List (Str × Value)).length } := by
  refine ⟨okB, rfl, I3.bare, Un.kept kept, ⟨_, hns₁, fun i x v e1 e2 _ => ?_⟩, fun x c e => I4.cell x c (capCl_get e), ?_, fun x c e => I3.freeC x c (capCl_get e), fun p hp => (nomatch hp), I3.hok.kept kept, ?_⟩
  ·obtain ⟨hk, j, ej, es⟩ := sB_get e2
   have e1' : fr[i - tn.length]? = some x := by
    have z : (tn ++ fr)[i]? = some x := e1
    rw [List.getElem?_append_right hk] at z
    exact z
   have hx : x ∈ fr := List.mem_of_getElem? e1'
   have eN : X.N[j]? = some x := by
    have z := congrArg (fun l : List (Option Str) => l[i - tn.length]?) B.caps
    simp only [List.getElem?_map, ej, e1', Option.map_some] at z
    exact Option.some.inj z
   have ko := B.out.at hx
   obtain ⟨m, hn, hl⟩ := I4.loc
   obtain ⟨u, r, lk⟩ := hl j x v eN es (by rcases ko with z | z; exact .inr (.inl z); exact .inr (.inr z))
   refine ⟨u, r, ?_⟩
   rcases lk with ⟨k1, _⟩ | ⟨_, c, ec, ic⟩
   ·rcases ko with z | z <;> (rw [z] at k1; cases k1)
   ·exact .inr ⟨B.inn.at hx, c, capCl_has ec hx, ic⟩
  ·exact I3.hok.fresh hCs
  ·have := congrArg List.length B.caps
   simp only [List.length_map] at this
   show (sB tn.length caps σ).length = (tn ++ fr).length
   unfold sB
   simp [this]
 have statB : ∀ {H' : Hp}, (∀ b ∈ fp, H' b = none) → ∀ b ∈ fp, FpOk (cxB X (tn ++ fr) scope (capCl X.env fr) C s3 H3 fp) [] H' b := fun hn b hb =>
  ⟨hn b hb, fpC b hb, nst b hb, .inl hb, fun x c e => (f3 b hb).2.2.2.2.1 x c (capCl_get e), fun p hp => (nomatch hp)⟩
 have st4 : tnn 0 h₁ := T.keep _ _ _ st3 fun b _ o e => kept b o e
 have loop : codeAny (model X.prog X.w) X.A (.compLoop (.ListComp elt [⟨target, iter, ifs, 0⟩] scope pos) 0 (.ref it) (.ref D) (compEnvC scope (capCl X.env fr) C X.env)) (RR (.ref D) C) { s3 with heap := h₁, toks := s3.toks + ([] : List (Str × Value)).length } := by
  refine compLoop_any (fun n s' => ∃ i σ' ys H', Inv (cxB X (tn ++ fr) scope (capCl X.env fr) C s3 H3 fp) [] σ' H' s' ∧ tnn i s'.heap ∧ (∀ b ∈ fp, H' b = none) ∧ W i n σ' ys H') ?_ m0 ⟨0, _, [], H3, IB, st4, fun b hb => (f3 b hb).1, w0⟩
  rintro n s5 ⟨i, σ5, ys, H5, I5, st5, fr5, w5⟩
  rcases turn i n σ5 ys H5 w5 with ⟨stop, qn⟩ | ⟨go, step⟩
  ·refine wpAny_mono (T.done (cxB X (tn ++ fr) scope (capCl X.env fr) C s3 H3 fp) rfl rfl rfl hc i [] s5 σ5 H5 (fun _ _ => False) I5 (statB fr5) st5 stop) (fun r s6 ⟨hr, I6⟩ => ?_) fun _ _ z => z
   subst hr
   obtain ⟨m, hn, _⟩ := I6.loc
   have J6 : Inv X pins σ H5 s6 := I3.call' (ch := fp) I6.os I6.base I6.hok I6.bare fun b hb => ⟨(f3 b hb).2.2.2.1, (f3 b hb).2.1, (f3 b hb).2.2.2.2.1, (f3 b hb).2.2.2.2.2⟩
   exact fin D C H5 s6 m J6 hn (I3.fpOk hCs I6.free) qn
  ·refine wpAny_mono (T.item (cxB X (tn ++ fr) scope (capCl X.env fr) C s3 H3 fp) rfl rfl rfl hc i [] s5 σ5 H5 (fun _ _ => False) I5 (statB fr5) st5 go) (fun r s6 ⟨u, hr, h6⟩ => ?_) fun _ _ z => z
   subst hr
   refine wpAny_mono h6 (fun _ s7 ⟨x, H7, I7, r7, y7, st7, fr7⟩ => ?_) fun _ _ z => z
   have I7' := I7.pinned (statB fr7) (T.obj _ _ st7)
   have held : ∀ {σ' : L2.St} {H' : Hp} {s' : Shared}, Inv (cxB X (tn ++ fr) scope (capCl X.env fr) C s3 H3 fp) ([] ++ pinsAt fp s7.heap) σ' H' s' → tnn (i + 1) s'.heap ∧ ∀ b ∈ fp, H' b = none := fun {σ' H' s'} I' => by
    refine ⟨T.keep _ _ _ st7 fun b hb o e => (I'.pin (b, o) (List.mem_append_right _ (List.mem_append_right _ (mem_pinsAt hb e)))).1, fun b hb => ?_⟩
    obtain ⟨o, e, d⟩ := T.obj _ _ st7 b hb
    exact (I'.pin (b, o) (List.mem_append_right _ (List.mem_append_right _ (mem_pinsAt hb e)))).2.1
   refine wpAny_mono (hg C s3 H3 fp _ s7 σ5 H7 x u _ I7' r7 (step x H7 y7)) (fun _ s8 ⟨σ8, H8, I8, q8⟩ => ?_) fun _ _ z => z
   refine wpAny_mono (ht C s3 H3 fp _ s8 σ8 H8 _ I8 q8) (fun ok s9 ⟨H9, I9, q9⟩ => ?_) fun _ _ z => z
   cases ok with
   | false =>
    rw [if_neg Bool.false_ne_true] at q9
    obtain ⟨m', hm, w9⟩ := q9
    rw [if_neg Bool.false_ne_true]
    obtain ⟨a, b⟩ := held I9
    exact ⟨m', hm, i + 1, σ8, ys, H9, I9.unpinned, a, b, w9⟩
   | true =>
    rw [if_pos rfl] at q9
    rw [if_pos rfl]
    refine wpAny_mono (he C s3 H3 fp _ s9 σ8 H9 _ I9 q9) (fun v s10 ⟨y, H10, I10, r10, hDD, hl, m', hm, w10⟩ => ?_) fun _ _ z => z
    refine wpAny_mono (mt_append (X := cxB X (tn ++ fr) scope (capCl X.env fr) C s3 H3 fp) _ s10 σ8 H10 (.ref D) [y] (.ref D) [v] (fun _ H' => W (i + 1) m' σ8 (ys ++ [y]) H') I10 rfl (.cons r10 .nil) ⟨D, ys, y, rfl, rfl, hDD, hl, w10⟩) (fun _ s11 ⟨z, H11, I11, _, q11⟩ => ?_) fun _ _ z => z
    obtain ⟨a, b⟩ := held I11
    exact ⟨m', hm, i + 1, σ8, ys ++ [y], H11, I11.unpinned, a, b, q11⟩
 exact codeAny_compStart_list loop (T.self X.A 0 _ _ _ st4 loop)
theorem pe_comp {elt target iter : Expr} {ifs : List Expr} {scope : Scope} {pos : Pos} {tn fr : List Str} {caps : List Nat} {wi : TI} {g : TG} {tt : TT} {te : TE} (hc : X.calm = true) (B : BlkS X scope fr caps) (hi : PI X target iter wi)
  (hg : ∀ C s H fp, PG (cxB X (tn ++ fr) scope (capCl X.env fr) C s H fp) target g) (ht : ∀ C s H fp, PF (cxB X (tn ++ fr) scope (capCl X.env fr) C s H fp) ifs tt) (he : ∀ C s H fp, PE (cxB X (tn ++ fr) scope (capCl X.env fr) C s H fp) elt te)
  (hs : ∀ x, foldedSetIterable iter X.env x = pure x := by intro _; rfl) : PE X (.ListComp elt [⟨target, iter, ifs, 0⟩] scope pos) (tComp tn.length caps wi g tt te) := by
 intro pins s σ H Q I h
 rw [eval_ListComp]
 refine wpAny_comprehension_free (use := none) rfl hs B.clos B.kind B.names (thn (hi pins s σ H _ I h) fun v s1 h1 => thn h1 fun itv s2 h2 => ?_)
 obtain ⟨it, fp, tnn, J, H2, rfl, I2, T, st2, f2, q⟩ := h2
 refine comp_block (Q := Q) (RR := fun acc C => compPost (model X.prog X.w) X.A X.xe none (EP X pins σ Q) acc C) hc B hg ht he I2 T st2 f2 q ?_
 intro D C H' s' m I' hn fc qq
 obtain ⟨g0, g1, g2, g3, g4, g5⟩ := fc
 exact ⟨m, hn, fun h' hs' => ⟨.ref D, H', I'.turned (t' := s'.toks) (fun b o hb e => (hs'.2 b hb).trans e) g0 g1 g3 g4 g5, rfl, qq⟩⟩
theorem ps_setC {i : Nat} {y : Str} {py : Pos} {spos : Pos} {elt target iter : Expr} {ifs : List Expr} {scope : Scope} {pos : Pos} {tn fr : List Str} {caps : List Nat} {wi : TI} {g : TG} {tt : TT} {te : TE} (hN : X.N.Nodup) (hiN : X.N[i]? = some y) (hx : Loc X.env.scope y)
  (hc : X.calm = true) (B : BlkS X scope fr caps) (hi : PI X target iter wi)
  (hg : ∀ C s H fp, PG (cxB X (tn ++ fr) scope (capCl X.env fr) C s H fp) target g) (ht : ∀ C s H fp, PF (cxB X (tn ++ fr) scope (capCl X.env fr) C s H fp) ifs tt) (he : ∀ C s H fp, PE (cxB X (tn ++ fr) scope (capCl X.env fr) C s H fp) elt te)
  (hsw : swapsWith (.ListComp elt [⟨target, iter, ifs, 0⟩] scope pos) (some (.Name y py)) spos.line X.env = pure true := by rfl)
  (hs : ∀ x, foldedSetIterable iter X.env x = pure x := by intro _; rfl) (hf : X.fn y = true ∨ X.env.scope.names.lookup y = some .local := by first | exact .inl rfl | exact .inr rfl | assumption) :
  PS X (.Assign [.Name y py] (.ListComp elt [⟨target, iter, ifs, 0⟩] scope pos) spos) (tAsg (tComp tn.length caps wi g tt te) (gName i)) := by
 intro pins s σ H D I h
 rw [exec_Assign_Name_used _ _ _ _ hsw]
 refine wpAny_bind (wpAny_standAt (wpAny_bind ?_))
 show wpAny _ X.A (do let _ ← comprehension (.ListComp elt [⟨target, iter, ifs, 0⟩] scope pos) scope X.env _ (newList []) false (eval iter X.env) (some (assign (.Name y py) X.env))) _ _ s
 refine wpAny_bind (wpAny_mono (wpAny_comprehension_free (use := some (assign (.Name y py) X.env)) (Q := fun _ s' => SP X pins D .next s') rfl hs B.clos B.kind B.names
  (thn (hi pins s σ H _ I h) fun v s1 h1 => thn h1 fun itv s2 h2 => ?_)) (fun _ s' hq => wpAny_pure (wpAny_pure hq)) fun _ _ e => e)
 obtain ⟨it, fp, tnn, J, H2, rfl, I2, T, st2, f2, q⟩ := h2
 refine comp_block (Q := fun v H1 => gName i v σ H1 D.nx) (RR := fun acc C => compPost (model X.prog X.w) X.A X.xe (some (assign (.Name y py) X.env)) (fun _ s' => SP X pins D .next s') acc C) hc B hg ht he I2 T st2 f2 q ?_
 intro DD C H' s' m I' hn fc qq
 obtain ⟨g0, g1, g2, g3, g4, g5⟩ := fc
 show wpAny _ X.A (assign (.Name y py) X.env (.ref DD)) _ _ _
 refine wpAny_assign_Name (store_ok2 I' hN hiN hx (v := .ref DD) (u := .ref DD) rfl (fun s'' I'' ⟨a, sb, ha⟩ => ?_) hf)
 have hCa : C ≠ a := by
  rcases ha with z | z
  ·rw [z]
   exact g1
  ·exact fun e => g4 y a z e.symm
 exact ⟨m, hn.sameBut sb hCa, fun h' hs' => ⟨_, H', I''.turned (t' := s''.toks) (fun b o hb e => (hs'.2 b hb).trans e) g0 g1 g3 g4 g5, qq⟩⟩
end
section
variable {D : Addr} {te : TE} {cap : L2.St} {H1 : Hp} {Q : VK}
theorem blk_of {J : It} (n : Nat) (xs : Nat → V) (Pv : Nat → List V → Hp → Prop) (h0 : Pv 0 [] (upd H1 D (.lst [])))
  (go : ∀ i ys H, i < n → Pv i ys H → J.go i H ∧ ∀ x H', J.yld i H x H' → H' = H ∧ x = xs i) (stop : ∀ ys H, Pv n ys H → J.stop n H)
  (hs : ∀ i ys H (R : VK), i < n → Pv i ys H → H D = some (.lst ys) → (∀ v H6, H6 D = some (.lst ys) → ys.length < sizeLine → Pv (i + 1) (ys ++ [v]) (upd H6 D (.lst (ys ++ [v]))) → R v H6) → te (some (xs i) :: cap) H R)
  (hd : ∀ ys H, Pv n ys H → H D = some (.lst ys) → Q (.ref D) H) : tBlk D (gName 0) tYes te J (none :: cap) H1 Q := by
 refine ⟨fun i m σ ys H => m = n - i ∧ i ≤ n ∧ (∃ o, σ = o :: cap) ∧ Pv i ys H ∧ H D = some (.lst ys), ⟨n, by simp, Nat.zero_le _, ⟨none, rfl⟩, h0, upd_same⟩, ?_⟩
 rintro i m σ ys H ⟨rfl, hi, ⟨o, rfl⟩, p, hD⟩
 by_cases hlt : i < n
 ·obtain ⟨g1, g2⟩ := go i ys H hlt p
  refine .inr ⟨g1, fun x H' y => ?_⟩
  obtain ⟨e1, e2⟩ := g2 x H' y
  subst e1 e2
  unfold gName tYes
  dsimp only
  rw [if_pos rfl]
  exact hs i ys _ _ hlt p hD fun v H6 a b c => ⟨a, b, n - (i + 1), by omega, rfl, by omega, ⟨_, rfl⟩, c, upd_same⟩
 ·have e : i = n := by omega
  subst e
  exact .inl ⟨stop ys H p, hd ys H p hD⟩
end
def Its (x : Str) : It := ⟨fun i _ => i < x.cps.size, fun i H v H' => H' = H ∧ ∃ c, x.cps[i]? = some c ∧ v = .str ⟨#[c]⟩, fun i _ => i = x.cps.size⟩
theorem turn_str {P : Program} {w : World} {K : Frag} {tg : Expr} {ty : String} (it : Addr) (x : Str) (t : Tok) (hty : ty = "str_ascii_iterator" ∨ ty = "str_iterator") : Turn P w K tg (Its x) [it] it (fun i h => h.IsStrIter it ty x t i) where
 mem := by simp
 obj := fun i h st b hb => by
  have e : b = it := by simpa using hb
  subst e
  obtain ⟨o, e, c, d⟩ := st
  exact ⟨o, e, fun v z => by rw [d] at z; cases z⟩
 keep := fun i h h' st k => by
  obtain ⟨o, e, r⟩ := st
  exact ⟨o, k it (by simp) o e, r⟩
 item := by
  intro X hP hw hK hc i pins s σ H E I hf st hg
  subst hP hw hK
  obtain ⟨f0, f1, f2, f3, f4, f5⟩ := hf it (by simp)
  have W : Walks X.prog X.w X.A it [it] [it] x.cps.size (SignAt x) (fun i h => h.IsStrIter it ty x t i) := by
   rcases hty with z | z
   ·subst z
    exact Walks.strAscii (I.ok.hd hc) it x t
   ·subst z
    exact Walks.strWide (I.ok.hd hc) it x t
  refine W.item i s _ _ hg st fun v h' tk hv st' kk => ?_
  obtain ⟨c, u, hx, rfl⟩ := hv
  have I1 : Inv X pins σ H { s with heap := h', toks := tk } := I.turned (fun b o hb e => kk b o (by simpa using hb) e) f0 f1 f3 f4 f5
  obtain ⟨o, e, cc, d⟩ := id st'
  exact ⟨_, rfl, go_of (s := { s with heap := h', toks := tk }) e cc d (by rcases hty with z | z <;> (subst z; decide)) ⟨.str ⟨#[c]⟩, H, I1, ⟨u, rfl⟩, ⟨rfl, c, hx, rfl⟩, st', fun b hb => (hf b hb).1⟩⟩
 done := by
  intro X hP hw hK hc i pins s σ H E I hf st hg
  subst hP hw hK
  obtain ⟨f0, f1, f2, f3, f4, f5⟩ := hf it (by simp)
  have W : Walks X.prog X.w X.A it [it] [it] x.cps.size (SignAt x) (fun i h => h.IsStrIter it ty x t i) := by
   rcases hty with z | z
   ·subst z
    exact Walks.strAscii (I.ok.hd hc) it x t
   ·subst z
    exact Walks.strWide (I.ok.hd hc) it x t
  have e : i = x.cps.size := hg
  subst e
  exact W.done s _ _ st fun h' tk kk => ⟨rfl, I.turned (fun b o hb e => kk b o (by simpa using hb) e) f0 f1 f3 f4 f5⟩
 self := fun _ _ _ _ _ st h => by
  rcases hty with z | z
  ·subst z
   exact wpAny_pyIter_striter_ascii st h
  ·subst z
   exact wpAny_pyIter_striter_wide st h
section
variable {X : Cx} {tg : Expr}
def iStr (tl : TE) : TI := fun σ H R => tl σ H fun x H1 => ∃ z, x = .str z ∧ R (Its z) H1
theorem pi_str {l : Expr} {tl : TE} (hl : PE X l tl) : PI X tg l (iStr tl) := by
 intro pins s σ H R I h
 refine thn (hl pins s σ H _ I h) fun v s1 ⟨x, H1, I1, r1, q1⟩ => ?_
 obtain ⟨z, e, q⟩ := q1
 subst e
 obtain ⟨t, rfl⟩ := r1
 have go : ∀ (o : Obj) (ty : String), (ty = "str_ascii_iterator" ∨ ty = "str_iterator") → (s1.heap.push o).IsStrIter s1.heap.objs.size ty z t 0 → PIE X pins σ tg R (.ref s1.heap.objs.size) { s1 with heap := s1.heap.push o } := fun o ty hty st => by
  refine ⟨s1.heap.objs.size, [s1.heap.objs.size], _, _, H1, rfl, I1.kept (t' := s1.toks) fun b o e => Heap.get?_push_of_some _ e, turn_str _ z t hty, st, fun b hb => ?_, q⟩
  have e : b = s1.heap.objs.size := by simpa using hb
  subst e
  exact I1.fpOk (Nat.le_refl _) (I1.hok.fresh (Nat.le_refl _))
 cases ha : z.cps.all (· < 128)
 ·exact wpAny_pyIter_wide ha (go _ _ (.inr rfl) ⟨_, Heap.get?_push_size _ rfl, rfl, rfl⟩)
 ·exact wpAny_pyIter_ascii ha (go _ _ (.inl rfl) ⟨_, Heap.get?_push_size _ rfl, rfl, rfl⟩)
end
end Ty
set_option maxHeartbeats 4000000
namespace Ty
open PySem PySem.Spec PyProof.Rows L2
section
variable {prog : Program} {w : World} {A : Around} {E : Value → Shared → Prop}
end
def gLst (K : Frag) (n : Nat) (t : TGs) : TG := fun v σ H Q => ∃ a xs, v = .ref a ∧ SqL K H a xs ∧ xs.length = n ∧ t xs σ H Q
structure Mk0 (K : Frag) (C : Addr) : Prop where
 makes : PySem.W.makesIn K C = true
 init : PySem.W.findIn K (.ref C) "__init__" = some (some (.builtin "object.__init__"))
 kp : keepIn K (.ref C) = true
def tMk0 (C : Addr) : TE := fun _ H Q => ∀ x dx, H x = none → H dx = none → dx ≠ x → Q (.ref x) (upd (upd H dx (.own x)) x (.ins C dx []))
section
variable {X : Cx}
theorem run_mk0 {pins : List (Addr × Obj)} {σ : L2.St} {H : Hp} {s : Shared} {Q : VK} {C : Addr} (M : Mk0 X.K C) (I : Inv X pins σ H s) (h : tMk0 C σ H Q) : wpAny (model X.prog X.w) X.A (call (.ref C) []) (EP X pins σ Q) X.xe s := by
 have hq := h (s.heap.objs.size + 1) s.heap.objs.size (I.hok.fresh (Nat.le_succ _)) (I.hok.fresh (Nat.le_refl _)) (Nat.ne_of_lt (Nat.lt_succ_self _))
 have I2 := Inv.made (C := C) I
 have Y := PySem.W.makes_of (M := model X.prog X.w) I.kIn M.makes
 refine wpAny_call (make_map0 I.kIn M.makes M.init (fun self => PySem.W.Looks.of_pure (PySem.W.oi_bind self)) ?_)
 have ho : ((s.heap.push PySem.W.emptyDict).push (PySem.W.instObj C s.heap.objs.size)).get? (s.heap.objs.size + 1) = some (PySem.W.instObj C s.heap.objs.size) := by
  have := Heap.get?_push_size (s.heap.push PySem.W.emptyDict) (o := PySem.W.instObj C s.heap.objs.size) rfl
  rwa [Heap.size_push] at this
 have t1 : PySem.W.Looks (model X.prog X.w) ((s.heap.push PySem.W.emptyDict).push (PySem.W.instObj C s.heap.objs.size)) (typeOf (.ref (s.heap.objs.size + 1))) (.ref C) := (PySem.W.Looks.ld ho).andThen .now
 have t2 : PySem.W.Looks (model X.prog X.w) ((s.heap.push PySem.W.emptyDict).push (PySem.W.instObj C s.heap.objs.size)) (isInstance (.ref (s.heap.objs.size + 1)) (.type "object")) true :=
  t1.andThen (Y.top.keeps fun b o e => Heap.get?_push_of_some _ (Heap.get?_push_of_some _ e))
 refine codeAny_call_builtin PySem.W.oi_plain PySem.W.entry_oi (@PySem.W.check_slot (model X.prog X.w) _ _ _ "object.__init__" "object" "__init__" (.ref (s.heap.objs.size + 1)) [] [] _ PySem.W.oi_kind PySem.W.oi_split t2 (PySem.W.oi_args (.ref (s.heap.objs.size + 1))) ?_)
 rw [PySem.W.oi_run]
 exact wpAny_pure (And.intro rfl ⟨V.ref (s.heap.objs.size + 1), _, I2, rfl, hq⟩)
theorem pe_mk0 {x : Str} {p pos : Pos} {C : Addr} (M : Mk0 X.K C) (hg : Gl X x) (hm : X.mg x = some (.ref C)) (hdb : (x == ("__debug__" : Str)) = false := by decide) : PE X (.Call (.Name x p) [] [] pos) (tMk0 C) := by
 intro pins s σ H Q I h
 refine wpAny_Call_Name_kw (ld_glob I hg hm ?_ hdb)
 exact PySem.W.callWith_K0 I.kIn M.kp (run_mk0 M I h)
end
structure MtdOk (P : Program) (w : World) (K : Frag) (mg : Str → Option Value) (base : Heap) (CX : CXT) (k : Nat) (C : Addr) (m : Str) (ps : List Str) (sp : Sp) : Prop where
 ex : ∃ (f : Addr) (fd : FuncData), Cls K C ∧ Meth K C m f ∧ FnOk P w K mg base CX k f fd ps sp ∧ Binds K fd ps []
theorem MtdOk.mono {P : Program} {w : World} {K : Frag} {mg : Str → Option Value} {base : Heap} {CX : CXT} {j k : Nat} {C : Addr} {m : Str} {ps : List Str} {sp : Sp} (M : MtdOk P w K mg base CX j C m ps sp) (h : j ≤ k) : MtdOk P w K mg base CX k C m ps sp := by
 obtain ⟨f, fd, a, b, c, d⟩ := M.ex
 exact ⟨f, fd, a, b, c.mono h, d⟩
section
variable {X : Cx} {CX : CXT} {k : Nat} {E : XK} {m : Str} {pos apos : Pos} {e o : Expr} {es : List Expr} {ta : TE} {t : TA}
def tMtd (P : Program) (w : World) (K : Frag) (mg : Str → Option Value) (base : Heap) (CX : CXT) (k : Nat) (m : Str) (E : XK) (ta : TE) (t : TA) : TE := fun σ H Q => ta σ H fun x H1 => ∃ a C dx fs ps sp, x = .ref a ∧ H1 a = some (.ins C dx fs) ∧ fs.lookup m = none ∧
 MtdOk P w K mg base CX k C m ps sp ∧ t σ H1 fun vs H2 => sp (x :: vs) H2 Q E
theorem pe_mtd0 {pl : Sem Bool} (he : PE X o ta) (hr : Room k X.A) (hx : Passes CX X E)
  (ht : eval (.Call (.Attribute o m apos) [] [] pos) X.env = (do
   let ov ← eval o X.env
   standAt apos.atName
   let (f, first) ← holding [ov] (getMethod ov m pl)
   callWith pos f first (backTo pos (starEach [] X.env)) (backToKw pos (keywordEach [] X.env))) := by rfl) :
  PE X (.Call (.Attribute o m apos) [] [] pos) (tMtd X.prog X.w X.K X.mg X.base CX k m E ta tNil) := by
 intro pins s σ H Q I h
 refine PySem.W.methodCall_KW (pl := pl) (thn (he pins s σ H _ I h) fun u s1 ⟨x, H1, I1, rx, a, C, dx, fs, ps, sp, ex, ea, l, M, q⟩ => ?_) ht
 subst ex
 obtain rfl : u = Value.ref a := rx
 obtain ⟨f, fd, c, hm, F, hb⟩ := M.ex
 refine getmeth_ok I1 ea c hm l ?_
 exact PySem.W.callWith_K0 (first := [.ref a]) I1.kIn hm.kp (run_fn (us := [.ref a]) (vs := [.ref a]) (dvs := []) F hr hb .nil hx I1 (.cons rfl .nil) q)
theorem pe_mtd {pl : Sem Bool} (he : PE X o ta) (hr : Room k X.A) (hx : Passes CX X E) (ha : PA X (e :: es) t)
  (hst : starEach (e :: es) X.env = (false, eval e X.env) :: starEach es X.env := by rfl) (hpl : (backTo pos (starEach es X.env)).any (·.1) = false := by rfl)
  (ht : eval (.Call (.Attribute o m apos) (e :: es) [] pos) X.env = (do
   let ov ← eval o X.env
   standAt apos.atName
   let (f, first) ← holding [ov] (getMethod ov m pl)
   callWith pos f first (backTo pos (starEach (e :: es) X.env)) (backToKw pos (keywordEach [] X.env))) := by rfl) :
  PE X (.Call (.Attribute o m apos) (e :: es) [] pos) (tMtd X.prog X.w X.K X.mg X.base CX k m E ta t) := by
 intro pins s σ H Q I h
 refine PySem.W.methodCall_KW (pl := pl) (thn (he pins s σ H _ I h) fun u s1 ⟨x, H1, I1, rx, a, C, dx, fs, ps, sp, ex, ea, l, M, q⟩ => ?_) ht
 subst ex
 obtain rfl : u = Value.ref a := rx
 obtain ⟨f, fd, c, hm, F, hb⟩ := M.ex
 refine getmeth_ok I1 ea c hm l ?_
 refine PySem.W.callWith_K (first := [.ref a]) (h₀ := X.base) I.ok.mod.kin hm.kp (thn (ha pos pins s1 σ H1 _ I1 q) fun us s2 ⟨vs, H2, I2, r, q2⟩ => ⟨I2.kIn, ?_⟩) hst hpl
 refine run_fn (us := .ref a :: us) (vs := .ref a :: vs) (dvs := []) F hr hb .nil hx I2 (.cons rfl r) ?_
 rw [List.append_nil]
 exact q2
end
theorem passB {X : Cx} {CX : CXT} (h : Mute CX) (e : X.xe = fun _ _ => False) : Passes CX X E0 := fun _ _ _ _ _ _ _ q => (h _ _ _ _ _ q).elim
end Ty
set_option maxHeartbeats 4000000
namespace Ty
open PySem PySem.Spec PyProof.Rows L2
section
variable {σ : L2.St} {H : Hp} {Q : VK} {QB : Bool → Hp → Prop} {QA : List V → Hp → Prop} {D : Ends} {t u : TS} {ta tb te : TE} {tc td : TT} {t1 : TA}
theorem rd_itNT {A B : Prop} (h : B) : if (!true) = true then A else B := iteF h
theorem rd_itNF {A B : Prop} (h : A) : if (!false) = true then A else B := iteT h
end
end Ty
set_option maxHeartbeats 4000000
namespace Ty
open PySem PySem.Spec PyProof.Rows L2
theorem joins_mono {M : Model} {A : Around} {E : Value → Shared → Prop} : ∀ {es : List (Sem Value)} {acc : Str} {Q Q' : Str → Shared → Prop} {s : Shared}, Joins M A E es acc Q s → (∀ o s', Q o s' → Q' o s') → Joins M A E es acc Q' s
 | [], _, _, _, _, h, m => m _ _ h
 | _ :: _, _, _, _, _, h, m => wpAny_mono h (fun v s1 ⟨y, t, e, l, r⟩ => ⟨y, t, e, l, joins_mono r m⟩) fun _ _ z => z
section
variable {X : Cx}
def tFmt (te : TE) : TE := fun σ H Q => te σ H fun x H1 => ∃ z, x = .str z ∧ z.length ≤ sizeLine ∧ Q (.str z) H1
theorem pe_fmt {e : Expr} {te : TE} {pos : Pos} (he : PE X e te) : PE X (.FormattedValue e (-1) none pos) (tFmt te) := by
 intro pins s σ H Q I h
 refine wpAny_FormattedValue_plain (thn (he pins s σ H _ I h) fun v s1 ⟨x, H1, I1, r1, q1⟩ => ?_)
 obtain ⟨z, rfl, hz, q⟩ := q1
 obtain ⟨t, rfl⟩ := r1
 exact wpAny_formatField_str ⟨.str z, H1, I1, ⟨_, rfl⟩, q⟩ ⟨.str z, H1, I1.tok _, ⟨_, rfl⟩, q⟩ hz
abbrev TJ := L2.St → Hp → (List Str → Hp → Prop) → Prop
def PJ (X : Cx) (es : List Expr) (t : TJ) : Prop :=
 ∀ (pins : List (Addr × Obj)) (s : Shared) (σ : L2.St) (H : Hp) (acc : Str) (Q : List Str → Hp → Prop), Inv X pins σ H s → acc.length + 5000 * es.length ≤ sizeLine → t σ H Q →
  Joins (model X.prog X.w) X.A X.xe (evalEach es X.env) acc (fun out s1 => ∃ ys H1, Inv X pins σ H1 s1 ∧ out = ys.foldl (· ++ ·) acc ∧ out.length ≤ sizeLine ∧ Q ys H1) s
def jNil : TJ := fun _ H Q => Q [] H
def jCons (te : TE) (t : TJ) : TJ := fun σ H Q => te σ H fun x H1 => ∃ z, x = .str z ∧ z.length ≤ 5000 ∧ t σ H1 fun ys H2 => Q (z :: ys) H2
theorem pj_nil : PJ X [] jNil := fun pins s σ H acc Q I hb h => ⟨[], H, I, rfl, by simpa using hb, h⟩
theorem pj_cons {e : Expr} {es : List Expr} {te : TE} {t : TJ} (he : PE X e te) (hr : PJ X es t) (hs : evalEach (e :: es) X.env = eval e X.env :: evalEach es X.env := by rfl) : PJ X (e :: es) (jCons te t) := by
 intro pins s σ H acc Q I hb h
 rw [hs]
 refine thn (he pins s σ H _ I h) fun v s1 ⟨x, H1, I1, r1, q1⟩ => ?_
 obtain ⟨z, rfl, hz, q⟩ := q1
 obtain ⟨u, rfl⟩ := r1
 have hb' : acc.length + 5000 * (es.length + 1) ≤ sizeLine := hb
 have hl : (acc ++ z).length = acc.length + z.length := strLen_append ..
 refine ⟨z, u, rfl, by rw [hl]; omega, joins_mono (hr pins s1 σ H1 (acc ++ z) _ I1 (by rw [hl]; omega) q) fun o s' ⟨ys, H2, I2, e, l, q2⟩ => ⟨z :: ys, H2, I2, e, l, q2⟩⟩
def tJoin (t : TJ) : TE := fun σ H Q => t σ H fun ys H1 => Q (.str (ys.foldl (· ++ ·) Str.empty)) H1
theorem pe_join {v1 v2 : Expr} {rest : List Expr} {pos : Pos} {t : TJ} (h : PJ X (v1 :: v2 :: rest) t) (hl : 5000 * (v1 :: v2 :: rest).length ≤ sizeLine := by decide) : PE X (.JoinedStr (v1 :: v2 :: rest) pos) (tJoin t) := by
 intro pins s σ H Q I q
 refine wpAny_JoinedStr (joins_mono (h pins s σ H Str.empty _ I (by rw [show Str.empty.length = 0 from rfl]; omega) q) fun o s' ⟨ys, H1, I1, e, l, q1⟩ => ⟨l, .str o, H1, I1.tok _, ⟨_, rfl⟩, ?_⟩)
 rw [e]
 exact q1
def rStarts : V → List V → Hp → VK → Prop := fun x vs H Q => ∃ z y, x = .str z ∧ vs = [.str y] ∧ Q (.bl (Txt.startswith z y)) H
theorem mt_startswith : MtR X "str.startswith" rStarts := by
 intro pins s σ H x vs v us Q I rx rv h
 obtain ⟨z, y, rfl, rfl, q⟩ := h
 obtain ⟨t, rfl⟩ := rx
 obtain ⟨u, rfl, ru⟩ := rv.one
 obtain ⟨t', rfl⟩ := ru
 exact SC.startswith ⟨.bl _, H, I, rfl, q⟩
def rFind : V → List V → Hp → VK → Prop := fun x vs H Q => ∃ z y, x = .str z ∧ vs = [.str y] ∧ Q (.int (Txt.find z y)) H
def rPartition : V → List V → Hp → VK → Prop := fun x vs H Q => ∃ z y, x = .str z ∧ vs = [.str y] ∧ (y.length == 0) = false ∧ z.length ≤ sizeLine ∧
 ∀ p, H p = none → Q (.ref p) (upd H p (.tup [.str (Txt.partition z y).1, .str (Txt.partition z y).2.1, .str (Txt.partition z y).2.2]))
theorem mt_partition : MtR X "str.partition" rPartition := by
 intro pins s σ H x vs v us Q I rx rv h
 obtain ⟨z, y, rfl, rfl, hy, hz, q⟩ := h
 obtain ⟨t, rfl⟩ := rx
 obtain ⟨u, rfl, ru⟩ := rv.one
 obtain ⟨t', rfl⟩ := ru
 refine call_meets F.slot_str_partition (typeIs_str _ _ _) F.entry_str_partition (F.args_str_partition_2 _ _) (meets_str_partition z y t t' hy hz) ?_
 have sz : (3 : Nat) ≤ sizeLine := by decide
 have q' := q s.heap.objs.size (I.hok.fresh (Nat.le_refl _))
 unfold Txt.partition at q'
 revert q'
 cases Builtin.Str.occurrences z y 0 z.length 1 with
 | nil =>
  intro q'
  refine ⟨.ref s.heap.objs.size, _, I.laid (t' := s.toks + 1) (fun b o e => Heap.get?_push_of_some _ e) (Nat.le_refl _) (show ObjOk X.prog X.w _ _ _ (.tup [.str z, .str Str.empty, .str Str.empty]) from ⟨sz, [.str z t, .str Str.empty s.toks, .str Str.empty s.toks], .cons ⟨_, rfl⟩ (.cons ⟨_, rfl⟩ (.cons ⟨_, rfl⟩ .nil)), IsTup.new _ _⟩), rfl, q'⟩
 | cons i r =>
  intro q'
  refine ⟨.ref s.heap.objs.size, _, I.laid (t' := s.toks + 1 + 1) (fun b o e => Heap.get?_push_of_some _ e) (Nat.le_refl _) (show ObjOk X.prog X.w _ _ _ (.tup [.str (Builtin.Str.strSub z 0 i), .str y, .str (Builtin.Str.strSub z (i + y.length) z.length)]) from ⟨sz, [.str (Builtin.Str.strSub z 0 i) s.toks, .str y t', .str (Builtin.Str.strSub z (i + y.length) z.length) (s.toks + 1)], .cons ⟨_, rfl⟩ (.cons ⟨_, rfl⟩ (.cons ⟨_, rfl⟩ .nil)), IsTup.new _ _⟩), rfl, q'⟩
def rSlS : V → Option Int → Option Int → Hp → VK → Prop := fun x lo hi H Q => ∃ z, x = .str z ∧ z.length ≤ sizeLine ∧ Q (.str (Txt.slice z lo hi)) H
theorem sl_str : SlR X rSlS := by
 intro pins s σ H x v vl vu lo hi sl Q I rx hs pl pu h
 obtain ⟨z, rfl, hz, q⟩ := h
 obtain ⟨t, rfl⟩ := rx
 refine ⟨"str", _, F.slot_str_getitem.lookup, typeIs_str _ _ _, ?_⟩
 cases pl <;> cases pu
 ·exact wpAny_getItem_str_slice (l := none) (u := none) (st := none) hs rfl (post_val_or_str ⟨Nat.le_trans (Txt.slice_le z _ _) hz, fun t' k => ⟨.str _, H, I.tok k, ⟨t', rfl⟩, q⟩⟩)
 ·rename_i j uj
  exact wpAny_getItem_str_slice (l := none) (u := some (j, uj)) (st := none) hs rfl (post_val_or_str ⟨Nat.le_trans (Txt.slice_le z _ _) hz, fun t' k => ⟨.str _, H, I.tok k, ⟨t', rfl⟩, q⟩⟩)
 ·rename_i i ui
  exact wpAny_getItem_str_slice (l := some (i, ui)) (u := none) (st := none) hs rfl (post_val_or_str ⟨Nat.le_trans (Txt.slice_le z _ _) hz, fun t' k => ⟨.str _, H, I.tok k, ⟨t', rfl⟩, q⟩⟩)
 ·rename_i i ui j uj
  exact wpAny_getItem_str_slice (l := some (i, ui)) (u := some (j, uj)) (st := none) hs rfl (post_val_or_str ⟨Nat.le_trans (Txt.slice_le z _ _) hz, fun t' k => ⟨.str _, H, I.tok k, ⟨t', rfl⟩, q⟩⟩)
def rIntText : List V → Hp → VK → Prop := fun xs H Q => ∃ z n, xs = [.str z] ∧ PySem.intText? z = some n ∧ z.length ≤ 640 ∧ Q (.int n) H
theorem call_int_text : CallR X (.type "int") rIntText := by
 intro pins s σ H xs us Q I r h
 obtain ⟨z, n, rfl, e, hl, q⟩ := h
 obtain ⟨u, rfl, t, rfl⟩ := vals1 r
 exact PySem.W.KIN.call_text e hl ⟨.int n, H, I.tok _, ⟨_, rfl⟩, q⟩
def rMulS : R2 := fun x y H Q => ∃ z n, x = .str z ∧ y = .int n ∧ MulOk z n ∧ Q (.str (Txt.mul z n)) H
theorem op_mulS : OpR X (binaryOp .Mult) rMulS := by
 intro pins s σ H x y v u Q I rx ry h
 obtain ⟨z, n, rfl, rfl, ok, q⟩ := h
 obtain ⟨t, rfl⟩ := rx
 obtain ⟨t', rfl⟩ := ry
 exact SB.mul ok fun t' k => ⟨.str _, H, I.tok k, ⟨t', rfl⟩, q⟩
theorem all_range (bs : List Bool) : (List.range bs.length).all (fun i => (bs[i]?).getD true) = bs.all id := by
 induction bs with
 | nil => rfl
 | cons b r ih =>
  rw [List.length_cons, List.range_succ_eq_map, List.all_cons, List.all_map, List.all_cons, ← ih]
  rfl
def rAll (K : Frag) : List V → Hp → VK → Prop := fun xs H Q => ∃ (p : Addr) (bs : List Bool), xs = [.ref p] ∧ SqL K H p (bs.map V.bl) ∧ Q (.bl (bs.all id)) H
theorem call_allB (hc : X.calm = true) : CallR X (.builtin "all") (rAll X.K) := by
 intro pins s σ H xs us Q I r h
 obtain ⟨p, bs, rfl, hq, q⟩ := h
 obtain ⟨u, rfl, r1⟩ := vals1 r
 cases r1
 obtain ⟨its, rv, pl, hz⟩ := I.list hq
 refine call_all_walk (wpAny_pyIter_list pl.isList ?_)
 have hne : p ≠ s.heap.objs.size := by obtain ⟨o, ho, _⟩ := pl.isList; exact Nat.ne_of_lt (Heap.lt_size ho)
 have I1 : Inv X pins σ H { s with heap := s.heap.push { cls := .type "list_iterator", data := .fields #[.ref p, .int 0 0] } } := I.kept (t' := s.toks) fun b o e => Heap.get?_push_of_some _ e
 obtain ⟨f0, f1, f2, f3, f4, f5⟩ := I.fpOk (H' := H) (Nat.le_refl s.heap.objs.size) (I.hok.fresh (Nat.le_refl _))
 have hl : its.length = bs.length := by rw [← rv.length, List.length_map]
 refine ⟨s.heap.objs.size, _, _, _, _, _, fun i => (bs[i]?).getD true, rfl, Walks.list (A := X.A.in1) (I.ok.hd hc) s.heap.objs.size p hne its.toArray, ⟨⟨_, Heap.get?_push_size _ rfl, rfl, rfl⟩, pl.isList.at fun o e => Heap.get?_push_of_some _ e⟩, ?_, fun h' tk kk => ?_⟩
 ·intro i v s' Q' E' hv hq'
  have hv' : its[i]? = some v := by simpa using hv
  have hi : i < bs.length := by rw [← hl]; exact (List.getElem?_eq_some_iff.mp hv').1
  have eb : (bs.map V.bl)[i]? = some (.bl bs[i]) := by rw [List.getElem?_map, gE hi]; rfl
  obtain ⟨u, eu, ru⟩ := rv.get eb
  rw [hv'] at eu
  cases eu
  cases ru
  dsimp only at hq'
  rw [gE hi] at hq'
  exact wpAny_truthy_bool hq'
 ·refine ⟨.bl (bs.all id), H, I1.turned (t' := tk) (it := s.heap.objs.size) (fun b o hb e => kk b o (by simpa using hb) e) f0 f1 f3 f4 f5, ?_, q⟩
  show _ = _
  rw [← all_range bs, List.size_toArray, hl]
end
end Ty
set_option maxHeartbeats 4000000
namespace Ty
open PySem PySem.Spec PyProof.Rows L2 PySem.NumText
theorem str_ext {x y : Str} (h : x.cps.toList = y.cps.toList) : x = y := by
 obtain ⟨a⟩ := x
 obtain ⟨b⟩ := y
 exact congrArg Str.mk (Array.toList_inj.mp h)
theorem cps_append (x y : Str) : (x ++ y).cps.toList = x.cps.toList ++ y.cps.toList := by
 show (x.cps ++ y.cps).toList = _
 simp
theorem len_cps (x : Str) : x.length = x.cps.toList.length := by simp [Str.length]
def dg (m : Nat) : List Nat := (Nat.toDigits 10 m).map Char.toNat
theorem code_digit : ∀ d : Nat, d < 10 → (Nat.digitChar d).toNat = 48 + d := by decide
theorem dg_lt {m : Nat} (h : m < 10) : dg m = [48 + m] := by
 unfold dg
 rw [Nat.toDigits_of_lt_base h]
 show [(Nat.digitChar m).toNat] = _
 rw [code_digit m h]
theorem dg_step {m : Nat} (h : 10 ≤ m) : dg m = dg (m / 10) ++ [48 + m % 10] := by
 have hm : m % 10 < 10 := Nat.mod_lt m (by decide)
 have t : Nat.toDigits 10 (m / 10) ++ Nat.toDigits 10 (m % 10) = Nat.toDigits 10 (10 * (m / 10) + m % 10) := Nat.toDigits_append_toDigits (by decide) (by omega) hm
 rw [Nat.div_add_mod] at t
 unfold dg
 rw [← t, List.map_append, Nat.toDigits_of_lt_base hm]
 show _ ++ [(Nat.digitChar (m % 10)).toNat] = _
 rw [code_digit _ hm]
theorem dg_val (m : Nat) : digitsVal (dg m) = m := PySem.W.KIN.val_back m
theorem dg_all (m : Nat) : AllDigits (dg m) := by
 induction m using Nat.strongRecOn with
 | _ m ih =>
  by_cases h : m < 10
  ·rw [dg_lt h]
   intro c hc
   have : c = 48 + m := by simpa using hc
   omega
  ·rw [dg_step (by omega)]
   intro c hc
   rcases List.mem_append.mp hc with z | z
   ·exact ih (m / 10) (by omega) c z
   ·have : c = 48 + m % 10 := by simpa using z
    omega
theorem dg_ne (m : Nat) : dg m ≠ [] := by
 by_cases h : m < 10
 ·rw [dg_lt h]; simp
 ·rw [dg_step (by omega)]; simp
theorem dg_len {m k : Nat} (hk : 1 ≤ k) (h : m < 10 ^ k) : (dg m).length ≤ k := by
 unfold dg
 rw [List.length_map]
 exact toDigits_len_pow (by decide) hk h
def tx (n : Int) : Str := Str.ofString (toString n)
theorem tx_nat (m : Nat) : (tx (m : Int)).cps.toList = dg m := PySem.W.KIN.signs_num m
theorem tx_neg {m : Nat} (h : 0 < m) : (tx (-(m : Int))).cps.toList = 45 :: dg m := by
 obtain ⟨k, rfl⟩ : ∃ k, m = k + 1 := ⟨m - 1, by omega⟩
 unfold tx
 rw [signs_ofString]
 show (Int.repr (Int.negSucc k)).toList.map Char.toNat = _
 show (("-" ++ Nat.repr (k + 1)) : String).toList.map Char.toNat = _
 rw [String.toList_append, List.map_append, Nat.toList_repr]
 rfl
theorem tx_cps (n : Int) : (tx n).cps.toList = if n < 0 then 45 :: dg n.natAbs else dg n.natAbs := by
 by_cases h : n < 0
 ·rw [if_pos h]
  have e : n = -((n.natAbs : Nat) : Int) := by omega
  have := tx_neg (m := n.natAbs) (by omega)
  rw [← e] at this
  exact this
 ·rw [if_neg h]
  have e : n = ((n.natAbs : Nat) : Int) := by omega
  have := tx_nat n.natAbs
  rw [← e] at this
  exact this
theorem tx_len {n : Int} {k : Nat} (hk : 1 ≤ k) (h : n.natAbs < 10 ^ k) : (tx n).length ≤ k + 1 := by
 rw [len_cps, tx_cps]
 have := dg_len hk h
 split
 ·rw [List.length_cons]; omega
 ·omega
theorem tx_reads {n : Int} (h : n.natAbs < 10 ^ 4000) : intText? (tx n) = some n := by
 have hl := tx_len (by decide) h
 by_cases c : n < 0
 ·have e := tx_cps n
  rw [if_pos c] at e
  rw [intText_neg e (dg_all _) (dg_ne _) (Nat.le_trans hl (by decide)), dg_val]
  congr 1
  omega
 ·have e := tx_cps n
  rw [if_neg c] at e
  have a : AllDigits (tx n).cps.toList := by rw [e]; exact dg_all _
  rw [intText_digits a (by rw [e]; exact dg_ne _) (Nat.le_trans hl (by decide)), e, dg_val]
  congr 1
  omega
theorem tx_no {n : Int} {c : Nat} (h : c ≠ 45) (h2 : c < 48 ∨ 57 < c) : c ∉ (tx n).cps.toList := by
 intro m
 rw [tx_cps] at m
 split at m
 ·rcases List.mem_cons.mp m with z | z
  ·exact h z
  ·have := dg_all _ c z
   omega
 ·have := dg_all _ c m
  omega
def slash : Str := Str.ofString "/"
theorem slash_cps : slash.cps.toList = [47] := by decide +kernel
def nt (q : Int × Int) : Str := if q.2 = 1 then tx q.1 else tx q.1 ++ slash ++ tx q.2
theorem part_at {a b : Str} (h : 47 ∉ a.cps.toList) : Txt.partition (a ++ (⟨#[47]⟩ : Str) ++ b) ⟨#[47]⟩ = (a, ⟨#[47]⟩, b) := by
 have ec : (a ++ (⟨#[47]⟩ : Str) ++ b).cps.toList = a.cps.toList ++ (47 :: b.cps.toList) := by
  rw [cps_append, cps_append, List.append_assoc]
  rfl
 rcases partition_whole (a ++ (⟨#[47]⟩ : Str) ++ b) ⟨#[47]⟩ with ⟨_, hn⟩ | ⟨i, e, hi, hk⟩
 ·exfalso
  have : (47 : Nat) ∈ (a ++ (⟨#[47]⟩ : Str) ++ b).cps.toList := by rw [ec]; simp
  obtain ⟨i, hi⟩ := (mem_iff_at _ 47).mp this
  exact hn i hi
 ·have h1 := (StrLaws.subAt_one _ 47 i).mp hi
  have h2 : ¬ i < a.cps.toList.length := fun c => by
   rw [ec, List.getElem?_append_left c] at h1
   exact h (List.mem_of_getElem? h1)
  have h3 : ¬ a.cps.toList.length < i := fun c => by
   refine hk a.cps.toList.length c ((StrLaws.subAt_one _ 47 _).mpr ?_)
   rw [ec, List.getElem?_append_right (Nat.le_refl _), Nat.sub_self]
   rfl
  have ei : i = a.cps.toList.length := by omega
  rw [e]
  have l : (a ++ (⟨#[47]⟩ : Str) ++ b).length = a.cps.toList.length + 1 + b.cps.toList.length := by
   rw [len_cps, ec, List.length_append, List.length_cons]
   omega
  have sub : ∀ (x : Str) (i j : Nat), (Builtin.Str.strSub x i j).cps.toList = (x.cps.toList.take j).drop i := fun x i j => by
   show (x.cps.extract i j).toList = _
   simp [List.extract_eq_drop_take', Array.toList_extract]
  have l1 : (⟨#[47]⟩ : Str).length = 1 := rfl
  have p1 : Builtin.Str.strSub (a ++ (⟨#[47]⟩ : Str) ++ b) 0 i = a := str_ext (by
   rw [sub, ec, ei, List.drop_zero, List.take_left' rfl])
  have p2 : Builtin.Str.strSub (a ++ (⟨#[47]⟩ : Str) ++ b) (i + (⟨#[47]⟩ : Str).length) (a ++ (⟨#[47]⟩ : Str) ++ b).length = b := str_ext (by
   rw [sub, l, l1, ec, ei]
   rw [List.take_of_length_le (by rw [List.length_append, List.length_cons]; omega)]
   rw [show a.cps.toList ++ (47 :: b.cps.toList) = (a.cps.toList ++ [47]) ++ b.cps.toList by simp]
   rw [List.drop_left' (by simp)])
  rw [p1, p2]
theorem one_sign (c : Nat) : (⟨#[c]⟩ : Str).length = 1 := rfl
theorem in_one (x : Str) (c : Nat) : (!(Builtin.Str.occurrences x ⟨#[c]⟩ 0 x.length 1).isEmpty) = decide (c ∈ x.cps.toList) := by
 rcases StrLaws.occ_head x ⟨#[c]⟩ 1 (Nat.le_refl 1) with ⟨h0, hn⟩ | ⟨i, r, h0, hi, _⟩
 ·rw [h0, decide_eq_false fun m => by obtain ⟨i, hi⟩ := (mem_iff_at x c).mp m; exact hn i hi]
  rfl
 ·rw [h0, decide_eq_true ((mem_iff_at x c).mpr ⟨i, hi⟩)]
  rfl
theorem starts_one {x : Str} {c d : Nat} {cs : List Nat} (h : x.cps.toList = d :: cs) : Txt.startswith x ⟨#[c]⟩ = decide (d = c) := by
 have hl : x.length = cs.length + 1 := by rw [len_cps, h]; rfl
 unfold Txt.startswith
 have e1 : decide (0 + (⟨#[c]⟩ : Str).length ≤ x.length) = true := decide_eq_true (by rw [one_sign, hl]; omega)
 rw [e1, Bool.true_and]
 by_cases e : d = c
 ·rw [decide_eq_true e]
  have : StrLaws.At x ⟨#[c]⟩ x.length 0 := (StrLaws.subAt_one x c 0).mpr (by rw [h, e]; rfl)
  exact this.2
 ·rw [decide_eq_false e]
  refine Bool.eq_false_iff.mpr fun z => e ?_
  have : StrLaws.At x ⟨#[c]⟩ x.length 0 := ⟨by rw [one_sign, hl]; omega, z⟩
  have := (StrLaws.subAt_one x c 0).mp this
  rw [h] at this
  exact Option.some.inj this
theorem slice_one {x : Str} {d : Nat} {cs : List Nat} (h : x.cps.toList = d :: cs) : (Txt.slice x (some 1) none).cps.toList = cs := by
 have hl : x.length = cs.length + 1 := by rw [len_cps, h]; rfl
 rw [slice_from_eq (i := 1) (b := (x.length : Int)) (by decide) (by rw [hl]; omega) rfl, h]
 show ((cs.take _).toArray).toList = cs
 rw [List.take_of_length_le (by rw [hl]; omega)]
theorem empty_app (x : Str) : Str.empty ++ x = x := str_ext (by rw [cps_append]; rfl)
theorem figs_mem {c : Nat} (h : 48 ≤ c ∧ c ≤ 57) : c ∈ (Str.ofString "0123456789").cps.toList := by
 have e : (Str.ofString "0123456789").cps.toList = [48, 49, 50, 51, 52, 53, 54, 55, 56, 57] := by decide +kernel
 rw [e]
 simp
 omega
end Ty
set_option maxHeartbeats 4000000
namespace Ty
open PySem PySem.Spec PyProof.Rows L2 PySem.NumText
structure Txk (x : Str) : Prop where
 len : x.length ≤ 400
 cod : ∀ c ∈ x.cps.toList, c < 1000
section
variable {X : Cx}
def tRep (te : TE) : TE := fun σ H Q => te σ H fun x H1 => ∃ z, x = .str z ∧ Txk z ∧ ∀ y : Str, y.length ≤ 5000 → Q (.str y) H1
theorem pe_rep {e : Expr} {te : TE} {pos : Pos} (he : PE X e te) : PE X (.FormattedValue e 114 none pos) (tRep te) := by
 intro pins s σ H Q I h
 refine wpAny_FormattedValue_repr (thn (he pins s σ H _ I h) fun v s1 ⟨x, H1, I1, r1, q1⟩ => ?_)
 obtain ⟨z, rfl, hz, q⟩ := q1
 obtain ⟨t, rfl⟩ := r1
 have l1 := StrLaws.reprText_len z (fun c hc => Nat.lt_of_lt_of_le (hz.cod c hc) (by decide))
 have l2 := hz.len
 have l3 : (reprText z).length ≤ 5000 := by omega
 have l4 : (reprText z).length ≤ sizeLine := Nat.le_trans l3 (by decide)
 refine wpAny_pyReprObj_str ?_ l4
 have I2 : Inv X pins σ H1 { s1 with toks := s1.toks + 1 } := I1.tok _
 exact wpAny_formatField_str ⟨.str _, H1, I2, ⟨_, rfl⟩, q _ l3⟩ ⟨.str _, H1, I2.tok _, ⟨_, rfl⟩, q _ l3⟩ l4
theorem strsAre_of : ∀ {ys : List Str} {us : List Value}, Vals (ys.map V.str) us → StrsAre us ys
 | [], [], .nil => .nil
 | _ :: _, _ :: _, .cons ⟨t, e⟩ r => by subst e; exact .cons _ _ (strsAre_of r)
def rJoinL (K : Frag) : V → List V → Hp → VK → Prop := fun x vs H Q => ∃ (z : Str) (p : Addr) (ys : List Str), x = .str z ∧ vs = [.ref p] ∧ SqL K H p (ys.map V.str) ∧ (ys.map (·.length)).sum + ys.length * z.length ≤ 16777216 ∧ Q (.str (Txt.join z ys)) H
theorem mt_join : MtR X "str.join" (rJoinL X.K) := by
 intro pins s σ H x vs v us Q I rx rv h
 obtain ⟨z, p, ys, rfl, rfl, hq, hl, q⟩ := h
 obtain ⟨t, rfl⟩ := rx
 obtain ⟨u, rfl, ru⟩ := rv.one
 cases ru
 obtain ⟨its, r, pl, hz⟩ := I.list hq
 exact join_list pl.isList (strsAre_of (by simpa using r)) hl fun t' k => ⟨.str _, H, I.tok k, ⟨t', rfl⟩, q⟩
end
def isStar : Expr → Bool
 | .Starred .. => true
 | _ => false
theorem star_cons {e : Expr} {es : List Expr} {env : Env} (h : isStar e = false) : starEach (e :: es) env = (false, eval e env) :: starEach es env := by
 cases e <;> first | rfl | (cases h; done)
theorem pac {X : Cx} {e : Expr} {es : List Expr} {te : TE} {t : TA} (ha : PE X e te) (hr : PA X es t) (h : isStar e = false := by rfl) : PA X (e :: es) (tCons te t) := pa_cons ha hr (star_cons h)
def writs : List Expr → Option (List Str)
 | [] => some []
 | .Constant (.str x) _ _ :: r => (writs r).map (x :: ·)
 | _ => none
def tStrs (xs : List Str) : TA := fun _ H Q => Q (xs.map V.str) H
end Ty
set_option maxHeartbeats 4000000
namespace Ty
open PySem PySem.Spec PyProof.Rows L2
section
variable {D : Addr} {te : TE} {cap : L2.St} {H1 : Hp} {Q : VK}
def KSame (D : Addr) (H H' : Hp) : Prop := ∀ b o, b ≠ D → H b = some o → H' b = some o
theorem KSame.of {H H' : Hp} (s : Same H H') : KSame D H H' := fun b o _ e => s b o e
theorem KSame.upd {H : Hp} {o : HO} : KSame D H (upd H D o) := fun b o' n e => by rw [upd_ne n]; exact e
theorem comp_gen {J : It} (n : Nat) (xs : Nat → V) (Rel : Nat → V → Hp → Prop) (nD : H1 D = none) (hn : n < sizeLine)
  (go : ∀ i H, i < n → Same H1 H → J.go i H ∧ ∀ x H', J.yld i H x H' → H' = H ∧ x = xs i) (stop : ∀ H, Same H1 H → J.stop n H)
  (hR : ∀ i v H H' ys, H D = some (.lst ys) → KSame D H H' → Rel i v H → Rel i v H')
  (he : ∀ i H (R : VK), i < n → Same H1 H → (∀ v H6, Same H H6 → Rel i v H6 → R v H6) → te (some (xs i) :: cap) H R)
  (hd : ∀ ys H, ys.length = n → (∀ i v, ys[i]? = some v → Rel i v H) → Same H1 H → H D = some (.lst ys) → Q (.ref D) H) :
  tBlk D (gName 0) tYes te J (none :: cap) H1 Q := by
 refine blk_of n xs (fun i ys H => ys.length = i ∧ (∀ i v, ys[i]? = some v → Rel i v H) ∧ Same H1 H) ⟨rfl, fun i v e => by simp at e, fun b o e => by rw [upd_ne (ne_of_none e nD)]; exact e⟩ ?_ ?_ ?_ ?_
 ·rintro i ys H hi ⟨_, _, s⟩
  exact go i H hi s
 ·rintro ys H ⟨_, _, s⟩
  exact stop H s
 ·rintro i ys H R hi ⟨l, r, s⟩ hD k
  refine he i H R hi s fun v H6 s6 rv => k v H6 (s6 _ _ hD) (by omega) ⟨by simp [l], fun j u e => ?_, fun b o e => ?_⟩
  ·by_cases c : j < ys.length
   ·rw [List.getElem?_append_left c] at e
    have ru := hR j u H H6 ys hD (KSame.of s6) (r j u e)
    exact hR j u H6 _ ys (s6 _ _ hD) KSame.upd ru
   ·rw [List.getElem?_append_right (by omega)] at e
    have ej : j = i := by
     by_cases z : j - ys.length = 0
     ·omega
     ·rw [List.getElem?_eq_none (by simp; omega)] at e
      cases e
    subst ej
    have : v = u := by
     rw [show j - ys.length = 0 by omega] at e
     exact Option.some.inj e
    subst this
    exact hR j v H6 _ ys (s6 _ _ hD) KSame.upd rv
  ·rw [upd_ne (ne_of_none e nD)]
   exact s6 _ _ (s _ _ e)
 ·rintro ys H ⟨l, r, s⟩ hD
  exact hd ys H l r s hD
theorem comp_list {K : Frag} {a : Addr} {xs : List V} (Rel : Nat → V → Hp → Prop) (nD : H1 D = none) (hn : xs.length < sizeLine) (hS : ∀ H, Same H1 H → SqL K H a xs)
  (hR : ∀ i v H H' ys, H D = some (.lst ys) → KSame D H H' → Rel i v H → Rel i v H')
  (he : ∀ i x H (R : VK), xs[i]? = some x → Same H1 H → (∀ v H6, Same H H6 → Rel i v H6 → R v H6) → te (some x :: cap) H R)
  (hd : ∀ ys H, ys.length = xs.length → (∀ i v, ys[i]? = some v → Rel i v H) → Same H1 H → H D = some (.lst ys) → Q (.ref D) H) :
  tBlk D (gName 0) tYes te (Itl K a) (none :: cap) H1 Q := by
 refine comp_gen xs.length (fun i => (xs[i]?).getD .non) Rel nD hn (fun i H hi s => ⟨⟨xs, xs[i], hS H s, gE hi⟩, fun x H' y => ⟨y.1, ?_⟩⟩) (fun H s => ⟨xs, hS H s, Nat.le_refl _⟩) hR (fun i H R hi s k => ?_) hd
 ·rw [y.2 xs (hS H s)]; rfl
 ·have e : xs[i]? = some xs[i] := gE hi
  have k' := he i _ H R e s k
  rw [← (show (xs[i]?).getD .non = xs[i] by rw [e]; rfl)] at k'
  exact k'
theorem comp_range {lo : Int} {n : Nat} (Rel : Nat → V → Hp → Prop) (nD : H1 D = none) (hn : n < sizeLine)
  (hR : ∀ i v H H' ys, H D = some (.lst ys) → KSame D H H' → Rel i v H → Rel i v H')
  (he : ∀ (i : Nat) H (R : VK), i < n → Same H1 H → (∀ v H6, Same H H6 → Rel i v H6 → R v H6) → te (some (.int (lo + i)) :: cap) H R)
  (hd : ∀ ys H, ys.length = n → (∀ i v, ys[i]? = some v → Rel i v H) → Same H1 H → H D = some (.lst ys) → Q (.ref D) H) :
  tBlk D (gName 0) tYes te (Itr lo n) (none :: cap) H1 Q :=
 comp_gen n (fun i => .int (lo + i)) Rel nD hn (fun i H hi s => ⟨hi, fun x H' y => y⟩) (fun H s => Nat.le_refl n) hR he hd
end
theorem slice_mem {x : Str} {l u : Option Int} {c : Nat} (h : c ∈ (Txt.slice x l u).cps.toList) : c ∈ x.cps.toList := by
 unfold Txt.slice at h
 split at h
 ·exact h
 ·rw [List.toList_toArray] at h
  obtain ⟨i, _, e⟩ := List.mem_filterMap.mp h
  exact Array.mem_toList_iff.mpr (Array.mem_of_getElem? e)
end Ty
set_option maxHeartbeats 4000000
namespace Ty
open PySem PySem.Spec PyProof.Rows L2
section
variable {X : Cx} {pins : List (Addr × Obj)} {σ : L2.St} {H : Hp} {s : Shared} {h' : Heap}
theorem Inv.turnedL {t' : Nat} {fp : List Addr} (I : Inv X pins σ H s) (k : ∀ b o, b ∉ fp → s.heap.get? b = some o → h'.get? b = some o) (hf : ∀ b ∈ fp, FpOk X pins H b) : Inv X pins σ H { s with heap := h', toks := t' } := by
 have nit : ∀ b u, H b = some u → b ∉ fp := fun b u e z => by rw [(hf b z).1] at e; cases e
 refine I.step (g' := s.gens) (d' := s.drawn) (ch := fp) (fun b hb => ?_) (fun b o _ _ hc e _ => k b o hc e) (fun b o _ _ hc e _ => ⟨o.slots, k b o hc e⟩) (fun _ _ _ _ n => n)
  (fun b o hc e => ⟨o, k b o hc e⟩) (fun _ _ e => e) (fun _ _ _ e => e) (fun b ps e => ⟨#[], by rw [e]; simp⟩) (fun m hm => ?_) (fun b u e => ?_) I.bare
 ·obtain ⟨f0, f1, f2, f3, f4, f5⟩ := hf b hb
  exact ⟨f3, f1, f4, f5⟩
 ·obtain ⟨o, es, ep, ho, r⟩ := hm
  exact ⟨o, es, ep, k _ o (fun z => (hf _ z).2.1 rfl) ho, r⟩
 ·refine (I.hok b u e).stay (fun c v hc q => k c v ?_ q) (fun _ q => q) fun _ _ q => q
  rcases hc with z | z
  ·rw [z]; exact nit b u e
  ·exact nit c _ z
theorem Inv.turnedT {t' : Nat} {fp : List Addr} {T : Addr} {xs : List V} {its : List Value} (I : Inv X pins σ H s) (k : ∀ b o, b ∉ fp → s.heap.get? b = some o → h'.get? b = some o) (hf : ∀ b ∈ fp, FpOk X pins H b) (hT : s.heap.objs.size ≤ T)
  (hz : xs.length ≤ sizeLine) (rv : Vals xs its) (ht : IsTup h' T its.toArray) : Inv X pins σ (upd H T (.tup xs)) { s with heap := h', toks := t' } := by
 have hn := I.hok.fresh hT
 have nit : ∀ b u, H b = some u → b ∉ fp := fun b u e z => by rw [(hf b z).1] at e; cases e
 have ne : ∀ b o, s.heap.get? b = some o → b ≠ T := fun b o e => Nat.ne_of_lt (Nat.lt_of_lt_of_le (Heap.lt_size e) hT)
 refine I.step (g' := s.gens) (d' := s.drawn) (ch := fp) (fun b hb => ?_) (fun b o _ _ hc e _ => k b o hc e) (fun b o _ _ hc e _ => ⟨o.slots, k b o hc e⟩) (fun b o _ e n => by rw [upd_ne (ne b o e)]; exact n)
  (fun b o hc e => ⟨o, k b o hc e⟩) (fun b ys e => by rw [upd_ne (ne_of_none e hn)]; exact e) (fun b o u e => by rw [upd_ne (ne_of_none e hn)]; exact e) (fun b ps e => ⟨#[], by rw [upd_ne (ne_of_none e hn), e]; simp⟩) (fun m hm => ?_) (fun b u e => ?_) I.bare
 ·obtain ⟨f0, f1, f2, f3, f4, f5⟩ := hf b hb
  exact ⟨f3, f1, f4, f5⟩
 ·obtain ⟨o, es, ep, ho, r⟩ := hm
  exact ⟨o, es, ep, k _ o (fun z => (hf _ z).2.1 rfl) ho, r⟩
 ·by_cases hb : b = T
  ·subst hb
   rw [upd_same] at e
   cases e
   exact ⟨hz, its, rv, ht⟩
  ·rw [upd_ne hb] at e
   refine (I.hok b u e).stay (fun c v hc q => k c v ?_ q) (fun c q => by rw [upd_ne (ne_of_none q hn)]; exact q) fun c ys q => by rw [upd_ne (ne_of_none q hn)]; exact q
   rcases hc with z | z
   ·rw [z]; exact nit b u e
   ·exact nit c _ z
end
def Itz (K : Frag) (a b : Addr) : It :=
 ⟨fun i H => ∃ xs ys x y, SqL K H a xs ∧ SqL K H b ys ∧ xs[i]? = some x ∧ ys[i]? = some y,
  fun i H v H' => ∃ p x y, (∀ xs, SqL K H a xs → xs[i]? = some x) ∧ (∀ ys, SqL K H b ys → ys[i]? = some y) ∧ v = .ref p ∧ H p = none ∧ H' = upd H p (.tup [x, y]),
  fun i H => ∃ xs ys, SqL K H a xs ∧ SqL K H b ys ∧ (xs.length ≤ i ∨ ys.length ≤ i)⟩
theorem turn_zip {P : Program} {w : World} {K : Frag} {es : List Expr} {k : Nat} {pos : Pos} (a b z TI TO i1 i2 : Addr) (D : ZipApart z TI TO i1 i2 a b) :
  Turn P w K (.Tuple es k pos) (Itz K a b) [z, TI, TO, i1, i2] z (fun i h => IsZip h z TI TO .none ∧ IsPair h TI (.ref i1) (.ref i2) ∧ (∃ x y, IsPair h TO x y) ∧ h.IsListIter i1 a i ∧ h.IsListIter i2 b i) where
 mem := by simp
 obj := fun i h st c hc => by
  obtain ⟨hz, hTI, ⟨x, y, hTO⟩, ⟨o1, e1, c1, d1⟩, ⟨o2, e2, c2, d2⟩⟩ := st
  have hc' : c = z ∨ c = TI ∨ c = TO ∨ c = i1 ∨ c = i2 := by simpa using hc
  rcases hc' with e | e | e | e | e <;> subst e
  ·exact ⟨_, hz, fun v z => by cases z⟩
  ·exact ⟨_, hTI, fun v z => by cases z⟩
  ·exact ⟨_, hTO, fun v z => by cases z⟩
  ·exact ⟨_, e1, fun v z => by rw [d1] at z; cases z⟩
  ·exact ⟨_, e2, fun v z => by rw [d2] at z; cases z⟩
 keep := fun i h h' st k => by
  obtain ⟨hz, hTI, ⟨x, y, hTO⟩, h1, h2⟩ := st
  exact ⟨k z (by simp) _ hz, k TI (by simp) _ hTI, ⟨x, y, k TO (by simp) _ hTO⟩, h1.at fun o e => k i1 (by simp) o e, h2.at fun o e => k i2 (by simp) o e⟩
 item := by
  intro X hP hw hK hc i pins s σ H E I hf st hg
  subst hP hw hK
  obtain ⟨hz, hTI, ⟨x0, y0, hTO⟩, h1, h2⟩ := st
  obtain ⟨xs, ys, x, y, qx, qy, ex, ey⟩ := hg
  obtain ⟨its, rv, p, _⟩ := I.list qx
  obtain ⟨jts, rw', p', _⟩ := I.list qy
  obtain ⟨u, hu, ru⟩ := rv.get ex
  obtain ⟨v, hv, rv'⟩ := rw'.get ey
  refine wpAny_pyNext_zip_item D hz hTI hTO h1 h2 p.isList p'.isList (x := u) (y := v) (by simpa using hu) (by simpa using hv) fun h' a1 a2 a3 a4 a5 a6 a7 => ?_
  refine ⟨_, rfl, wpAny_letOwnedTupleGo_zip (s := { s with heap := h' }) a1 fun h'' b1 sb => ?_⟩
  have nz : ∀ c, c ≠ z → ∀ o, h'.get? c = some o → h''.get? c = some o := fun c hc o e => (sb.2 c hc).trans e
  have kk : ∀ b o, b ∉ [z, TI, TO, i1, i2] → s.heap.get? b = some o → h''.get? b = some o := fun b o hb e => by
   have hb' : b ≠ z ∧ b ≠ TI ∧ b ≠ TO ∧ b ≠ i1 ∧ b ≠ i2 := by simpa using hb
   exact nz b hb'.1 o (a7 b o hb'.1 hb'.2.2.1 hb'.2.2.2.1 hb'.2.2.2.2 e)
  have sz : ∀ c o, s.heap.get? c = some o → s.heap.objs.size ≠ c := fun c o e => Nat.ne_of_gt (Heap.lt_size e)
  have tz : s.heap.objs.size ≠ z := sz _ _ hz
  have hn := I.hok.fresh (Nat.le_refl s.heap.objs.size)
  have I2 : Inv X pins σ (upd H s.heap.objs.size (.tup [x, y])) { s with heap := h'', toks := s.toks } :=
   Inv.turnedT I kk hf (Nat.le_refl _) (by show 2 ≤ sizeLine; decide) (its := [u, v]) (.cons ru (.cons rv' .nil)) ⟨_, nz _ tz _ a5, rfl, _, rfl⟩
  refine ⟨.ref s.heap.objs.size, _, I2, rfl, ⟨s.heap.objs.size, x, y, fun xs' q => by rw [I.list_inj q qx]; exact ex, fun ys' q => by rw [I.list_inj q qy]; exact ey, rfl, hn, rfl⟩, ⟨b1, nz _ D.TIz _ (a7 _ _ D.TIz D.TITO D.TIi1 D.TIi2 hTI), ⟨_, _, nz _ D.TOz _ a2⟩, a3.at fun o e => nz _ D.i1z o e, a4.at fun o e => nz _ D.i2z o e⟩, fun b hb => ?_⟩
  have ob : ∃ o, s.heap.get? b = some o := by
   obtain ⟨o1, e1, _⟩ := h1
   obtain ⟨o2, e2, _⟩ := h2
   have hc' : b = z ∨ b = TI ∨ b = TO ∨ b = i1 ∨ b = i2 := by simpa using hb
   rcases hc' with e | e | e | e | e <;> subst e
   ·exact ⟨_, hz⟩
   ·exact ⟨_, hTI⟩
   ·exact ⟨_, hTO⟩
   ·exact ⟨_, e1⟩
   ·exact ⟨_, e2⟩
  obtain ⟨o, e⟩ := ob
  rw [upd_ne (Ne.symm (sz _ _ e))]
  exact (hf b hb).1
 done := by
  intro X hP hw hK hc i pins s σ H E I hf st hg
  subst hP hw hK
  obtain ⟨hz, hTI, ⟨x0, y0, hTO⟩, h1, h2⟩ := st
  obtain ⟨xs, ys, qx, qy, ee⟩ := hg
  obtain ⟨its, rv, p, _⟩ := I.list qx
  obtain ⟨jts, rw', p', _⟩ := I.list qy
  have l1 := rv.length
  have l2 := rw'.length
  refine wpAny_pyNext_zip_end (I.ok.hd hc) D hz hTI hTO h1 h2 p.isList p'.isList ?_ fun h' kk => ⟨rfl, Inv.turnedL I (fun b o hb e => ?_) hf⟩
  ·rcases ee with e | e
   ·exact .inl (by simp; omega)
   ·exact .inr (by simp; omega)
  ·have hb' : b ≠ z ∧ b ≠ TI ∧ b ≠ TO ∧ b ≠ i1 ∧ b ≠ i2 := by simpa using hb
   exact kk b o hb'.1 hb'.2.2.1 hb'.2.2.2.1 hb'.2.2.2.2 e
 self := fun _ _ _ _ _ st h => wpAny_pyIter_zip st.1 h
theorem boot_zip : bootBuiltins "zip" = some (.type "zip") := by decide +kernel
section
variable {X : Cx}
def iZip (K : Frag) (ta : TA) : TI := fun σ H R => ta σ H fun vs H1 => ∃ a b, vs = [.ref a, .ref b] ∧ (∃ xs, SqL K H1 a xs) ∧ (∃ ys, SqL K H1 b ys) ∧ R (Itz K a b) H1
theorem pi_zip {e1 e2 : Expr} {ta : TA} {p pos : Pos} {es : List Expr} {k : Nat} {tpos : Pos} (hg : Gl X "zip") (hm : X.mg "zip" = none) (ha : PA X [e1, e2] ta) (hs : starEach [e1, e2] X.env = [(false, eval e1 X.env), (false, eval e2 X.env)] := by rfl) (hs2 : starEach [e2] X.env = [(false, eval e2 X.env)] := by rfl) :
  PI X (.Tuple es k tpos) (.Call (.Name "zip" p) [e1, e2] [] pos) (iZip X.K ta) := by
 intro pins s σ H R I h
 refine Call_ (ld_blt I hg hm boot_zip (PyProof.Rows.callWith_type1 (thn (ha pos pins s σ H _ I h) fun us s1 ⟨vs, H1, I1, r1, q1⟩ => ?_) (by rw [hs, hs2]) (by rw [hs2]; rfl)))
 obtain ⟨a, b, e, ⟨xs, hx⟩, ⟨ys, hy⟩, q⟩ := q1
 subst e
 cases r1 with
 | cons r rr =>
  cases rr with
  | cons r' rr =>
   cases rr
   cases r
   cases r'
   obtain ⟨its, rv, pl, _⟩ := I1.list hx
   obtain ⟨jts, rw', pl', _⟩ := I1.list hy
   have lt1 : a < s1.heap.objs.size := by obtain ⟨o, ho, _⟩ := pl.isList; exact Heap.lt_size ho
   have lt2 : b < s1.heap.objs.size := by obtain ⟨o, ho, _⟩ := pl'.isList; exact Heap.lt_size ho
   refine call_zip_2 pl.isList pl'.isList fun h' hz hTI hTO hi1 hi2 hsz hk => wpAny_pyIter_zip (s := { s1 with heap := h' }) hz ?_
   refine ⟨s1.heap.objs.size + 4, [s1.heap.objs.size + 4, s1.heap.objs.size + 2, s1.heap.objs.size + 3, s1.heap.objs.size, s1.heap.objs.size + 1], _, _, H1, rfl, I1.kept (t' := s1.toks) hk, turn_zip a b _ _ _ _ _ ?_, ⟨hz, hTI, ⟨_, _, hTO⟩, hi1, hi2⟩, fun c hc => ?_, q⟩
   ·constructor <;> (intro z; simp only [Addr] at *; omega)
   ·have hc' : s1.heap.objs.size ≤ c := by
     have : c = s1.heap.objs.size + 4 ∨ c = s1.heap.objs.size + 2 ∨ c = s1.heap.objs.size + 3 ∨ c = s1.heap.objs.size ∨ c = s1.heap.objs.size + 1 := by simpa using hc
     simp only [Addr] at *
     omega
    exact I1.fpOk hc' (I1.hok.fresh hc')
def rSum (K : Frag) : List V → Hp → VK → Prop := fun xs H Q => ∃ (p : Addr) (ns : List Int), xs = [.ref p] ∧ SqL K H p (ns.map V.int) ∧ Q (.int ns.sum) H
def rListL (K : Frag) : List V → Hp → VK → Prop := fun xs H Q => ∃ (p : Addr) (ys : List V), xs = [.ref p] ∧ SqL K H p ys ∧ ∀ l, H l = none → Q (.ref l) (upd H l (.lst ys))
theorem call_listL : CallR X (.type "list") (rListL X.K) := by
 intro pins s σ H xs us Q I r h
 obtain ⟨p, ys, rfl, hq, q⟩ := h
 obtain ⟨u, rfl, r1⟩ := vals1 r
 cases r1
 obtain ⟨its, rv, ⟨o, n, e, c, d1, d⟩, hz⟩ := I.list hq
 have hlen := rv.length
 refine call_list_seq p (.inl rfl) e c d (fun h' c' hk hl => ?_) (by simp; omega)
 have hn := I.hok.fresh (Nat.le_refl s.heap.objs.size)
 have I2 : Inv X pins σ (upd H s.heap.objs.size (.lst ys)) { s with heap := h', toks := s.toks } := I.laid (t' := s.toks) hk (Nat.le_refl _) ⟨hz, its, c', rv, hl⟩
 exact ⟨.ref _, _, I2, rfl, q _ hn⟩
end
section
variable {X : Cx} {K : Frag}
theorem ix_tupK (h : X.K = K) : IxR X (rIxT K) := by subst h; exact ix_tup
theorem pg_tupK {es : List Expr} {k : Nat} {t : TGs} {n : Nat} {pos : Pos} (hK : X.K = K) (hc : X.calm = true) (h : PGs X es t)
  (hn : (assignEach es X.env).length = n := by rfl) (hst : (assignEach es X.env).findIdx? (·.1) = none := by rfl) : PG X (.Tuple es k pos) (gTup K n t) := by subst hK; exact pg_tup hc h hn hst
end
section
variable {D : Addr} {te : TE} {cap : L2.St} {H1 : Hp} {Q : VK}
theorem comp_zip {K : Frag} {a b : Addr} {xs ys : List V} (Rel : Nat → V → Hp → Prop) (nD : H1 D = none) (hn : xs.length < sizeLine) (hl : ys.length = xs.length) (hX : ∀ H, Same H1 H → SqL K H a xs) (hY : ∀ H, Same H1 H → SqL K H b ys)
  (hR : ∀ i v H H' ys, H D = some (.lst ys) → KSame D H H' → Rel i v H → Rel i v H')
  (he : ∀ i x y H (R : VK), xs[i]? = some x → ys[i]? = some y → Same H1 H → (∀ v H6, Same H H6 → Rel i v H6 → R v H6) → te (some x :: some y :: cap) H R)
  (hd : ∀ zs H, zs.length = xs.length → (∀ i v, zs[i]? = some v → Rel i v H) → Same H1 H → H D = some (.lst zs) → Q (.ref D) H) :
  tBlk D (gTup K 2 (gCons (gName 0) (gCons (gName 1) gNil))) tYes te (Itz K a b) (none :: none :: cap) H1 Q := by
 refine ⟨fun i m σ zs H => m = xs.length - i ∧ i ≤ xs.length ∧ (∃ o o', σ = o :: o' :: cap) ∧ (zs.length = i ∧ (∀ i v, zs[i]? = some v → Rel i v H) ∧ Same H1 H) ∧ H D = some (.lst zs), ⟨xs.length, by simp, Nat.zero_le _, ⟨none, none, rfl⟩, ⟨rfl, fun i v e => by simp at e, fun b o e => by rw [upd_ne (ne_of_none e nD)]; exact e⟩, upd_same⟩, ?_⟩
 rintro i m σ zs H ⟨rfl, hi, ⟨o, o', rfl⟩, ⟨l, r, s⟩, hD⟩
 by_cases hlt : i < xs.length
 ·have e1 : xs[i]? = some xs[i] := gE hlt
  have e2 : ys[i]? = some (ys[i]'(by omega)) := gE (by omega)
  refine .inr ⟨⟨xs, ys, _, _, hX H s, hY H s, e1, e2⟩, fun v H' y => ?_⟩
  obtain ⟨p, x, y, q1, q2, rfl, np, rfl⟩ := y
  have e1 := q1 xs (hX H s)
  have e2 := q2 ys (hY H s)
  have sp : Same H (upd H p (.tup [x, y])) := fun b o e => by rw [upd_ne (ne_of_none e np)]; exact e
  refine ⟨p, _, rfl, SqT.of upd_same, rfl, _, _, rfl, _, _, rfl, rfl, ?_⟩
  unfold tYes
  dsimp only
  rw [if_pos rfl]
  refine he i x y _ _ e1 e2 (fun b o e => sp _ _ (s _ _ e)) fun v H6 s6 rv => ⟨s6 _ _ (sp _ _ hD), by omega, xs.length - (i + 1), by omega, rfl, by omega, ⟨_, _, rfl⟩, ⟨by simp [l], fun j u e => ?_, fun b o e => ?_⟩, upd_same⟩
  ·by_cases c : j < zs.length
   ·rw [List.getElem?_append_left c] at e
    have ru := hR j u H H6 zs hD (KSame.of fun b o q => s6 _ _ (sp _ _ q)) (r j u e)
    exact hR j u H6 _ zs (s6 _ _ (sp _ _ hD)) KSame.upd ru
   ·rw [List.getElem?_append_right (by omega)] at e
    have ej : j = i := by
     by_cases z : j - zs.length = 0
     ·omega
     ·rw [List.getElem?_eq_none (by simp; omega)] at e
      cases e
    subst ej
    have : v = u := by
     rw [show j - zs.length = 0 by omega] at e
     exact Option.some.inj e
    subst this
    exact hR j v H6 _ zs (s6 _ _ (sp _ _ hD)) KSame.upd rv
  ·rw [upd_ne (ne_of_none e nD)]
   exact s6 _ _ (sp _ _ (s _ _ e))
 ·have e : i = xs.length := by omega
  subst e
  exact .inl ⟨⟨xs, ys, hX H s, hY H s, .inl (Nat.le_refl _)⟩, hd zs H l r s hD⟩
end
end Ty
set_option maxHeartbeats 4000000
namespace Ty
open PySem PySem.Spec PyProof.Rows L2
open Builtin.Int (intBits)
def vl (q : Int × Int) : Rat := (q.1 : Rat) / (q.2 : Rat)
structure Sm (T B : Nat) (q : Int × Int) : Prop where
 pos : 0 < q.2
 low : Int.gcd q.1 q.2 = 1
 top : q.1.natAbs ≤ 2 ^ T
 bot : q.2.natAbs ≤ 2 ^ B
theorem ratne {b : Int} (h : b ≠ 0) : (b : Rat) ≠ 0 := by simpa using h
theorem vl_low {t b : Int} (h : b ≠ 0) : vl (low t b) = (t : Rat) / (b : Rat) := by
 have c := low_cross (t := t) h
 have p := low_pos (t := t) h
 have h1 := ratne h
 have h2 := ratne (b := (low t b).2) (by omega)
 have c' : ((low t b).1 : Rat) * b = t * (low t b).2 := by exact_mod_cast c
 unfold vl
 grind
theorem cross_of_vl {t b u c : Int} (hb : b ≠ 0) (hc : c ≠ 0) (h : (t : Rat) / b = (u : Rat) / c) : t * c = u * b := by
 have h1 := ratne hb
 have h2 := ratne hc
 have : (t : Rat) * c = u * b := by grind
 exact_mod_cast this
theorem vl_inj {q r : Int × Int} (hq : 0 < q.2) (hr : 0 < r.2) (gq : Int.gcd q.1 q.2 = 1) (gr : Int.gcd r.1 r.2 = 1) (h : vl q = vl r) : q = r := by
 have c := cross_of_vl (t := q.1) (b := q.2) (u := r.1) (c := r.2) (by omega) (by omega) h
 have e := low_cross_iff (t := q.1) (b := q.2) (u := r.1) (c := r.2) (by omega) (by omega) c
 rw [low_self hq gq, low_self hr gr] at e
 exact Prod.ext (congrArg Prod.fst e) (congrArg Prod.snd e)
def dotZ (xs ys : List Int) : Int := (List.zipWith (fun a b => a * b) xs ys).sum
def dotQ (xs ys : List (Int × Int)) : Rat := (List.zipWith (fun a b => vl a * vl b) xs ys).sum
def Whole (ts : List Int) (qs : List (Int × Int)) (b : Int) : Prop := ts.length = qs.length ∧ ∀ (i : Nat) (t : Int) (q : Int × Int), ts[i]? = some t → qs[i]? = some q → (t : Rat) = vl q * b
end Ty
set_option maxHeartbeats 4000000
namespace Ty
open PySem PySem.Spec PyProof.Rows L2
section
variable {D : Addr} {te : TE} {cap : L2.St} {H1 : Hp} {Q : VK}
end
section
variable {X : Cx}
def cxB1 (X : Cx) (NB : List Str) (scope : Scope) (y : Str) (cl : List (Str × Addr)) (C : Addr) (s : Shared) (H : Hp) (fp : List Addr) : Cx :=
 { prog := X.prog, w := X.w, K := X.K, mg := X.mg, base := X.base, A := X.A, N := NB, s₀ := s, H₀ := H, env := compEnvC scope ((y, C + 1) :: cl) C X.env, outer := X.stack, stack := X.stack, ex := fp, fn := fun x => x == y, calm := X.calm, pn := [], xe := fun _ _ => False }
structure Blk1 (X : Cx) (scope : Scope) (y : Str) (fr : List Str) (caps : List Nat) : Prop where
 clos : closureFor scope X.env = pure (capCl X.env fr)
 kind : scope.kind = .function
 names : ∀ y ∈ scope.names, y.2 = .local → scope.names.lookup y.1 = some .local
 free : ∀ y ∈ scope.names, y.2 = .free → y.1 ∈ fr
 caps : caps.map (fun i => X.N[i]?) = fr.map some
 out : AllCap X.env fr
 inn : AllCap (compEnvC scope [] 0 X.env) fr
 cells1 : ∀ n acc, cellsFrom n scope.names acc = (y, n) :: acc
 push1 : ∀ h, pushCells h scope.names = h.push { cls := .type "cell", data := .cell none }
 only : ∀ z ∈ scope.names, z.2 = .cell → z.1 = y
 ny : y ∉ fr
end
end Ty
namespace L2
open PySem PySem.Spec PyProof.Rows
section
variable {κ : Type} [DecidableEq κ]
def valV (kvs : List (κ × V)) (k : κ) : Option V := (kvs.find? fun kv => decide (kv.1 = k)).map (·.2)
def putK (kvs : List (κ × V)) (k : κ) (v : V) : List (κ × V) :=
 if (kvs.any fun kv => decide (kv.1 = k)) = true then kvs.map (fun kv => if kv.1 = k then (kv.1, v) else kv) else kvs ++ [(k, v)]
def dropK (kvs : List (κ × V)) (k : κ) : List (κ × V) := kvs.filter fun kv => decide (kv.1 ≠ k)
theorem valV_pos {p : κ × V} {r : List (κ × V)} {k : κ} (e : p.1 = k) : valV (p :: r) k = some p.2 := by simp [valV, List.find?_cons, e]
theorem valV_neg {p : κ × V} {r : List (κ × V)} {k : κ} (e : ¬ p.1 = k) : valV (p :: r) k = valV r k := by simp [valV, List.find?_cons, e]
theorem valV_any (k : κ) : ∀ kvs : List (κ × V), (kvs.any fun kv => decide (kv.1 = k)) = (valV kvs k).isSome
 | [] => rfl
 | p :: r => by
  rw [List.any_cons]
  by_cases e : p.1 = k
  ·simp only [valV_pos e, decide_eq_true e, Bool.true_or, Option.isSome_some]
  ·rw [valV_neg e, decide_eq_false e, Bool.false_or]; exact valV_any k r
theorem length_putK (kvs : List (κ × V)) (k : κ) (v : V) : (putK kvs k v).length ≤ kvs.length + 1 := by
 unfold putK
 split
 ·rw [List.length_map]; omega
 ·rw [List.length_append, List.length_cons, List.length_nil]; omega
theorem putK_new {kvs : List (κ × V)} {k : κ} (v : V) (h : valV kvs k = none) : putK kvs k v = kvs ++ [(k, v)] := by
 unfold putK
 rw [valV_any, h]
 exact if_neg (by decide)
theorem RelO.isSome_eq {o : Option V} {u : Option Value} (r : RelO o u) : o.isSome = u.isSome := by
 cases o with
 | none => cases u with
  | none => rfl
  | some _ => exact (show False from r).elim
 | some _ => cases u with
  | none => exact (show False from r).elim
  | some _ => rfl
theorem KV.val {kvs : List (κ × V)} {vs : List (κ × Value)} (r : KV kvs vs) (k : κ) : RelO (valV kvs k) (valueAt vs k) := by
 unfold KV at r
 induction r with
 | nil => exact True.intro
 | @cons p q ps qs h t ih =>
  obtain ⟨h1, h2⟩ := h
  by_cases e : p.1 = k
  ·have e' : q.1 = k := h1.symm.trans e
   have b : valueAt (q :: qs) k = some q.2 := by simp [valueAt, List.find?_cons, e']
   rw [valV_pos e, b]; exact h2
  ·have e' : ¬ q.1 = k := fun z => e (h1.trans z)
   have b : valueAt (q :: qs) k = valueAt qs k := by simp [valueAt, List.find?_cons, e']
   rw [valV_neg e, b]; exact ih
theorem KV.any {kvs : List (κ × V)} {vs : List (κ × Value)} (r : KV kvs vs) (k : κ) : (kvs.any fun kv => decide (kv.1 = k)) = vs.any fun kv => decide (kv.1 = k) := by
 unfold KV at r
 induction r with
 | nil => rfl
 | cons h t ih => rw [List.any_cons, List.any_cons, ih, h.1]
theorem KV.repl {kvs : List (κ × V)} {vs : List (κ × Value)} (r : KV kvs vs) (k : κ) {y : V} {u : Value} (ry : RelV y u) :
  KV (kvs.map fun kv => if kv.1 = k then (kv.1, y) else kv) (vs.map fun kv => if kv.1 = k then (kv.1, u) else kv) := by
 unfold KV at r ⊢
 induction r with
 | nil => exact .nil
 | @cons p q ps qs h t ih =>
  rw [List.map_cons, List.map_cons]
  refine .cons ?_ ih
  obtain ⟨h1, h2⟩ := h
  by_cases e : p.1 = k
  ·rw [if_pos e, if_pos (h1.symm.trans e)]; exact ⟨h1, ry⟩
  ·rw [if_neg e, if_neg (fun z => e (h1.trans z))]; exact ⟨h1, h2⟩
theorem KV.put {kvs : List (κ × V)} {vs : List (κ × Value)} (r : KV kvs vs) (k : κ) {y : V} {u : Value} (ry : RelV y u) : KV (putK kvs k y) (stored vs k u) := by
 unfold putK stored
 rw [r.any k]
 by_cases e : (vs.any fun kv => decide (kv.1 = k)) = true
 ·rw [if_pos e, if_pos e]; exact r.repl k ry
 ·rw [if_neg e, if_neg e]; exact Paired.snoc r ⟨rfl, ry⟩
theorem KV.drop {kvs : List (κ × V)} {vs : List (κ × Value)} (r : KV kvs vs) (k : κ) : KV (dropK kvs k) (without vs k) := by
 unfold KV at r ⊢
 unfold dropK without
 induction r with
 | nil => exact .nil
 | @cons p q ps qs h t ih =>
  obtain ⟨h1, h2⟩ := h
  rw [List.filter_cons, List.filter_cons]
  by_cases e : p.1 = k
  ·have a : ¬ decide (p.1 ≠ k) = true := by simp [e]
   have b : ¬ decide (q.1 ≠ k) = true := by simp [h1.symm.trans e]
   rw [if_neg a, if_neg b]; exact ih
  ·have e' : ¬ q.1 = k := fun z => e (h1.trans z)
   have a : decide (p.1 ≠ k) = true := by simp [e]
   have b : decide (q.1 ≠ k) = true := by simp [e']
   rw [if_pos a, if_pos b]; exact .cons ⟨h1, h2⟩ ih
theorem KV.length {kvs : List (κ × V)} {vs : List (κ × Value)} (r : KV kvs vs) : kvs.length = vs.length := Paired.length r
theorem dropK_le (kvs : List (κ × V)) (k : κ) : (dropK kvs k).length ≤ kvs.length := List.length_filter_le _ _
end
theorem kV_is {P : Program} {w : World} {k : Key} {u : Value} (r : RelV (kV k) u) : (mixKind P w).is k u = true := by
 cases k with
 | inl i => obtain ⟨t, e⟩ := (show ∃ t, u = Value.int i t from r); subst e; exact mixKind_int P w i t
 | inr x => obtain ⟨t, e⟩ := (show ∃ t, u = Value.str x t from r); subst e; exact mixKind_str P w x t
theorem items_are {P : Program} {w : World} : ∀ {ks : List Key} {us : List Value}, Vals (ks.map kV) us → ItemsAre (mixKind P w) ks us
 | [], _, r => by rw [List.map_nil] at r; cases r; exact .nil
 | k :: ks, _, r => by
  rw [List.map_cons] at r
  cases r with
  | cons h t => exact .cons (kV_is h) (items_are t)
abbrev KT (H : Hp) : List (List Key × V) → List (List Key × Addr × Value) → Prop := Paired fun p q => p.1 = q.1 ∧ H q.2.1 = some (.tup (p.1.map kV)) ∧ RelV p.2 q.2.2
theorem KT.val {H : Hp} {kvs : List (List Key × V)} {xs : List (List Key × Addr × Value)} (r : KT H kvs xs) (k : List Key) : RelO (valV kvs k) ((atKey xs k).map (·.2)) := by
 induction r with
 | nil => exact True.intro
 | @cons p q ps qs h t ih =>
  obtain ⟨h1, _, h2⟩ := h
  by_cases e : p.1 = k
  ·have e' : q.1 = k := h1.symm.trans e
   have b : atKey (q :: qs) k = some q.2 := by simp [atKey, List.find?_cons, e']
   rw [valV_pos e, b]; exact h2
  ·have e' : ¬ q.1 = k := fun z => e (h1.trans z)
   have b : atKey (q :: qs) k = atKey qs k := by simp [atKey, List.find?_cons, e']
   rw [valV_neg e, b]; exact ih
theorem KT.repl {H : Hp} {kvs : List (List Key × V)} {xs : List (List Key × Addr × Value)} (r : KT H kvs xs) (k : List Key) {y : V} {u : Value} (ry : RelV y u) :
  KT H (kvs.map fun kv => if kv.1 = k then (kv.1, y) else kv) (xs.map (putAt k u)) := by
 induction r with
 | nil => exact .nil
 | @cons p q ps qs h t ih =>
  rw [List.map_cons, List.map_cons]
  refine .cons ?_ ih
  obtain ⟨h1, h2, h3⟩ := h
  unfold putAt
  by_cases e : p.1 = k
  ·rw [if_pos e, if_pos (h1.symm.trans e)]; exact ⟨h1, h2, ry⟩
  ·rw [if_neg e, if_neg (fun z => e (h1.trans z))]; exact ⟨h1, h2, h3⟩
theorem KT.put {H : Hp} {kvs : List (List Key × V)} {xs : List (List Key × Addr × Value)} (r : KT H kvs xs) (k : List Key) {b : Addr} {y : V} {u : Value} (hb : H b = some (.tup (k.map kV))) (ry : RelV y u) :
  KT H (putK kvs k y) (storedH xs k b u) := by
 have e : (kvs.any fun kv => decide (kv.1 = k)) = (atKey xs k).isSome := by
  rw [valV_any, (r.val k).isSome_eq, Option.isSome_map]
 unfold putK storedH
 rw [e]
 by_cases q : (atKey xs k).isSome = true
 ·rw [if_pos q, if_pos q]; exact r.repl k ry
 ·rw [if_neg q, if_neg q]; exact Paired.snoc r ⟨rfl, hb, ry⟩
theorem KT.keeps {H H' : Hp} {kvs : List (List Key × V)} {xs : List (List Key × Addr × Value)} (r : KT H kvs xs) (ht : ∀ b ys, H b = some (.tup ys) → H' b = some (.tup ys)) : KT H' kvs xs :=
 Paired.mapP r fun _ _ z => ⟨z.1, ht _ _ z.2.1, z.2.2⟩
section
variable {P : Program} {w : World} {H : Hp} {h : Heap} {a : Addr}
theorem rd_of {u : HO} (ok : HOk P w H h) (e : Rd H a u) : ObjOk P w H h a u := e.ok ok
theorem dk_rd {kvs : List (Key × V)} (ok : HOk P w H h) (e : Rd H a (.dK kvs)) : kvs.length ≤ sizeLine ∧ (a == sysModules) = false ∧ ∃ vs, KV kvs vs ∧ h.DictOf (mixKind P w) a vs :=
 show ObjOk P w H h a (.dK kvs) from rd_of ok e
theorem dk_of {kvs : List (Key × V)} (ok : HOk P w H h) (e : H a = some (.dK kvs)) : kvs.length ≤ sizeLine ∧ (a == sysModules) = false ∧ ∃ vs, KV kvs vs ∧ h.DictOf (mixKind P w) a vs := dk_rd ok (.inl e)
theorem key_of {ks : List Key} (ok : HOk P w H h) (e : H a = some (.tup (ks.map kV))) : (tupleKind (mixKind P w)).is h ks a := by
 obtain ⟨_, its, r, o, h1, h2, n, h3⟩ := (show ObjOk P w H h a (.tup (ks.map kV)) from ok a _ e)
 exact ⟨o, its.toArray, n, h1, h2, h3, by simpa using items_are r⟩
theorem dt_rd {kvs : List (List Key × V)} (ok : HOk P w H h) (e : Rd H a (.dT kvs)) : kvs.length ≤ sizeLine ∧ (a == sysModules) = false ∧
  ∃ xs, KT H kvs xs ∧ h.DictOfH (tupleKind (mixKind P w)) a xs := by
 obtain ⟨z, y, xs, r, o, es, ep, h1, h2, h3, h4, h5⟩ := (show ObjOk P w H h a (.dT kvs) from rd_of ok e)
 refine ⟨z, y, xs, r, o, es, ep, h1, h2, h3, h4, fun x hx => ?_, h5⟩
 have all : ∀ {l : List (List Key × V)} {m : List (List Key × Addr × Value)}, KT H l m → ∀ x ∈ m, (tupleKind (mixKind P w)).is h x.1 x.2.1 := by
  intro l m q
  induction q with
  | nil => intro x hx; exact nomatch hx
  | @cons p q ps qs hq t ih =>
   intro x hx
   rcases List.mem_cons.mp hx with e | hx
   ·subst e
    exact key_of ok (by rw [← hq.1]; exact hq.2.1)
   ·exact ih x hx
 exact all r x hx
theorem dt_of {kvs : List (List Key × V)} (ok : HOk P w H h) (e : H a = some (.dT kvs)) : kvs.length ≤ sizeLine ∧ (a == sysModules) = false ∧
  ∃ xs, KT H kvs xs ∧ h.DictOfH (tupleKind (mixKind P w)) a xs := dt_rd ok (.inl e)
end
def DGet (H : Hp) (a : Addr) (y : V) (r : Option V) : Prop :=
 (∃ kvs k, Rd H a (.dK kvs) ∧ y = kV k ∧ r = valV kvs k) ∨ ∃ kvs k b, Rd H a (.dT kvs) ∧ y = .ref b ∧ H b = some (.tup (k.map kV)) ∧ r = valV kvs k
def DPut (H : Hp) (a : Addr) (y v : V) (H' : Hp) : Prop :=
 (∃ kvs k, H a = some (.dK kvs) ∧ y = kV k ∧ kvs.length < sizeLine ∧ H' = upd H a (.dK (putK kvs k v))) ∨
 ∃ kvs k b, H a = some (.dT kvs) ∧ y = .ref b ∧ H b = some (.tup (k.map kV)) ∧ kvs.length < sizeLine ∧ H' = upd H a (.dT (putK kvs k v))
theorem DGet.k {H : Hp} {a : Addr} {kvs : List (Key × V)} {k : Key} (e : H a = some (.dK kvs)) : DGet H a (kV k) (valV kvs k) := .inl ⟨kvs, k, .inl e, rfl, rfl⟩
theorem DPut.k {H : Hp} {a : Addr} {kvs : List (Key × V)} {k : Key} {v : V} (e : H a = some (.dK kvs)) (hl : kvs.length < sizeLine) : DPut H a (kV k) v (upd H a (.dK (putK kvs k v))) := .inl ⟨kvs, k, e, rfl, hl, rfl⟩
section
variable {X : Cx} {pins : List (Addr × Obj)} {σ : St} {H : Hp} {s : Shared} {a : Addr} {y v : V} {u r : Value} {o : Option V} {A : Around} {E : Value → Shared → Prop}
theorem Inv.big (I : Inv X pins σ H s) : sysModules < s.heap.objs.size := by
 have h : mainGlobals < s.heap.objs.size := (I.mod.glob.keeps I.bk).lt
 exact Nat.lt_trans (by decide) h
theorem d_getItem {Q : Value → Shared → Prop} (hu : A.units + 1 < cLine) (I : Inv X pins σ H s) (g : DGet H a y (some v)) (ry : RelV y u) (h : ∀ w' s', Inv X pins σ H s' → RelV v w' → Q w' s') :
  wpAny (model X.prog X.w) A (getItem (.ref a) u) Q E s := by
 rcases g with ⟨kvs, k, e, ey, l⟩ | ⟨kvs, k, b, e, ey, eb, l⟩
 ·subst ey
  obtain ⟨z, hd, vs, rel, dd⟩ := dk_rd I.hok e
  obtain ⟨w', hw, rw'⟩ := RelO.some_of (v := v) (o := valueAt vs k) (by rw [l]; exact rel.val k)
  exact wpAny_getItem_of (kV_is ry) dd.mapOf hw (h w' _ (I.tok _) rw')
 ·subst ey
  cases (show u = Value.ref b from ry)
  obtain ⟨z, hd, xs, rel, dd⟩ := dt_rd I.hok e
  obtain ⟨w', hw, rw'⟩ := RelO.some_of (v := v) (o := (atKey xs k).map (·.2)) (by rw [l]; exact rel.val k)
  obtain ⟨p, hp, hp2⟩ := Option.map_eq_some_iff.mp hw
  refine wpAny_getItem_heap (tupleKind_room_in1 hu) (key_of I.hok eb) dd hp ?_
  rw [hp2]
  exact h w' _ (I.tok _) rw'
theorem d_in {Q : Value → Shared → Prop} (hu : A.units + 1 < cLine) (I : Inv X pins σ H s) (g : DGet H a y o) (ry : RelV y u) (h : ∀ s', Inv X pins σ H s' → Q (.bool o.isSome) s') :
  wpAny (model X.prog X.w) A (compareOp .In u (.ref a)) Q E s := by
 rcases g with ⟨kvs, k, e, ey, l⟩ | ⟨kvs, k, b, e, ey, eb, l⟩
 ·subst ey
  obtain ⟨z, hd, vs, rel, dd⟩ := dk_rd I.hok e
  refine wpAny_in_of (kV_is ry) hd dd.mapOf ?_
  rw [← (rel.val k).isSome_eq, ← l]
  exact h _ (I.tok _)
 ·subst ey
  cases (show u = Value.ref b from ry)
  obtain ⟨z, hd, xs, rel, dd⟩ := dt_rd I.hok e
  refine wpAny_in_heap (tupleKind_room_in1 hu) (key_of I.hok eb) hd dd ?_
  have q := (rel.val k).isSome_eq
  rw [Option.isSome_map] at q
  rw [← q, ← l]
  exact h _ (I.tok _)
theorem d_notIn {Q : Value → Shared → Prop} (hu : A.units + 1 < cLine) (I : Inv X pins σ H s) (g : DGet H a y o) (ry : RelV y u) (h : ∀ s', Inv X pins σ H s' → Q (.bool (!o.isSome)) s') :
  wpAny (model X.prog X.w) A (compareOp .NotIn u (.ref a)) Q E s := by
 rcases g with ⟨kvs, k, e, ey, l⟩ | ⟨kvs, k, b, e, ey, eb, l⟩
 ·subst ey
  obtain ⟨z, hd, vs, rel, dd⟩ := dk_rd I.hok e
  refine wpAny_notIn_of (kV_is ry) hd dd.mapOf ?_
  rw [← (rel.val k).isSome_eq, ← l]
  exact h _ (I.tok _)
 ·subst ey
  cases (show u = Value.ref b from ry)
  obtain ⟨z, hd, xs, rel, dd⟩ := dt_rd I.hok e
  refine wpAny_notIn_heap (tupleKind_room_in1 hu) (key_of I.hok eb) hd dd ?_
  have q := (rel.val k).isSome_eq
  rw [Option.isSome_map] at q
  rw [← q, ← l]
  exact h _ (I.tok _)
theorem d_write {h' : Heap} {t' : Nat} {ob : HO} (I : Inv X pins σ H s) (mu : Mut (H a)) (hs : Heap.SameBut a s.heap h') (he : ∃ q, h'.get? a = some q) (new : ObjOk X.prog X.w (upd H a ob) h' a ob) :
  Inv X pins σ (upd H a ob) { s with heap := h', toks := t' } :=
 I.write (x := a) (e := a) mu (.inl rfl) (fun b q hb z => (hs.2 b hb).trans z) he new
theorem dk_new {P : Program} {w : World} {H' : Hp} {h' : Heap} {kvs : List (Key × V)} {vs : List (Key × Value)} (z : kvs.length ≤ sizeLine) (hd : (a == sysModules) = false) (rel : KV kvs vs) (dd : h'.DictOf (mixKind P w) a vs) :
  ObjOk P w H' h' a (.dK kvs) := ⟨z, hd, vs, rel, dd⟩
theorem d_setItem {H' : Hp} {Q : Unit → Shared → Prop} (hu : A.units + 1 < cLine) (I : Inv X pins σ H s) (g : DPut H a y v H') (ry : RelV y u) (rv : RelV v r) (h : ∀ s', Inv X pins σ H' s' → Q () s') :
  wpAny (model X.prog X.w) A (setItem (.ref a) u r) Q E s := by
 rcases g with ⟨kvs, k, e, ey, l, eH⟩ | ⟨kvs, k, b, e, ey, eb, l, eH⟩
 ·subst ey eH
  obtain ⟨z, hd, vs, rel, dd⟩ := dk_of I.hok e
  have hz : vs.length ≤ sizeLine := by rw [← rel.length]; exact z
  have hl : (putK kvs k v).length ≤ sizeLine := by have := length_putK kvs k v; omega
  refine wpAny_setItem_pairs (hsz := hz) (kV_is ry) dd fun h' dd' hs => h _ ?_
  have he : ∃ q, h'.get? a = some q := let ⟨q, _, _, hq, _⟩ := dd'; ⟨q, hq⟩
  exact d_write I (by rw [e]; exact True.intro) hs he (dk_new hl hd (rel.put k rv) dd')
 ·subst ey eH
  cases (show u = Value.ref b from ry)
  obtain ⟨z, hd, xs, rel, dd⟩ := dt_of I.hok e
  have hz : xs.length ≤ sizeLine := by rw [← Paired.length rel]; exact z
  have hl : (putK kvs k v).length ≤ sizeLine := by have := length_putK kvs k v; omega
  refine wpAny_setItem_heap (hsz := hz) (tupleKind_room_in1 hu) (key_of I.hok eb) dd fun h' dd' hs => h _ ?_
  obtain ⟨q, es, ep, hq, h2, h3, h4, _, h5⟩ := dd'
  refine d_write I (by rw [e]; exact True.intro) hs ⟨q, hq⟩ ⟨hl, hd, _, (rel.put k eb rv).keeps fun c ys ec => ?_, q, es, ep, hq, h2, h3, h4, h5⟩
  rw [upd_ne (ne_of ec e (fun z => nomatch z))]
  exact ec
end
section
variable {X : Cx} {pins : List (Addr × Obj)} {σ : St} {H : Hp} {s : Shared} {a : Addr} {kvs : List (Key × V)} {k : Key} {u : Value} {A : Around} {E : Value → Shared → Prop}
theorem d_pop {v : V} {more : List Value} {Q : Value → Shared → Prop} (I : Inv X pins σ H s) (e : H a = some (.dK kvs)) (ry : RelV (kV k) u) (l : valV kvs k = some v) (hm : more = [] ∨ ∃ x, more = [x])
  (h : ∀ w' s', Inv X pins σ (upd H a (.dK (dropK kvs k))) s' → RelV v w' → Q w' s') : wpAny (model X.prog X.w) A (call (.builtin "dict.pop") (.ref a :: u :: more)) Q E s := by
 obtain ⟨z, hd, vs, rel, dd⟩ := dk_of I.hok e
 obtain ⟨w', hw, rw'⟩ := RelO.some_of (v := v) (o := valueAt vs k) (by rw [← l]; exact rel.val k)
 have hp : (keyPart u).isSome = true := by
  cases k with
  | inl i => obtain ⟨t, q⟩ := (show ∃ t, u = Value.int i t from ry); subst q; rfl
  | inr x => obtain ⟨t, q⟩ := (show ∃ t, u = Value.str x t from ry); subst q; rfl
 have ha : argsOk "dict.pop" ⟨.ref a :: u :: more, []⟩ := by
  rcases hm with q | ⟨x, q⟩
  ·subst q; exact PySem.F.args_dict_pop_2 _ _
  ·subst q; exact PySem.F.args_dict_pop_3 _ _ _
 refine call_meetsIn PySem.F.slot_dict_pop dd.typeIs PySem.F.entry_dict_pop ha (meets_dict_pop_there (mixKind X.prog X.w) a (kV_is ry) more hm hp)
  ⟨vs, w', dd, by rw [← rel.length]; exact z, hw, fun h' dd' hs => h w' _ ?_ rw'⟩
 have he : ∃ q, h'.get? a = some q := let ⟨q, _, _, hq, _⟩ := dd'; ⟨q, hq⟩
 exact d_write I (by rw [e]; exact True.intro) hs he (dk_new (Nat.le_trans (dropK_le kvs k) z) hd (rel.drop k) dd')
theorem d_len {Q : Value → Shared → Prop} (I : Inv X pins σ H s) (e : Rd H a (.dK kvs)) (h : ∀ t s', Inv X pins σ H s' → Q (.int kvs.length t) s') : wpAny (model X.prog X.w) A (call (.builtin "len") [.ref a]) Q E s := by
 obtain ⟨z, hd, vs, rel, dd⟩ := dk_rd I.hok e
 refine call_len_dict hd dd (by rw [← rel.length]; rw [sizeLine_eq] at z; omega) ?_
 rw [← rel.length]
 exact h _ _ (I.tok _)
end
def NoSl (i : Expr) : Prop := ∀ ov iv, subscripted i false ov iv = operate [ov, iv] (getItem ov iv)
theorem subD_of {prog : Program} {w : World} {A : Around} {E : Value → Shared → Prop} {s : Shared} {env : Env} {value slice : Expr} {pos : Pos} {T id : String} {Q : Value → Shared → Prop}
  (hl : typeLookup (.type T) "__getitem__" = pure (some (.builtin id))) (hs : NoSl slice)
  (h : wpAny (model prog w) A (eval value env) (fun o s₁ => wpAny (model prog w) A (eval slice env) (fun i s₂ => s₂.TypeIs o T ∧ wpAny (model prog w) A (getItem o i) Q E s₂) E s₁) E s) :
  wpAny (model prog w) A (eval (.Subscript value slice pos) env) Q E s := by
 refine Subscript_ (wpAny_mono h (fun o s₁ h₁ => wpAny_mono h₁ (fun i s₂ h₂ => ?_) fun _ _ x => x) fun _ _ x => x)
 obtain ⟨hT, h₂⟩ := h₂
 unfold subscriptTail
 refine wpAny_bind ?_
 rw [getitemInPython_of_ne hT.not_modules]
 refine wpAny_bind (wpAny_specialOf hT hl ?_)
 have fin : wpAny (model prog w) A (subscripted slice false o i) (fun r s₃ => wpAny (model prog w) A (letTemporaryGo value o r >>= fun _ => pure r) Q E s₃) E s₂ := by
  rw [hs o i]
  exact wpAny_operating (wpAny_mono h₂ (fun r s₃ h₃ => wpAny_bind (wpAny_letTemporaryGo (wpAny_pure h₃))) fun _ _ x => x)
 first
  | exact wpAny_pure (wpAny_bind fin)
  | exact wpAny_bind (wpAny_pure (wpAny_bind fin))
  | exact wpAny_bind fin
theorem dict_typeIs {X : Cx} {pins : List (Addr × Obj)} {σ : St} {H : Hp} {s : Shared} {a : Addr} {y : V} {o : Option V} (I : Inv X pins σ H s) (g : DGet H a y o) : s.TypeIs (.ref a) "dict" := by
 rcases g with ⟨kvs, k, e, _, _⟩ | ⟨kvs, k, b, e, _, _, _⟩
 ·obtain ⟨_, _, vs, _, dd⟩ := dk_rd I.hok e
  exact dd.typeIs
 ·obtain ⟨_, _, xs, _, dd⟩ := dt_rd I.hok e
  exact dd.typeIs
def tDGet (td ty : TE) : TE := fun σ H Q => td σ H fun x H1 => ty σ H1 fun y H2 => ∃ a v, x = .ref a ∧ DGet H2 a y (some v) ∧ Q v H2
def tDIn (ty td : TE) : TE := fun σ H Q => ty σ H fun y H1 => td σ H1 fun x H2 => ∃ a o, x = .ref a ∧ DGet H2 a y o ∧ Q (.bl o.isSome) H2
def tDNotIn (ty td : TE) : TE := fun σ H Q => ty σ H fun y H1 => td σ H1 fun x H2 => ∃ a o, x = .ref a ∧ DGet H2 a y o ∧ Q (.bl (!o.isSome)) H2
def sDPut (td ty tv : TE) : TS := fun D σ H => tv σ H fun v H1 => td σ H1 fun x H2 => ty σ H2 fun y H3 => ∃ a H4, x = .ref a ∧ DPut H3 a y v H4 ∧ D.nx σ H4
def sDAug (td ty tv : TE) (rd : V → V → Hp → VK → Prop) : TS := fun D σ H => td σ H fun x H1 => ty σ H1 fun y H2 => ∃ a v, x = .ref a ∧ DGet H2 a y (some v) ∧
 tv σ H2 fun y2 H3 => rd v y2 H3 fun z H4 => ∃ H5, DPut H4 a y z H5 ∧ D.nx σ H5
def sDDel (td ty : TE) : TS := fun D σ H => td σ H fun x H1 => ty σ H1 fun y H2 => ∃ a kvs k, x = .ref a ∧ H2 a = some (.dK kvs) ∧ y = kV k ∧ (valV kvs k).isSome = true ∧ D.nx σ (upd H2 a (.dK (dropK kvs k)))
section
variable {X : Cx} {o i e value : Expr} {pos pos' tpos : Pos} {td ty tv : TE}
theorem pe_dget (hu : X.A.units + 1 < cLine) (ho : PE X o td) (hi : PE X i ty) (hs : NoSl i) : PE X (.Subscript o i pos) (tDGet td ty) := by
 intro pins s σ H Q I h
 refine subD_of PySem.F.slot_dict_getitem.lookup hs (thn (ho pins s σ H _ I h) fun u s1 ⟨x, H1, I1, rx, q1⟩ => thn (hi pins s1 σ H1 _ I1 q1) fun iv s2 ⟨y, H2, I2, ry, a, v, ex, g, q2⟩ => ?_)
 subst ex
 obtain rfl : u = Value.ref a := rx
 exact ⟨dict_typeIs I2 g, d_getItem hu I2 g ry fun w' s3 I3 rw' => ⟨v, H2, I3, rw', q2⟩⟩
theorem pc_din (hu : X.A.units + 1 < cLine) (hi : PE X i ty) (ho : PE X o td) : PC X .In i o (tDIn ty td) := by
 intro pins s σ H Q I h
 refine thn (hi pins s σ H _ I h) fun iv s1 ⟨y, H1, I1, ry, q1⟩ => thn (ho pins s1 σ H1 _ I1 q1) fun u s2 ⟨x, H2, I2, rx, a, ov, ex, g, q2⟩ => ?_
 subst ex
 obtain rfl : u = Value.ref a := rx
 exact d_in hu I2 g ry fun s3 I3 => ⟨.bl ov.isSome, H2, I3, rfl, q2⟩
theorem pc_dnotin (hu : X.A.units + 1 < cLine) (hi : PE X i ty) (ho : PE X o td) : PC X .NotIn i o (tDNotIn ty td) := by
 intro pins s σ H Q I h
 refine thn (hi pins s σ H _ I h) fun iv s1 ⟨y, H1, I1, ry, q1⟩ => thn (ho pins s1 σ H1 _ I1 q1) fun u s2 ⟨x, H2, I2, rx, a, ov, ex, g, q2⟩ => ?_
 subst ex
 obtain rfl : u = Value.ref a := rx
 exact d_notIn hu I2 g ry fun s3 I3 => ⟨.bl (!ov.isSome), H2, I3, rfl, q2⟩
theorem ps_dput (hu : X.A.units + 1 < cLine) (ho : PE X o td) (hi : PE X i ty) (hv : PE X value tv) (hs : swapsWith value (some (.Subscript o i pos')) pos.line X.env = pure false) :
  PS X (.Assign [.Subscript o i pos'] value pos) (sDPut td ty tv) := by
 intro pins s σ H D I h
 refine wpAny_Assign_Subscript (thn (hv pins s σ H _ I h) fun r s1 ⟨v, H1, I1, rv, q1⟩ => thn (ho pins s1 σ H1 _ I1 q1) fun u s2 ⟨x, H2, I2, rx, q2⟩ => thn (hi pins s2 σ H2 _ I2 q2) fun iv s3 ⟨y, H3, I3, ry, a, H4, ex, g, q3⟩ => ?_) hs
 subst ex
 obtain rfl : u = Value.ref a := rx
 exact d_setItem hu I3 g ry rv fun s4 I4 => ⟨σ, H4, I4, q3⟩
end
theorem dk_empty {P : Program} {w : World} {H : Hp} (h : Heap) (hb : sysModules < h.objs.size) : ObjOk P w H (h.push { cls := .type "dict", data := .dict #[] }) h.objs.size (.dK []) :=
 ⟨Nat.zero_le _, beq_eq_false_iff_ne.mpr (Ne.symm (Nat.ne_of_lt hb)), [], .nil, Heap.DictOf.new h⟩
def tDNewK : TE := fun _ H Q => ∀ p, H p = none → Q (.ref p) (upd H p (.dK []))
def tDNewT : TE := fun _ H Q => ∀ p, H p = none → Q (.ref p) (upd H p (.dT []))
section
variable {X : Cx} {pos : Pos}
theorem pe_dnewK : PE X (.Dict [] [] pos) tDNewK := fun pins s σ H Q I h =>
 wpAny_Dict_empty ⟨.ref s.heap.objs.size, _, I.laid (a := s.heap.objs.size) (o := .dK []) (t' := s.toks) (fun _ _ q => Heap.get?_push_of_some _ q) (Nat.le_refl _) (dk_empty s.heap I.big), rfl, h _ (I.hok.fresh (Nat.le_refl _))⟩
end
def tPairs : List (TE × TE) → St → Hp → (List (V × V) → Hp → Prop) → Prop
 | [], _, H, Q => Q [] H
 | (tk, tv) :: r, σ, H, Q => tk σ H fun x H1 => tv σ H1 fun y H2 => tPairs r σ H2 fun ps H3 => Q ((x, y) :: ps) H3
abbrev VV : List (V × V) → List (Value × Value) → Prop := Paired fun p q => RelV p.1 q.1 ∧ RelV p.2 q.2
def PPs (X : Cx) (pos : Pos) (keys : List (Option Expr)) (values : List Expr) (trs : List (TE × TE)) : Prop :=
 ∀ (pins : List (Addr × Obj)) (s : Shared) (σ : St) (H : Hp) (Q : List (V × V) → Hp → Prop), Inv X pins σ H s → tPairs trs σ H Q →
  wpAny (model X.prog X.w) X.A (evalPairs (pairTrees keys values X.env pos)) (fun vs s' => ∃ ps H', Inv X pins σ H' s' ∧ VV ps vs ∧ Q ps H') X.xe s
def mergeK (kvs more : List (Key × V)) : List (Key × V) := more.foldl (fun acc kv => putK acc kv.1 kv.2) kvs
def tDisp (trs : List (TE × TE)) : TE := fun σ H Q => ∀ p, H p = none → tPairs trs σ (upd H p (.dK [])) fun ps H2 => H2 p = some (.dK []) ∧ ∃ kvs : List (Key × V), ps = kvs.map (fun kv => (kV kv.1, kv.2)) ∧ kvs.length ≤ 15 ∧ Q (.ref p) (upd H2 p (.dK (mergeK [] kvs)))
structure M1 (X : Cx) (o : Expr) (m : Str) (apos : Pos) (e : Expr) (cpos : Pos) : Prop where
 base : attributeBase o m X.env (eval o X.env) = eval o X.env
 few : ((backTo cpos (starEach [e] X.env)).all (fun x => !x.1) && (backToKw cpos (keywordEach [] X.env)).all (fun x => x.1.isSome)
  && decide (([e] : List Expr).length + ([] : List Keyword).length + (if ([] : List Keyword).isEmpty then 0 else 1) < 30)) = true
 line : (apos.endLine == cpos.line) = true
 trees : backTo cpos (starEach [e] X.env) = [(false, eval e X.env)]
structure M2 (X : Cx) (o : Expr) (m : Str) (apos : Pos) (e f : Expr) (cpos : Pos) : Prop where
 base : attributeBase o m X.env (eval o X.env) = eval o X.env
 few : ((backTo cpos (starEach [e, f] X.env)).all (fun x => !x.1) && (backToKw cpos (keywordEach [] X.env)).all (fun x => x.1.isSome)
  && decide (([e, f] : List Expr).length + ([] : List Keyword).length + (if ([] : List Keyword).isEmpty then 0 else 1) < 30)) = true
 line : (apos.endLine == cpos.line) = true
 trees : backTo cpos (starEach [e, f] X.env) = [(false, eval e X.env), (false, eval f X.env)]
def IsD (H : Hp) (a : Addr) : Prop := (∃ kvs, Rd H a (.dK kvs)) ∨ ∃ kvs, Rd H a (.dT kvs)
theorem isD_at {X : Cx} {pins : List (Addr × Obj)} {σ : St} {H : Hp} {s : Shared} {a : Addr} (I : Inv X pins σ H s) (d : IsD H a) :
  s.TypeIs (.ref a) "dict" ∧ (∀ b, Value.ref a = .ref b → ∃ ob, s.heap.get? b = some ob ∧ ob.dict = none) ∧ (a == sysModules) = false := by
 rcases d with ⟨kvs, e⟩ | ⟨kvs, e⟩
 ·obtain ⟨_, hd, vs, _, dd⟩ := dk_rd I.hok e
  refine ⟨dd.typeIs, fun b q => ?_, hd⟩
  cases q
  obtain ⟨ob, _, _, h1, h2, _⟩ := dd
  exact ⟨ob, h1, h2.2.1⟩
 ·obtain ⟨_, hd, xs, _, dd⟩ := dt_rd I.hok e
  refine ⟨dd.typeIs, fun b q => ?_, hd⟩
  cases q
  obtain ⟨ob, _, _, h1, h2, _⟩ := dd
  exact ⟨ob, h1, h2.2.1⟩
section
variable {X : Cx} {pins : List (Addr × Obj)} {σ : St} {H : Hp} {s : Shared} {a : Addr} {y d : V} {u r : Value} {o : Option V} {A : Around} {E : Value → Shared → Prop}
end
def tDGet1 (td ty : TE) : TE := fun σ H Q => td σ H fun x H1 => ∃ a, x = .ref a ∧ IsD H1 a ∧ ty σ H1 fun y H2 => ∃ o, DGet H2 a y o ∧ Q (o.getD .non) H2
def tDGet2 (td ty tx : TE) : TE := fun σ H Q => td σ H fun x H1 => ∃ a, x = .ref a ∧ IsD H1 a ∧ ty σ H1 fun y H2 => tx σ H2 fun z H3 => ∃ o, DGet H3 a y o ∧ Q (o.getD z) H3
def tDPop1 (td ty : TE) : TE := fun σ H Q => td σ H fun x H1 => ∃ a, x = .ref a ∧ IsD H1 a ∧ ty σ H1 fun y H2 => ∃ kvs k v, H2 a = some (.dK kvs) ∧ y = kV k ∧ valV kvs k = some v ∧ Q v (upd H2 a (.dK (dropK kvs k)))
def tDPop2 (td ty tx : TE) : TE := fun σ H Q => td σ H fun x H1 => ∃ a, x = .ref a ∧ IsD H1 a ∧ ty σ H1 fun y H2 => tx σ H2 fun z H3 => ∃ kvs k, H3 a = some (.dK kvs) ∧ y = kV k ∧
 (∀ v, valV kvs k = some v → Q v (upd H3 a (.dK (dropK kvs k)))) ∧ (valV kvs k = none → Q z H3)
section
variable {X : Cx} {o e f : Expr} {apos cpos : Pos} {td ty tx : TE}
theorem pe_dpop1 (ho : PE X o td) (he : PE X e ty) (m : M1 X o "pop" apos e cpos) : PE X (.Call (.Attribute o "pop" apos) [e] [] cpos) (tDPop1 td ty) := by
 intro pins s σ H Q I h
 refine wpAny_Call_method m.base m.few m.line PySem.F.plainAttrs_dict PySem.F.slot_dict_pop PySem.F.type_dict_pop (thn (ho pins s σ H _ I h) fun u s1 ⟨x, H1, I1, rx, a, ex, d, q1⟩ => ?_)
 subst ex
 obtain rfl : u = Value.ref a := rx
 obtain ⟨t1, t2, _⟩ := isD_at I1 d
 refine ⟨t1, t2, ?_⟩
 rw [m.trees]
 refine Calls.callWith_builtin rfl (Calls.evalArgs_plain (Calls.spliced_cons (thn (he pins s1 σ H1 _ I1 q1) fun iv s2 ⟨y, H2, I2, ry, kvs, k, v, ea, ey, l, q2⟩ => Calls.spliced_nil ?_)))
 subst ey
 exact d_pop I2 ea ry l (.inl rfl) fun w' s3 I3 rw' => ⟨v, _, I3, rw', q2⟩
end
section
variable {X : Cx} {pins : List (Addr × Obj)} {σ : St} {H : Hp} {s : Shared} {a : Addr} {kvs : List (Key × V)} {A : Around} {E : Value → Shared → Prop}
end
section
variable {X : Cx} {pins : List (Addr × Obj)} {σ : St} {H : Hp} {s : Shared} {a : Addr} {y : V} {u : Value} {A : Around} {E : Value → Shared → Prop}
end
end L2
set_option maxHeartbeats 4000000
namespace Ty
open PySem PySem.Spec PyProof.Rows L2
section
variable {X : Cx}
theorem seer_of {pins : List (Addr × Obj)} {σ : L2.St} {H : Hp} {s : Shared} (I : Inv X pins σ H s) : s.heap.NoSeer := I.ok.mod.seer.keeps I.bk
theorem Room.py {k : Nat} {A : Around} (r : Room k A) (h : 32 ≤ k) : A.depth + Builtin.pylongFrames < recursionLimit := by
 have := r.dp
 have : Builtin.pylongFrames = 100 := rfl
 omega
theorem op_fdivU {env : Env} {l : List Env} (ht : X.prog.given.tree = none) (hd : X.A.depth + Builtin.pylongFrames < recursionLimit) (hst : X.stack = env :: l) (h1 : env.scope.isGenerator = false) (h2 : env.scope.isCoroutine = false) (h3 : env.builtins = builtinsNs) (h4 : env.globals = mainGlobals) :
  OpR X (binaryOp .FloorDiv) (rI CMod fun i j => .int (i.fdiv j)) := by
 intro pins s σ H x y v u Q I rx ry h
 obtain ⟨i, j, rfl, rfl, hc, q⟩ := h
 obtain ⟨t, rfl⟩ := rx
 obtain ⟨t', rfl⟩ := ry
 exact floordiv_int hc ⟨.int _, H, I.tok _, ⟨_, rfl⟩, q⟩ (.inr (PylongRoom.of I.nolimit hd (SeerAt.of (seer_of I) ht (by rw [I.ok.frames, hst]) h1 h2 h3 h4)))
end
end Ty
set_option maxHeartbeats 4000000
namespace Ty
open PySem PySem.Spec PyProof.Rows L2
section
variable {prog : Program} {w : World} {A : Around} {E : Value → Shared → Prop} {s : Shared} {KK : Type} [DecidableEq KK] {knd : KeyKind prog w KK}
theorem hint_dict {d : Addr} {kvs : List (KK × Value)} {Q : Bool → Shared → Prop} (hm : s.heap.DictOf knd d kvs) (h : Q false s) : wpAny (model prog w) A (Builtin.List.listLengthHint (.ref d)) Q E s := by
 unfold Builtin.List.listLengthHint
 refine wpAny_bind (wpAny_specialOf (name := Str.ofString "__len__") hm.typeIs F.slot_dict_len.lookup ?_)
 generalize hid : ("dict.__len__" : String) = id0
 wp_delta
 rw [show splitId id0 = some ("dict", "__len__") from by subst hid; decide +kernel]
 subst hid
 refine wpAny_bind (wpAny_isInstance (T := "dict") (b := true) hm.typeIs (by rw [isSubtype_type]; kernel_rfl) ?_)
 refine wpAny_ite_split (fun hab => absurd hab (by decide)) (fun _ => ?_)
 refine wpAny_ite_split (fun _ => ?_) (fun hab => absurd (by decide +kernel) hab)
 refine wpAny_bind (wpAny_typeOf (T := "dict") hm.typeIs ?_)
 exact wpAny_pure h
theorem extend_dict {R : Result → Shared → Prop} {d : Addr} {kvs : List (KK × Value)} {ep : Nat} (hh : A.handled = none) (hd : (d == sysModules) = false) (hm : s.heap.DictAt knd d kvs ep) (hlen : kvs.length ≤ sizeLine) (S : Addr) (res : Value) (c₀ : Nat) (hS : s.heap.get? S = some { cls := .type "list", data := .seq #[] c₀ })
  (hR : ∀ h' tk acc' c', (∀ b o, b ≠ S → s.heap.get? b = some o → h'.get? b = some o) → h'.get? S = some { cls := .type "list", dict := none, data := .seq acc' c', slots := #[] } →
   ItemsOf (fun i v => ∃ k x, kvs[i]? = some (k, x) ∧ knd.is k v = true) acc' kvs.length → R (.ok (.ret res)) { s with heap := h', toks := tk }) :
  wpAny (model prog w) A.in1 (Builtin.List.listExtendWith (.ref S) (.ref d) res)
   (fun fin s' => match fin with | .done f => R (.ok f) s' | .again c' => c'.quiet = true ∧ codeAny (model prog w) A c' R s') (fun e s' => R (.error e) s') s := by
 obtain ⟨od, es, hod, hcd, hdat, hk0, hp0, hn0⟩ := id hm
 have hT : s.TypeIs (.ref d) "dict" := hm.dictOf.typeIs
 have hSd : S ≠ d := fun e => by
  rw [e] at hS
  rw [hS] at hod
  cases hod
  cases hdat
 have hdI : d ≠ s.heap.objs.size := Nat.ne_of_lt (Heap.lt_size hod)
 have hSI : S ≠ s.heap.objs.size := Nat.ne_of_lt (Heap.lt_size hS)
 have hSf : S ∉ [s.heap.objs.size, d] := fun hm => by
  rcases List.mem_cons.mp hm with z | z
  ·exact hSI z
  ·exact hSd (List.mem_singleton.mp z)
 have W := (Walks.dictKeys (knd := knd) (A := A.in1) hh s.heap.objs.size d hdI kvs ep).toS
 unfold Builtin.List.listExtendWith
 refine wpAny_bind (wpAny_typeOf (T := "dict") hT ?_)
 have h1 : Builtin.List.listSameRef (.ref S) (.ref d) = false := by simp [Builtin.List.listSameRef, hSd]
 have h2 : (Value.type "dict" == Value.type "list") = false := by decide
 have h3 : (Value.type "dict" == Value.type "tuple") = false := by decide
 simp only [h1, h2, h3, Bool.or_false, Bool.false_eq_true, if_false]
 refine wpAny_bind (wpAny_pyIter_dict hd hm ?_)
 have hm1 : (s.heap.push { cls := .type "dict_keyiterator", data := .fields #[.ref d, .int 0 0, .int kvs.length 0, .int ep 0] }).DictAt knd d kvs ep := hm.at' fun o e => Heap.get?_push_of_some _ e
 refine wpAny_bind (wpAny_holding (hint_dict (knd := knd) hm1.dictOf ?_))
 have hS₁ := Heap.get?_push_of_some { cls := .type "dict_keyiterator", data := .fields #[.ref d, .int 0 0, .int kvs.length 0, .int ep 0] } hS
 have it₁ : (s.heap.push { cls := .type "dict_keyiterator", data := .fields #[.ref d, .int 0 0, .int kvs.length 0, .int ep 0] }).IsKeyIter s.heap.objs.size d 0 kvs.length ep := ⟨_, Heap.get?_push_size _ rfl, rfl, rfl⟩
 have key : ∀ (h : Heap) (c₁ tk : Nat), h.IsKeyIter s.heap.objs.size d 0 kvs.length ep → h.DictAt knd d kvs ep → (∀ b o, b ≠ S → s.heap.get? b = some o → h.get? b = some o) →
   h.get? S = some { cls := .type "list", data := .seq #[] c₁ } → codeAny (model prog w) A (.builtin "list.extend.loop" ⟨[.ref S, .ref s.heap.objs.size, res], []⟩) R { s with heap := h, toks := tk } := by
  intro h c₁ tk hit hdm hk hS₁
  refine codeAny_extend_loopS W hlen S hSf res kvs.length 0 _ #[] c₁ rfl (Nat.zero_le _) ⟨hit, hdm⟩ hS₁ (ItemsOf.nil _) fun s' acc' c' hm' hS' hacc => ?_
  rw [Moved.eq_with hm']
  refine hR s'.heap s'.toks acc' c' (fun b o hb e => hm'.heap b o (fun hmem => ?_) (hk b o hb e)) hS' hacc
  rcases List.mem_cons.mp hmem with e' | hmem
  ·exact hb e'
  ·exact absurd (Heap.lt_size e) (by rw [List.mem_singleton.mp hmem]; exact Nat.lt_irrefl _)
 refine wpAny_ite_split (fun _ => ?_) (fun _ => wpAny_pure ⟨plainId_quiet F.plain_extend_loop _, key _ c₀ _ it₁ hm1 (fun b o _ e => Heap.get?_push_of_some _ e) hS₁⟩)
 refine wpAny_bind (wpAny_rule ?_)
 refine wpAny_bind ?_
 show wpAny _ _ (updateSeq S (·.push .none) >>= fun _ => updateSeq S (·.pop)) _ _ _
 refine wpAny_bind (wpAny_updateSeq hS₁ rfl ?_)
 have hS₂ := Heap.get?_update_self (Obj.mapSeq (·.push Value.none)) hS₁ rfl
 refine wpAny_updateSeq (hz := by seq_fits) hS₂ rfl ?_
 have hS₃ := Heap.get?_update_self (Obj.mapSeq (·.pop)) hS₂ rfl
 refine wpAny_pure ⟨plainId_quiet F.plain_extend_loop _, key _ _ _ (it₁.at fun o e => ?_) (hm1.at' fun o e => ?_) (fun b o hb e => ?_) hS₃⟩
 ·exact (Heap.get?_update_other _ _ hSI).trans ((Heap.get?_update_other _ _ hSI).trans e)
 ·exact (Heap.get?_update_other _ _ hSd).trans ((Heap.get?_update_other _ _ hSd).trans e)
 ·exact (Heap.get?_update_other _ _ (Ne.symm hb)).trans ((Heap.get?_update_other _ _ (Ne.symm hb)).trans (Heap.get?_push_of_some _ e))
theorem list_init_dict {R : Result → Shared → Prop} {d : Addr} {kvs : List (KK × Value)} {ep : Nat} (hh : A.handled = none) (hd : (d == sysModules) = false) (hm : s.heap.DictAt knd d kvs ep) (hlen : kvs.length ≤ sizeLine) (S : Addr) (hS : s.heap.get? S = some { cls := .type "list", data := .seq #[] })
  (hR : ∀ h' tk acc' c', (∀ b o, b ≠ S → s.heap.get? b = some o → h'.get? b = some o) → h'.get? S = some { cls := .type "list", dict := none, data := .seq acc' c', slots := #[] } →
   ItemsOf (fun i v => ∃ k x, kvs[i]? = some (k, x) ∧ knd.is k v = true) acc' kvs.length → R (.ok (.ret .none)) { s with heap := h', toks := tk }) :
  wpAny (model prog w) A.in1 (Builtin.«list.__init__» ⟨[.ref S, .ref d], []⟩)
   (fun fin s' => match fin with | .done f => R (.ok f) s' | .again c' => c'.quiet = true ∧ codeAny (model prog w) A c' R s') (fun e s' => R (.error e) s') s := by
 obtain ⟨od, es, hod, hcd, hdat, hk0, hp0, hn0⟩ := id hm
 have hSd : S ≠ d := fun e => by
  rw [e] at hS
  rw [hS] at hod
  cases hod
  cases hdat
 show wpAny _ _ (do let old ← Builtin.List.listItems (.ref S); Builtin.List.listUpdate (.ref S) (fun _ => #[]); letGo old.toList.reverse; Builtin.List.listExtendWith (.ref S) (.ref d) .none) _ _ s
 refine wpAny_bind ?_
 unfold Builtin.List.listItems
 refine wpAny_bind (wpAny_seqItems hS rfl (wpAny_pure ?_))
 show wpAny _ _ (updateSeq S (fun _ => #[]) >>= fun _ => letGo (#[] : Array Value).toList.reverse >>= fun _ => Builtin.List.listExtendWith (.ref S) (.ref d) .none) _ _ s
 refine wpAny_bind (wpAny_updateSeq hS rfl ?_)
 have hS₂ := Heap.get?_update_self (Obj.mapSeq (fun _ => (#[] : Array Value))) hS rfl
 have oth : ∀ b o, b ≠ S → s.heap.get? b = some o → (s.heap.update S (Obj.mapSeq (fun _ => (#[] : Array Value)))).get? b = some o :=
  fun b o hb e => (Heap.get?_update_other _ _ (Ne.symm hb)).trans e
 refine wpAny_bind (wpAny_letGo ?_)
 refine extend_dict hh hd (hm.at' fun o e => oth d o (Ne.symm hSd) e) hlen S .none _ hS₂ fun h' tk acc' c' hk hS' hacc => ?_
 exact hR h' tk acc' c' (fun b o hb e => hk b o hb (oth b o hb e)) hS' hacc
theorem call_list_dict {Q : Value → Shared → Prop} {d : Addr} {kvs : List (KK × Value)} {ep : Nat} (hh : A.handled = none) (hd : (d == sysModules) = false) (hm : s.heap.DictAt knd d kvs ep) (hlen : kvs.length ≤ sizeLine)
  (hQ : ∀ h' tk acc' c', (∀ b o, s.heap.get? b = some o → h'.get? b = some o) →
   h'.get? s.heap.objs.size = some { cls := .type "list", dict := none, data := .seq acc' c', slots := #[] } → ItemsOf (fun i v => ∃ k x, kvs[i]? = some (k, x) ∧ knd.is k v = true) acc' kvs.length → Q (.ref s.heap.objs.size) { s with heap := h', toks := tk }) :
  wpAny (model prog w) A (call (.type "list") [.ref d]) Q E s := by
 refine callType_codes (Q₁ := fun obj s₁ => obj = .ref s.heap.objs.size ∧ s₁ = { s with heap := s.heap.push { cls := .type "list", data := .seq #[] } }) F.called_list (F.typeCall_list_1 _) F.entry_list_init
  (code_list_new _ ⟨rfl, rfl⟩) fun obj s₁ h₁ => ?_
 obtain ⟨rfl, rfl⟩ := h₁
 have hS : (s.heap.push { cls := .type "list", data := .seq #[] }).get? s.heap.objs.size = some { cls := .type "list", data := .seq #[] } := Heap.get?_push_size _ rfl
 refine ⟨⟨_, hS, rfl⟩, F.args_list_init_2 _ _, list_init_dict (A := A.in1) hh hd (hm.at' fun o e => Heap.get?_push_of_some _ e) hlen _ hS fun h' tk acc' c' hk hS' hacc => ?_⟩
 exact ⟨rfl, hQ h' tk acc' c' (fun b o e => hk b o (Nat.ne_of_lt (Heap.lt_size e)) (Heap.get?_push_of_some _ e)) hS' hacc⟩
end
theorem paired_get {α β : Type} {F : α → β → Prop} : ∀ {l₁ : List α} {l₂ : List β} {i : Nat} {a : α}, Paired F l₁ l₂ → l₁[i]? = some a → ∃ b, l₂[i]? = some b ∧ F a b
 | _, _, _, _, .nil, h => by simp at h
 | _, _, 0, _, .cons r _, h => by
  cases h
  exact ⟨_, rfl, r⟩
 | _, _, i + 1, _, .cons _ t, h => by
  obtain ⟨b, e, f⟩ := paired_get (i := i) t (by simpa using h)
  exact ⟨b, by simpa using e, f⟩
theorem paired_of {α β : Type} {F : α → β → Prop} : ∀ {l₁ : List α} {l₂ : List β}, l₁.length = l₂.length → (∀ (i : Nat) (a : α) (b : β), l₁[i]? = some a → l₂[i]? = some b → F a b) → Paired F l₁ l₂
 | [], [], _, _ => .nil
 | a :: l₁, b :: l₂, h, f => .cons (f 0 a b rfl rfl) (paired_of (by simpa using h) fun i a b e1 e2 => f (i + 1) a b (by simpa using e1) (by simpa using e2))
 | [], _ :: _, h, _ => by simp at h
 | _ :: _, [], h, _ => by simp at h
theorem key_rel {P : Program} {w : World} {k : Key} {u : Value} (h : (mixKind P w).is k u = true) : RelV (kV k) u := by
 rcases keyIs_shape h with ⟨i, t, rfl, rfl⟩ | ⟨x, t, rfl, rfl⟩
 ·exact ⟨t, rfl⟩
 ·exact ⟨t, rfl⟩
section
variable {X : Cx}
def rListD : List V → Hp → VK → Prop := fun xs H Q => ∃ (p : Addr) (kvs : List (Key × V)), xs = [.ref p] ∧ Rd H p (.dK kvs) ∧ ∀ l, H l = none → Q (.ref l) (upd H l (.lst (kvs.map fun kv => kV kv.1)))
theorem call_listD (hc : X.calm = true) : CallR X (.type "list") rListD := by
 intro pins s σ H xs us Q I r h
 obtain ⟨p, kvs, rfl, hq, q⟩ := h
 obtain ⟨u, rfl, r1⟩ := vals1 r
 cases r1
 obtain ⟨z, hd, vs, rel, o, es, ep, ho, hx, hdat, hk, hp, hn⟩ := dk_rd I.hok hq
 have hl := rel.length
 refine call_list_dict (knd := mixKind X.prog X.w) (I.ok.hd hc) hd ⟨o, es, ho, hx, hdat, hk, hp, hn⟩ (by omega) fun h' tk acc' c' kk hS hacc => ?_
 have hn' := I.hok.fresh (Nat.le_refl s.heap.objs.size)
 have rv : Vals (kvs.map fun kv => kV kv.1) acc'.toList := paired_of (by have := hacc.1; simp; omega) fun i a b e1 e2 => by
  rw [List.getElem?_map] at e1
  obtain ⟨kv, ek, rfl⟩ := Option.map_eq_some_iff.mp e1
  obtain ⟨q', eq, e3, _⟩ := paired_get rel ek
  obtain ⟨k, x, e4, e5⟩ := hacc.2 i b (by simpa using e2)
  rw [eq] at e4
  cases e4
  rw [e3]
  exact key_rel e5
 have I2 : Inv X pins σ (upd H s.heap.objs.size (.lst (kvs.map fun kv => kV kv.1))) { s with heap := h', toks := tk } := I.laid (t' := tk) kk (Nat.le_refl _) ⟨by rw [List.length_map]; exact z, acc'.toList, c', rv, by simpa using hS⟩
 exact ⟨.ref _, _, I2, rfl, q _ hn'⟩
theorem Inv.freeze {pins : List (Addr × Obj)} {σ : L2.St} {H : Hp} {s : Shared} {d : Addr} {kvs : List (Key × V)} {o : Obj} (I : Inv X pins σ H s) (e : H d = some (.dK kvs)) (ho : s.heap.get? d = some o) : Inv X pins σ (upd H d (.frz o (.dK kvs))) s := by
 have nx : ∀ b u, H b = some u → b ≠ d → upd H d (.frz o (.dK kvs)) b = some u := fun b u q n => by rw [upd_ne n]; exact q
 refine I.step (g' := s.gens) (t' := s.toks) (d' := s.drawn) (ch := []) (fun _ z => nomatch z) (fun b o _ _ _ e _ => e) (fun b o _ _ _ e _ => ⟨o.slots, e⟩) (fun b o _ _ n => by rw [upd_ne (fun z => by rw [z, e] at n; cases n)]; exact n) (fun b o _ e => ⟨o, e⟩)
  (fun b xs q => nx b _ q fun z => by rw [z, e] at q; cases q) (fun b o' u q => nx b _ q fun z => by rw [z, e] at q; cases q) (fun b ps q => ⟨#[], by rw [nx b _ q fun z => by rw [z, e] at q; cases q]; simp⟩) (fun m hm => hm) (fun b u q => ?_) I.bare
 by_cases hb : b = d
 ·subst hb
  rw [upd_same] at q
  cases q
  exact ⟨ho, I.hok b _ e⟩
 ·rw [upd_ne hb] at q
  exact (I.hok b u q).stay (fun _ _ _ k => k) (fun c k => nx c _ k fun z => by rw [z, e] at k; cases k) fun c xs k => nx c _ k fun z => by rw [z, e] at k; cases k
def Itd (d : Addr) (o : Obj) (kvs : List (Key × V)) : It :=
 ⟨fun i H => H d = some (.frz o (.dK kvs)) ∧ i < kvs.length,
  fun i H v H' => ∃ p k x, kvs[i]? = some (k, x) ∧ v = .ref p ∧ H p = none ∧ H' = upd H p (.tup [kV k, x]),
  fun i H => H d = some (.frz o (.dK kvs)) ∧ kvs.length ≤ i⟩
theorem frz_at {P : Program} {w : World} {H : Hp} {h : Heap} {d : Addr} {o : Obj} {kvs : List (Key × V)} {es0 : Array DictEntry} {ep : Nat} (ok : HOk P w H h) (e : H d = some (.frz o (.dK kvs))) (he : o.data = .dict es0 ep) :
  (d == sysModules) = false ∧ ∃ vs, KV kvs vs ∧ h.DictAt (mixKind P w) d vs ep ∧ kvs.length ≤ sizeLine := by
 obtain ⟨h1, z, hd, vs, rel, o', es, ep', ho, hx, hdat, hk, hp, hn⟩ := ok d _ e
 rw [h1] at ho
 cases ho
 rw [he] at hdat
 cases hdat
 exact ⟨hd, vs, rel, ⟨o, es0, h1, hx, he, hk, hp, hn⟩, z⟩
theorem entry_iter_items : entryFor table "dict_itemiterator.__iter__" = some Builtin.«dict_keyiterator.__iter__» :=
 entryFor_alias (id' := "dict_keyiterator.__iter__") (by kernel_rfl) (by first | rfl | decide +kernel | (unfold String.splitOn; simp +decide [String.splitOnAux])) (by decide +kernel) (by kernel_rfl)
theorem iter_items {P : Program} {w : World} {A : Around} {E : Value → Shared → Prop} {s : Shared} {it d : Addr} {i n ep : Nat} {ok ov : Value} {Q : Value → Shared → Prop} (st : IsItemIter s.heap it d i n ep ok ov) (h : Q (.ref it) s) : wpAny (model P w) A (pyIter (.ref it)) Q E s := by
 have hT : s.TypeIs (.ref it) "dict_itemiterator" := ⟨_, st, rfl⟩
 refine wpAny_pyIter_slot hT F.slot_dict_itemiterator_iter (wpAny_call_entry F.slot_dict_itemiterator_iter hT entry_iter_items ?_ (F.args_dict_itemiterator_iter_1 _))
 show wpAny _ _ (ret (.ref it)) _ _ s
 exact wpAny_pure ⟨_, rfl, "dict_itemiterator", _, hT, F.slot_dict_itemiterator_next.lookup, h⟩
theorem turn_items {P : Program} {w : World} {K : Frag} {es : List Expr} {k : Nat} {pos : Pos} (d it : Addr) (o : Obj) (kvs : List (Key × V)) {es0 : Array DictEntry} {ep : Nat} (he : o.data = .dict es0 ep) (hne : it ≠ d) :
  Turn P w K (.Tuple es k pos) (Itd d o kvs) [it] it (fun i h => ∃ ok ov, IsItemIter h it d i kvs.length ep ok ov) where
 mem := by simp
 obj := fun i h st b hb => by
  have e : b = it := by simpa using hb
  subst e
  obtain ⟨ok, ov, st⟩ := st
  exact ⟨_, st, fun v z => by cases z⟩
 keep := fun i h h' st k => by
  obtain ⟨ok, ov, st⟩ := st
  exact ⟨ok, ov, k it (by simp) _ st⟩
 item := by
  intro X hP hw hK hc i pins s σ H E I hf st hg
  subst hP hw hK
  obtain ⟨ok, ov, st⟩ := st
  obtain ⟨fz, hi⟩ := hg
  obtain ⟨hd, vs, rel, da, _⟩ := frz_at I.hok fz he
  have ek : kvs[i]? = some kvs[i] := gE hi
  obtain ⟨⟨k', u⟩, ev, e1, ru⟩ := paired_get rel ek
  have lv := rel.length
  rw [lv] at st
  refine wpAny_pyNext_items_item st da ev fun key h' hkey out tup sz kk => ?_
  refine ⟨_, rfl, wpAny_letOwnedTupleGo_items (s := { s with heap := h' }) out fun h'' it'' sb => ?_⟩
  have hsz : ∀ c o, s.heap.get? c = some o → s.heap.objs.size ≠ c := fun c o e => Nat.ne_of_gt (Heap.lt_size e)
  have tz : s.heap.objs.size ≠ it := hsz _ _ st
  have nz : ∀ c, c ≠ it → ∀ o, h'.get? c = some o → h''.get? c = some o := fun c hc o e => (sb.2 c hc).trans e
  have hn := I.hok.fresh (Nat.le_refl s.heap.objs.size)
  have e1' : kvs[i].1 = k' := e1
  have I2 : Inv X pins σ (upd H s.heap.objs.size (.tup [kV kvs[i].1, kvs[i].2])) { s with heap := h'', toks := s.toks } :=
   Inv.turnedT I (fun b o hb e => nz b (by simpa using hb) o (kk b o (by simpa using hb) e)) hf (Nat.le_refl _) (by show 2 ≤ sizeLine; decide) (its := [key, u]) (.cons (by rw [e1']; exact key_rel hkey) (.cons ru .nil)) ⟨_, nz _ tz _ tup, rfl, _, rfl⟩
  refine ⟨.ref s.heap.objs.size, _, I2, rfl, ⟨s.heap.objs.size, kvs[i].1, kvs[i].2, ek, rfl, hn, rfl⟩, ⟨_, _, by rw [lv]; exact it''⟩, fun b hb => ?_⟩
  have eb : b = it := by simpa using hb
  rw [upd_ne (by rw [eb]; exact Ne.symm tz)]
  exact (hf b hb).1
 done := by
  intro X hP hw hK hc i pins s σ H E I hf st hg
  subst hP hw hK
  obtain ⟨ok, ov, st⟩ := st
  obtain ⟨fz, hi⟩ := hg
  obtain ⟨hd, vs, rel, da, _⟩ := frz_at I.hok fz he
  have lv := rel.length
  rw [lv] at st
  obtain ⟨f0, f1, f2, f3, f4, f5⟩ := hf it (by simp)
  exact wpAny_pyNext_items_end (I.ok.hd hc) st da (List.getElem?_eq_none (by omega)) fun h' eb => ⟨rfl, I.turned (t' := s.toks) (fun b o hb e => eb b o hb e) f0 f1 f3 f4 f5⟩
 self := fun _ _ _ _ _ st h => by
  obtain ⟨ok, ov, st⟩ := st
  exact iter_items st h
def iItems (te : TE) : TI := fun σ H R => te σ H fun x H1 => ∃ d kvs, x = .ref d ∧ H1 d = some (.dK kvs) ∧ ∀ o, R (Itd d o kvs) (upd H1 d (.frz o (.dK kvs)))
theorem pi_items {e : Expr} {te : TE} {apos cpos : Pos} {es : List Expr} {k : Nat} {tpos : Pos} (ho : PE X e te) (hbase : attributeBase e "items" X.env (eval e X.env) = eval e X.env := by rfl) (hline : (apos.endLine == cpos.line) = true := by rfl) :
  PI X (.Tuple es k tpos) (.Call (.Attribute e "items" apos) [] [] cpos) (iItems te) := by
 intro pins s σ H R I h
 refine wpAny_Call_method0_late hbase hline (thn (ho pins s σ H _ I h) fun v s1 ⟨x, H1, I1, r1, q1⟩ => ?_)
 obtain ⟨d, kvs, rfl, e, q⟩ := q1
 cases r1
 obtain ⟨z, hd, vs, rel, o, es1, ep, ho1, hx, hdat, hk, hp, hn⟩ := dk_of I1.hok e
 obtain ⟨h1, h2⟩ := tyV_is (T := "dict") I1 (show RelV (.ref d) (.ref d) from rfl) (.inr (.inr (.inl ⟨rfl, .inl ⟨kvs, e⟩⟩)))
 have da : s1.heap.DictAt (mixKind X.prog X.w) d vs ep := ⟨o, es1, ho1, hx, hdat, hk, hp, hn⟩
 have lv := rel.length
 refine ⟨"dict", "dict.items", F.plainAttrs_dict, F.slot_dict_items, F.type_dict_items, h1, h2, Calls.callWith_builtin rfl (PySem.evalArgs_none ?_)⟩
 refine call_meetsIn F.slot_dict_items h1 F.entry_dict_items (F.args_dict_items_1 _) (meets_dict_items (mixKind X.prog X.w) d hd) ⟨⟨vs, da.dictOf⟩, ?_⟩
 have I2 := Inv.freeze I1 e ho1
 have da2 : (s1.heap.push { cls := .type "dict_items", data := .fields #[.ref d] }).DictAt (mixKind X.prog X.w) d vs ep := da.at' fun o e => Heap.get?_push_of_some _ e
 show wpAny (model X.prog X.w) X.A (pyIter (.ref s1.heap.objs.size)) _ _ _
 refine wpAny_pyIter_items (s := { s1 with heap := s1.heap.push { cls := .type "dict_items", data := .fields #[.ref d] } }) ⟨_, Heap.get?_push_size _ rfl, rfl, rfl⟩ da2 ?_
 have sz : (s1.heap.push { cls := .type "dict_items", data := .fields #[.ref d] }).objs.size = s1.heap.objs.size + 1 := Heap.size_push ..
 have ne : (s1.heap.push { cls := .type "dict_items", data := .fields #[.ref d] }).objs.size ≠ d := by
  rw [sz]
  exact Ne.symm (Nat.ne_of_lt (Nat.lt_succ_of_lt (Heap.lt_size ho1)))
 have I3 : Inv X pins σ (upd H1 d (.frz o (.dK kvs))) { s1 with heap := (s1.heap.push { cls := .type "dict_items", data := .fields #[.ref d] }).push { cls := .type "dict_itemiterator", data := .fields #[.none, .bool false, .ref d, .int 0 0, .int vs.length 0, .int ep 0, .none, .none] } } := I2.kept (t' := s1.toks) fun b o e => Heap.get?_push_of_some _ (Heap.get?_push_of_some _ e)
 refine ⟨_, [_], _, _, _, rfl, I3, turn_items d _ o kvs hdat ne, ⟨_, _, by rw [lv]; exact Heap.get?_push_size _ rfl⟩, fun b hb => ?_, q o⟩
 have eb : b = (s1.heap.push { cls := .type "dict_items", data := .fields #[.ref d] }).objs.size := by simpa using hb
 have le : s1.heap.objs.size ≤ b := by rw [eb, sz]; exact Nat.le_succ _
 exact I2.fpOk le (I2.hok.fresh le)
end
end Ty
set_option maxHeartbeats 4000000
namespace Ty
def ev : List Int → (Nat → Rat) → Rat
 | [], _ => 0
 | a :: r, z => (a : Rat) * z 0 + ev r (fun i => z (i + 1))
def csum : List Rat → List (List Int) → Nat → Rat
 | c :: y, o :: os, j => c * ((o.getD j 0 : Int) : Rat) + csum y os j
 | _, _, _ => 0
def Comb (os : List (List Int)) (l : List Int) : Prop := ∃ y : List Rat, y.length = os.length ∧ ∀ j, ((l.getD j 0 : Int) : Rat) = csum y os j
def zOf (y : List Rat) : Nat → Rat := fun i => if i < y.length then y.getD i 0 else -1
structure Clr (line lead new : List Int) (c : Nat) : Prop where
 len : new.length = line.length
 nought : new.getD c 0 = 0
 lin : ∃ s t u : Int, s ≠ 0 ∧ t ≠ 0 ∧ ∀ j, s * new.getD j 0 = t * line.getD j 0 - u * lead.getD j 0
end Ty
set_option maxHeartbeats 4000000
namespace Ty
open PySem PySem.Spec PyProof.Rows L2
def Itn (K : Frag) (a : Addr) : It :=
 ⟨fun i H => ∃ xs x, SqL K H a xs ∧ xs[i]? = some x,
  fun i H v H' => ∃ p x, (∀ xs, SqL K H a xs → xs[i]? = some x) ∧ v = .ref p ∧ H p = none ∧ H' = upd H p (.tup [.int (i : Int), x]),
  fun i H => ∃ xs, SqL K H a xs ∧ xs.length ≤ i⟩
theorem turn_enum {P : Program} {w : World} {K : Frag} {es : List Expr} {k : Nat} {pos : Pos} (a e it : Addr) (hne : e ≠ it) :
  Turn P w K (.Tuple es k pos) (Itn K a) [e, it] e (fun i h => (∃ old, IsEnum h e it ((i : Nat) : Int) old) ∧ h.IsListIter it a i) where
 mem := by simp
 obj := fun i h st c hc => by
  obtain ⟨⟨old, he⟩, ⟨o1, e1, c1, d1⟩⟩ := st
  have hc' : c = e ∨ c = it := by simpa using hc
  rcases hc' with z | z <;> subst z
  ·exact ⟨_, he, fun v z => by cases z⟩
  ·exact ⟨_, e1, fun v z => by rw [d1] at z; cases z⟩
 keep := fun i h h' st k => by
  obtain ⟨⟨old, he⟩, h1⟩ := st
  exact ⟨⟨old, k e (by simp) _ he⟩, h1.at fun o e => k it (by simp) o e⟩
 item := by
  intro X hP hw hK hc i pins s σ H E I hf st hg
  subst hP hw hK
  obtain ⟨⟨old, he⟩, h1⟩ := st
  obtain ⟨xs, x, qx, ex⟩ := hg
  obtain ⟨its, rv, p, _⟩ := I.list qx
  obtain ⟨u, hu, ru⟩ := rv.get ex
  refine wpAny_pyNext_enum_item he h1 p.isList (x := u) (by simpa using hu) hne fun h' a1 a2 a3 a4 a5 => ?_
  refine ⟨_, rfl, wpAny_letOwnedTupleGo_enum (s := { s with heap := h', toks := s.toks + 1 }) a1 fun h'' b1 sb => ?_⟩
  have nz : ∀ c, c ≠ e → ∀ o, h'.get? c = some o → h''.get? c = some o := fun c hc o q => (sb.2 c hc).trans q
  have kk : ∀ b o, b ∉ [e, it] → s.heap.get? b = some o → h''.get? b = some o := fun b o hb q => by
   have hb' : b ≠ e ∧ b ≠ it := by simpa using hb
   exact nz b hb'.1 o (a5 b o hb'.1 hb'.2 q)
  have sz : ∀ c o, s.heap.get? c = some o → s.heap.objs.size ≠ c := fun c o q => Nat.ne_of_gt (Heap.lt_size q)
  have tz : s.heap.objs.size ≠ e := sz _ _ he
  have hn := I.hok.fresh (Nat.le_refl s.heap.objs.size)
  have I2 : Inv X pins σ (upd H s.heap.objs.size (.tup [.int (i : Int), x])) { s with heap := h'', toks := s.toks + 1 } :=
   Inv.turnedT I kk hf (Nat.le_refl _) (by show 2 ≤ sizeLine; decide) (its := [.int i s.toks, u]) (.cons ⟨_, rfl⟩ (.cons ru .nil)) ⟨_, nz _ tz _ a3, rfl, _, rfl⟩
  refine ⟨.ref s.heap.objs.size, _, I2, rfl, ⟨s.heap.objs.size, x, fun xs' q => by rw [I.list_inj q qx]; exact ex, rfl, hn, rfl⟩, ⟨⟨_, by exact b1⟩, a2.at fun o q => nz _ (Ne.symm hne) o q⟩, fun b hb => ?_⟩
  have ob : ∃ o, s.heap.get? b = some o := by
   obtain ⟨o1, e1, _⟩ := h1
   have hc' : b = e ∨ b = it := by simpa using hb
   rcases hc' with z | z <;> subst z
   ·exact ⟨_, he⟩
   ·exact ⟨_, e1⟩
  obtain ⟨o, q⟩ := ob
  rw [upd_ne (Ne.symm (sz _ _ q))]
  exact (hf b hb).1
 done := by
  intro X hP hw hK hc i pins s σ H E I hf st hg
  subst hP hw hK
  obtain ⟨⟨old, he⟩, h1⟩ := st
  obtain ⟨xs, qx, ee⟩ := hg
  obtain ⟨its, rv, p, _⟩ := I.list qx
  have l1 := rv.length
  refine wpAny_pyNext_enum_end (I.ok.hd hc) he h1 p.isList (by simp; omega) fun h' kk => ⟨rfl, Inv.turnedL I (fun b o hb q => ?_) hf⟩
  have hb' : b ≠ e ∧ b ≠ it := by simpa using hb
  exact kk b o hb'.2 q
 self := fun _ _ _ _ _ st h => by
  obtain ⟨⟨old, he⟩, _⟩ := st
  exact wpAny_pyIter_enum he h
theorem boot_enumerate : bootBuiltins "enumerate" = some (.type "enumerate") := by decide +kernel
section
variable {X : Cx}
def iEnum (K : Frag) (ta : TA) : TI := fun σ H R => ta σ H fun vs H1 => ∃ a, vs = [.ref a] ∧ (∃ xs, SqL K H1 a xs) ∧ R (Itn K a) H1
theorem pi_enum {e1 : Expr} {ta : TA} {p pos : Pos} {es : List Expr} {k : Nat} {tpos : Pos} (hg : Gl X "enumerate") (hm : X.mg "enumerate" = none) (ha : PA X [e1] ta) (hs : starEach [e1] X.env = [(false, eval e1 X.env)] := by rfl) :
  PI X (.Tuple es k tpos) (.Call (.Name "enumerate" p) [e1] [] pos) (iEnum X.K ta) := by
 intro pins s σ H R I h
 refine Call_ (ld_blt I hg hm boot_enumerate (PyProof.Rows.callWith_type1 (thn (ha pos pins s σ H _ I h) fun us s1 ⟨vs, H1, I1, r1, q1⟩ => ?_) hs rfl))
 obtain ⟨a, e, ⟨xs, hx⟩, q⟩ := q1
 subst e
 cases r1 with
 | cons r rr =>
  cases rr
  cases r
  obtain ⟨its, rv, pl, _⟩ := I1.list hx
  refine call_enumerate_list pl.isList fun h' hE hI hsz hk => wpAny_pyIter_enum (s := { s1 with heap := h' }) hE ?_
  refine ⟨s1.heap.objs.size + 1, [s1.heap.objs.size + 1, s1.heap.objs.size], _, _, H1, rfl, I1.kept (t' := s1.toks) hk, turn_enum a _ _ (Nat.succ_ne_self _), ⟨⟨_, hE⟩, hI⟩, fun c hc => ?_, q⟩
  have hc' : s1.heap.objs.size ≤ c := by
   have : c = s1.heap.objs.size + 1 ∨ c = s1.heap.objs.size := by simpa using hc
   simp only [Addr] at *
   omega
  exact I1.fpOk hc' (I1.hok.fresh hc')
def rAny (K : Frag) : List V → Hp → VK → Prop := fun xs H Q => ∃ (p : Addr) (bs : List Bool), xs = [.ref p] ∧ SqL K H p (bs.map V.bl) ∧ Q (.bl (bs.any id)) H
end
theorem for_enum {K : Frag} {a : Addr} {xs : List V} {g : TG} {tb : TS} {D : Ends} {σ : L2.St} {H : Hp} (Pv : Nat → L2.St → Hp → Prop) (h0 : Pv 0 σ H) (hl : ∀ i σ H, i ≤ xs.length → Pv i σ H → SqL K H a xs)
  (hs : ∀ i x σ H p, xs[i]? = some x → Pv i σ H → H p = none → g (.ref p) σ (upd H p (.tup [.int (i : Int), x])) fun σ2 H2 => tb { D with nx := Pv (i + 1), ct := Pv (i + 1), bk := D.nx } σ2 H2) (hd : ∀ σ H, Pv xs.length σ H → D.nx σ H) :
  ∃ W : Nat → Nat → L2.St → Hp → Prop, (∃ m, W 0 m σ H) ∧ ∀ i m σ H, W i m σ H →
   ((Itn K a).stop i H ∧ D.nx σ H) ∨ ((Itn K a).go i H ∧ ∃ N : L2.St → Hp → Prop, (∀ σ' H', N σ' H' → ∃ m', m' < m ∧ W (i + 1) m' σ' H') ∧ ∀ x H', (Itn K a).yld i H x H' → g x σ H' fun σ2 H2 => tb { D with nx := N, ct := N, bk := D.nx } σ2 H2) := by
 refine ⟨fun i m σ H => m = xs.length - i ∧ i ≤ xs.length ∧ Pv i σ H, ⟨xs.length, by simp, Nat.zero_le _, h0⟩, ?_⟩
 rintro i m σ H ⟨rfl, hi, p⟩
 have q := hl i σ H hi p
 by_cases hlt : i < xs.length
 ·have e : xs[i]? = some xs[i] := gE hlt
  refine .inr ⟨⟨xs, _, q, e⟩, Pv (i + 1), fun σ' H' z => ⟨xs.length - (i + 1), by omega, rfl, by omega, z⟩, fun x H' y => ?_⟩
  obtain ⟨pp, x', y1, rfl, np, rfl⟩ := y
  exact hs i x' σ H pp (y1 xs q) p np
 ·have e : i = xs.length := by omega
  subst e
  exact .inl ⟨⟨xs, q, Nat.le_refl _⟩, hd σ H p⟩
theorem for_items {d : Addr} {o : Obj} {kvs : List (Key × V)} {g : TG} {tb : TS} {D : Ends} {σ : L2.St} {H : Hp} (Pv : Nat → L2.St → Hp → Prop) (h0 : Pv 0 σ H) (hl : ∀ i σ H, i ≤ kvs.length → Pv i σ H → H d = some (.frz o (.dK kvs)))
  (hs : ∀ i k x σ H p, kvs[i]? = some (k, x) → Pv i σ H → H p = none → g (.ref p) σ (upd H p (.tup [kV k, x])) fun σ2 H2 => tb { D with nx := Pv (i + 1), ct := Pv (i + 1), bk := D.nx } σ2 H2) (hd : ∀ σ H, Pv kvs.length σ H → D.nx σ H) :
  ∃ W : Nat → Nat → L2.St → Hp → Prop, (∃ m, W 0 m σ H) ∧ ∀ i m σ H, W i m σ H →
   ((Itd d o kvs).stop i H ∧ D.nx σ H) ∨ ((Itd d o kvs).go i H ∧ ∃ N : L2.St → Hp → Prop, (∀ σ' H', N σ' H' → ∃ m', m' < m ∧ W (i + 1) m' σ' H') ∧ ∀ x H', (Itd d o kvs).yld i H x H' → g x σ H' fun σ2 H2 => tb { D with nx := N, ct := N, bk := D.nx } σ2 H2) := by
 refine ⟨fun i m σ H => m = kvs.length - i ∧ i ≤ kvs.length ∧ Pv i σ H, ⟨kvs.length, by simp, Nat.zero_le _, h0⟩, ?_⟩
 rintro i m σ H ⟨rfl, hi, p⟩
 have q := hl i σ H hi p
 by_cases hlt : i < kvs.length
 ·refine .inr ⟨⟨q, hlt⟩, Pv (i + 1), fun σ' H' z => ⟨kvs.length - (i + 1), by omega, rfl, by omega, z⟩, fun x H' y => ?_⟩
  obtain ⟨pp, k, x', y1, rfl, np, rfl⟩ := y
  exact hs i k x' σ H pp y1 p np
 ·have e : i = kvs.length := by omega
  subst e
  exact .inl ⟨⟨q, Nat.le_refl _⟩, hd σ H p⟩
end Ty
set_option maxHeartbeats 4000000
namespace Ty
open PySem PySem.Spec PyProof.Rows L2
open Builtin.Int (intBits)
section
variable {X : Cx}
def CMulS (i j : Int) : Prop := intBits i + intBits j ≤ 134217728
def rIsiT (K : Frag) : List V → Hp → VK → Prop := fun xs H Q => ∃ p ys, xs = [.ref p, .ty "tuple"] ∧ SqT K H p ys ∧ Q (.bl true) H
end
theorem Same.seqT {K : Frag} {H H' : Hp} {a : Addr} {xs : List V} (e : Same H H') (h : SqT K H a xs) : SqT K H' a xs := by
 rcases h with (h | ⟨o, h⟩) | h
 ·exact .inl (.inl (e _ _ h))
 ·exact .inl (.inr ⟨o, e _ _ h⟩)
 ·exact .inr h
section
variable {D : Addr} {te : TE} {cap : L2.St} {H1 : Hp} {Q : VK}
end
def NmK (K : Frag) (H : Hp) (v : V) (q : Int × Int) : Prop := ∃ p, v = .ref p ∧ SqT K H p [.int q.1, .int q.2]
theorem NmK.same {K : Frag} {H H' : Hp} {v : V} {q : Int × Int} (h : NmK K H v q) (s : Same H H') : NmK K H' v q := by
 obtain ⟨p, e, k⟩ := h
 exact ⟨p, e, Ty.Same.seqT s k⟩
def NmsK (K : Frag) (H : Hp) (us : List V) (qs : List (Int × Int)) : Prop := us.length = qs.length ∧ ∀ (i : Nat) (u : V) (q : Int × Int), us[i]? = some u → qs[i]? = some q → NmK K H u q
def RowK (K : Frag) (H : Hp) (a : Addr) (qs : List (Int × Int)) : Prop := ∃ us, SqL K H a us ∧ NmsK K H us qs
def sumTo : Nat → (Nat → Rat) → Rat
 | 0, _ => 0
 | n + 1, f => f 0 + sumTo n (fun i => f (i + 1))
end Ty
set_option maxHeartbeats 4000000
namespace Ty
open PySem PySem.Spec PyProof.Rows L2
section
variable {X : Cx}
def iItemsR (te : TE) : TI := fun σ H R => te σ H fun x H1 => ∃ d kvs, x = .ref d ∧ Rd H1 d (.dK kvs) ∧ ∀ o, R (Itd d o kvs) (upd H1 d (.frz o (.dK kvs)))
end
section
variable {D : Addr} {te : TE} {cap : L2.St} {H1 : Hp} {Q : VK}
end
end Ty
set_option maxHeartbeats 4000000
namespace Ty
open PySem PySem.Spec PyProof.Rows L2
section
variable {X : Cx}
def rSorted (K : Frag) : List V → Hp → VK → Prop := fun xs H Q => ∃ (p : Addr) (ns : List Int), xs = [.ref p] ∧ SqL K H p (ns.map V.int) ∧ ns.length < 64 ∧ ∀ (l : Addr) (ms : List Int), H l = none → ms.Perm ns → ms.Pairwise (· ≤ ·) → Q (.ref l) (upd H l (.lst (ms.map V.int)))
def tListR (ta : TA) : TE := fun σ H Q => ta σ H fun vs H1 => ∃ n : Nat, vs = [.int (n : Int)] ∧ n ≤ 1000 ∧ ∀ l, H1 l = none → Q (.ref l) (upd H1 l (.lst ((List.range n).map fun (i : Nat) => V.int (i : Int))))
def Itv (d : Addr) (o : Obj) (kvs : List (Key × V)) : It :=
 ⟨fun i H => H d = some (.frz o (.dK kvs)) ∧ i < kvs.length,
  fun i H v H' => H' = H ∧ ∃ k, kvs[i]? = some (k, v),
  fun i H => H d = some (.frz o (.dK kvs)) ∧ kvs.length ≤ i⟩
def iVals (te : TE) : TI := fun σ H R => te σ H fun x H1 => ∃ d o kvs, x = .ref d ∧ H1 d = some (.frz o (.dK kvs)) ∧ R (Itv d o kvs) H1
def tClear (H0 : Hp) (te : TE) : TE := fun σ H Q => te σ H fun x H1 => ∃ d o kvs, x = .ref d ∧ H1 d = some (.frz o (.dK kvs)) ∧ H0 d = none ∧ Q .non (upd H1 d (.dK []))
end
end Ty
set_option maxHeartbeats 4000000
namespace Ty
open PySem PySem.Spec PyProof.Rows L2
section
variable {X : Cx}
def tRev (K : Frag) (te ts : TE) : TE := fun σ H Q => te σ H fun x H1 => ts σ H1 fun y H2 => y = .int (-1) ∧ ∃ l xs, x = .ref l ∧ SqL K H2 l xs ∧ ∀ p, H2 p = none → Q (.ref p) (upd H2 p (.lst xs.reverse))
def rLenD : List V → Hp → VK → Prop := fun xs H Q => ∃ (p : Addr) (kvs : List (Key × V)), xs = [.ref p] ∧ Rd H p (.dK kvs) ∧ Q (.int (kvs.length : Int)) H
theorem call_lenD : CallR X (.builtin "len") rLenD := by
 intro pins s σ H xs us Q I r h
 obtain ⟨p, kvs, rfl, hq, q⟩ := h
 obtain ⟨u, rfl, r1⟩ := vals1 r
 cases r1
 exact d_len I hq fun t s' I' => ⟨.int _, H, I', ⟨t, rfl⟩, q⟩
end
section
variable {D : Addr} {te : TE} {cap : L2.St} {H1 : Hp} {Q : VK}
end
end Ty
set_option maxHeartbeats 4000000
namespace Ty
open PySem PySem.Spec PyProof.Rows L2
section
variable {X : Cx}
theorem Inv.thawG {pins : List (Addr × Obj)} {σ : L2.St} {H : Hp} {s : Shared} {d : Addr} {u : HO} {o : Obj} (I : Inv X pins σ H s) (e : H d = some (.frz o u)) (n : ∀ o' u', X.H₀ d ≠ some (.frz o' u')) (nt : ∀ xs, u ≠ .tup xs) : Inv X pins σ (upd H d u) s := by
 have nx : ∀ b u', H b = some u' → b ≠ d → upd H d u b = some u' := fun b u q n => by rw [upd_ne n]; exact q
 have nn : ∀ b, H b = none → upd H d u b = none := fun b q => by rw [upd_ne (fun z => by rw [z, e] at q; cases q)]; exact q
 refine ⟨I.ok, I.os, I.bare, ⟨I.base.keep, I.base.slot, fun b ob q z hx => nn b (I.base.free b ob q z hx), I.base.there, fun b xs q => ?_, fun b ob u' q => ?_, fun b ps q => ?_⟩, I.loc, I.cell, nn _ I.free, fun x c q => nn _ (I.freeC x c q), fun p hp => ?_, ?_, I.len⟩
 ·have z := I.base.tups b xs q
  exact nx b _ z fun y => by rw [y, e] at z; cases z
 ·have z := I.base.frzs b ob u' q
  exact nx b _ z fun y => by rw [y] at q; exact n _ _ q
 ·obtain ⟨m, z⟩ := I.base.tbls b ps q
  exact ⟨m, nx b _ z fun y => by rw [y, e] at z; cases z⟩
 ·obtain ⟨a1, a2, a3⟩ := I.pin p hp
  exact ⟨a1, nn _ a2, a3⟩
 ·have st : ∀ {b u'}, ObjOk X.prog X.w H s.heap b u' → ObjOk X.prog X.w (upd H d u) s.heap b u' := fun {b u'} k => k.stay (fun _ _ _ z => z) (fun c z => nx c _ z fun y => by rw [y, e] at z; cases z) fun c xs z => nx c _ z fun y => by rw [y, e] at z; cases z
  intro b u' q
  by_cases hb : b = d
  ·subst hb
   rw [upd_same] at q
   cases q
   exact st (I.hok b _ e).2
  ·rw [upd_ne hb] at q
   exact st (I.hok b u' q)
def tThaw (H0 : Hp) (t : TS) : TS := fun D σ H => t { D with nx := fun σ' H' => ∃ d o kvs, H' d = some (.frz o (.dK kvs)) ∧ (∀ o' u', H0 d ≠ some (.frz o' u')) ∧ D.nx σ' (upd H' d (.dK kvs)) } σ H
theorem ps_thaw {st : Stmt} {t : TS} (h : PS X st t) : PS X st (tThaw X.H₀ t) := by
 intro pins s σ H D I q
 refine wpAny_mono (h pins s σ H _ I q) (fun f s' z => ?_) fun _ _ z => z
 cases f with
 | next =>
  obtain ⟨σ', H', I', d, o, kvs, e, n, k⟩ := z
  exact ⟨σ', _, Inv.thawG I' e n (fun _ z => nomatch z), k⟩
 | brk => exact z
 | cont => exact z
 | ret u => exact z
def Itk (d : Addr) (o : Obj) (kvs : List (Key × V)) : It :=
 ⟨fun i H => H d = some (.frz o (.dK kvs)) ∧ i < kvs.length,
  fun i H v H' => H' = H ∧ ∃ k x, kvs[i]? = some (k, x) ∧ v = kV k,
  fun i H => H d = some (.frz o (.dK kvs)) ∧ kvs.length ≤ i⟩
def iKeys (te : TE) : TI := fun σ H R => te σ H fun x H1 => ∃ d kvs, x = .ref d ∧ H1 d = some (.dK kvs) ∧ ∀ o, R (Itk d o kvs) (upd H1 d (.frz o (.dK kvs)))
def rDictD : List V → Hp → VK → Prop := fun xs H Q => ∃ (p : Addr) (kvs : List (Key × V)), xs = [.ref p] ∧ Rd H p (.dK kvs) ∧ ∀ l, H l = none → Q (.ref l) (upd H l (.dK kvs))
end
end Ty
set_option maxHeartbeats 4000000
namespace Ty
open PySem PySem.Spec PyProof.Rows L2
section
variable {prog : Program} {w : World} {KK : Type} [DecidableEq KK] {knd : KeyKind prog w KK} {A : Around} {E : Value → Shared → Prop} {s : Shared}
def EqIn (prog : Program) (w : World) (A : Around) (s : Shared) (y x : Value) : Prop := ∀ (E : Value → Shared → Prop) (Q : Bool → Shared → Prop), Q true s → wpAny (model prog w) A (eqBool y x) Q E s
open MeetsSeq MeetsSeq2 MeetsSeq3 SeqRoads2 in
open MeetsSeq MeetsSeq2 MeetsSeq3 SeqRoads2 in
end
section
variable {X : Cx}
def SameD (H : Hp) (u v : V) : Prop := ∃ a b kvs, u = .ref a ∧ v = .ref b ∧ Rd H a (.dK kvs) ∧ Rd H b (.dK kvs) ∧ ∀ kv ∈ kvs, flatV kv.2 = true ∨ ∃ c, kv.2 = .ref c
def rEqLD (K : Frag) : R2 := fun x y H Q => ∃ p p' xs ys, x = .ref p ∧ y = .ref p' ∧ SqL K H p xs ∧ SqL K H p' ys ∧ xs.length = ys.length ∧ (∀ (j : Nat) (u v : V), xs[j]? = some u → ys[j]? = some v → SameD H u v) ∧ Q (.bl true) H
end
end Ty
set_option maxHeartbeats 4000000
namespace Ty
open PySem PySem.Spec PyProof.Rows L2
structure FunD (K : Frag) (x qual : Str) (st : Stmt) (f : Addr) (fd : FuncData) : Prop where
 ex : ∃ (dV oc : Value) (od : Option Addr) (kV doc pm : Value) (an : Option Addr) (cdv ct : Value) (osl : Array (Option Value)),
  fd = fnOf x qual (defArgs st) (defBody st) (defScope st) dV kV doc pm an cdv ct ∧ K.lookup f = some ⟨oc, od, .func fd, osl⟩ ∧ codeIn K cdv qual = true
 kp : keepIn K (.ref f) = true
section
variable {P : Program} {w : World} {K : Frag} {mg : Str → Option Value} {base : Heap} {CX : CXT}
theorem fun_mkD {x qual : Str} {st : Stmt} {f : Addr} {dV oc : Value} {od an : Option Addr} {osl : Array (Option Value)} {kV doc pm cdv ct : Value} (l : K.lookup f = some ⟨oc, od, .func (fnOf x qual (defArgs st) (defBody st) (defScope st) dV kV doc pm an cdv ct), osl⟩)
  (c : codeIn K cdv qual = true) (k : keepIn K (.ref f) = true) : FunD K x qual st f (fnOf x qual (defArgs st) (defBody st) (defScope st) dV kV doc pm an cdv ct) := ⟨⟨dV, oc, od, kV, doc, pm, an, cdv, ct, osl, rfl, l, c⟩, k⟩
theorem fun_okF {name qual : Str} {st : Stmt} {f : Addr} {fd : FuncData} {N ps : List Str} {k : Nat} {sp : Sp} (F : Fun K name qual st f fd) (S : FnScope N ps (defScope st)) (len : ∀ vs H Q E, sp vs H Q E → vs.length = ps.length)
  (hbody : ∀ (cdv : Value) (A : Around) (outer : List Env) (s : Shared) (H : Hp) (vs : List V) (Q : VK) (E : XK), Room k (A.deeper (envOfC qual (defScope st) s.heap.objs.size f cdv)) → sp vs H Q E →
   ∃ t, PSs (cxr P w K mg base N qual (defScope st) f cdv A outer s H E).nox (defBody st) t ∧ t { nx := fun _ H' => Q .non H', rt := Q } (start N vs) H) : FnOk P w K mg base (CXr P w) (k + 1) f fd ps sp := by
 obtain ⟨oc, od, kV, doc, pm, an, cdv, ct, osl, rfl, lk, hcd⟩ := F.ex
 exact fn_of lk hcd S len fun A outer s H vs Q E hr hsp => by
  obtain ⟨t, h, q⟩ := hbody cdv A outer s H vs Q E hr hsp
  exact ⟨t, h.nox, q⟩
theorem fun_okFD {name qual : Str} {st : Stmt} {f : Addr} {fd : FuncData} {N ps : List Str} {k : Nat} {sp : Sp} (F : FunD K name qual st f fd) (S : FnScope N ps (defScope st)) (len : ∀ vs H Q E, sp vs H Q E → vs.length = ps.length)
  (hbody : ∀ (cdv : Value) (A : Around) (outer : List Env) (s : Shared) (H : Hp) (vs : List V) (Q : VK) (E : XK), Room k (A.deeper (envOfC qual (defScope st) s.heap.objs.size f cdv)) → sp vs H Q E →
   ∃ t, PSs (cxr P w K mg base N qual (defScope st) f cdv A outer s H E).nox (defBody st) t ∧ t { nx := fun _ H' => Q .non H', rt := Q } (start N vs) H) : FnOk P w K mg base (CXr P w) (k + 1) f fd ps sp := by
 obtain ⟨dV, oc, od, kV, doc, pm, an, cdv, ct, osl, rfl, lk, hcd⟩ := F.ex
 exact fn_of lk hcd S len fun A outer s H vs Q E hr hsp => by
  obtain ⟨t, h, q⟩ := hbody cdv A outer s H vs Q E hr hsp
  exact ⟨t, h.nox, q⟩
end
structure MtdOkD (P : Program) (w : World) (K : Frag) (mg : Str → Option Value) (base : Heap) (CX : CXT) (k : Nat) (C : Addr) (m : Str) (ps : List Str) (ds : List Value) (sp : Sp) : Prop where
 ex : ∃ (f : Addr) (fd : FuncData), Cls K C ∧ Meth K C m f ∧ FnOk P w K mg base CX k f fd ps sp ∧ Binds K fd ps ds
section
variable {X : Cx} {CX : CXT} {k : Nat} {E : XK} {m : Str} {pos apos : Pos} {e o : Expr} {es : List Expr} {ta : TE} {t : TA}
def tMtdD (P : Program) (w : World) (K : Frag) (mg : Str → Option Value) (base : Heap) (CX : CXT) (k : Nat) (m : Str) (E : XK) (ta : TE) (t : TA) : TE := fun σ H Q => ta σ H fun x H1 => ∃ a C dx fs ps sp, x = .ref a ∧ H1 a = some (.ins C dx fs) ∧ fs.lookup m = none ∧
 MtdOkD P w K mg base CX k C m ps [.none] sp ∧ t σ H1 fun vs H2 => sp (x :: vs ++ [.non]) H2 Q E
end
theorem valV_mem {κ : Type} [DecidableEq κ] {k : κ} {v : V} : ∀ {kvs : List (κ × V)}, valV kvs k = some v → (k, v) ∈ kvs
 | p :: r, h => by
  by_cases e : p.1 = k
  ·rw [valV_pos e] at h
   cases h
   subst e
   exact List.mem_cons_self ..
  ·rw [valV_neg e] at h
   exact List.mem_cons_of_mem _ (valV_mem h)
theorem valV_none {κ : Type} [DecidableEq κ] {k : κ} : ∀ {kvs : List (κ × V)}, k ∉ kvs.map (·.1) → valV kvs k = none
 | [], _ => rfl
 | p :: r, h => by
  rw [List.map_cons, List.mem_cons, not_or] at h
  rw [valV_neg (fun e => h.1 e.symm)]
  exact valV_none h.2
theorem valV_some {κ : Type} [DecidableEq κ] {k : κ} : ∀ {kvs : List (κ × V)}, k ∈ kvs.map (·.1) → ∃ v, valV kvs k = some v
 | p :: r, h => by
  by_cases e : p.1 = k
  ·exact ⟨_, valV_pos e⟩
  ·rw [valV_neg e]
   rw [List.map_cons, List.mem_cons] at h
   rcases h with h | h
   ·exact absurd h.symm e
   ·exact valV_some h
def tDPopN (td ty tx : TE) : TE := fun σ H Q => td σ H fun x H1 => ∃ a, x = .ref a ∧ IsD H1 a ∧ ty σ H1 fun y H2 => tx σ H2 fun z H3 => ∃ kvs k, H3 a = some (.dK kvs) ∧ y = kV k ∧ ∀ v, Q v (upd H3 a (.dK (dropK kvs k)))
def NmD (K : Frag) (H : Hp) (kvs : List (Key × V)) (F : Str → Option (Int × Int)) : Prop :=
 ∀ nm, (valV kvs (.inr nm) = none ∧ F nm = none) ∨ ∃ v q, valV kvs (.inr nm) = some v ∧ F nm = some q ∧ NmK K H v q
structure FrC (K : Frag) (C : Addr) : Prop where
 cls : Cls K C
 pl : NoAttr K C "pin_places"
 wy : NoAttr K C "pin_ways"
 br : NoAttr K C "bar_ends"
abbrev frF (pP pW pB : Addr) : List (Str × V) := [("pin_places", .ref pP), ("pin_ways", .ref pW), ("bar_ends", .ref pB)]
abbrev Pt := (Int × Int) × (Int × Int)
abbrev spotD (p : Pt) : List Da := [.t [.v (.int p.1.1), .v (.int p.1.2)], .t [.v (.int p.2.1), .v (.int p.2.2)]]
def SameT (H H' : Hp) : Prop := ∀ b xs, Rd H b (.tup xs) → Rd H' b (.tup xs)
theorem SameT.of {H H' : Hp} (s : Same H H') : SameT H H' := fun b xs e => by
 rcases e with e | ⟨o, e⟩
 ·exact .inl (s _ _ e)
 ·exact .inr ⟨o, s _ _ e⟩
theorem SameT.trans {H H1 H2 : Hp} (a : SameT H H1) (b : SameT H1 H2) : SameT H H2 := fun c xs e => b c xs (a c xs e)
theorem SameT.dict {H : Hp} {d : Addr} {kvs : List (Key × V)} {o : HO} (e : H d = some (.dK kvs)) : SameT H (upd H d o) := fun b xs r => by
 rcases r with r | ⟨o, r⟩
 ·exact .inl (by rw [upd_ne (fun z => by rw [z, e] at r; cases r)]; exact r)
 ·exact .inr ⟨o, by rw [upd_ne (fun z => by rw [z, e] at r; cases r)]; exact r⟩
theorem SameT.list {H : Hp} {d : Addr} {xs : List V} {o : HO} (e : H d = some (.lst xs)) : SameT H (upd H d o) := fun b xs r => by
 rcases r with r | ⟨o, r⟩
 ·exact .inl (by rw [upd_ne (fun z => by rw [z, e] at r; cases r)]; exact r)
 ·exact .inr ⟨o, by rw [upd_ne (fun z => by rw [z, e] at r; cases r)]; exact r⟩
theorem SameT.seqT {K : Frag} {H H' : Hp} (s : SameT H H') {p : Addr} {xs : List V} (q : SqT K H p xs) : SqT K H' p xs := by
 rcases q with q | q
 ·exact .inl (s _ _ q)
 ·exact .inr q
theorem NmK.sameT {K : Frag} {H H' : Hp} {v : V} {q : Int × Int} (h : NmK K H v q) (s : SameT H H') : NmK K H' v q := by
 obtain ⟨p, e, k⟩ := h
 exact ⟨p, e, s.seqT k⟩
def Spot (K : Frag) (H : Hp) (v : V) (p : Pt) : Prop := ∃ a u1 u2, v = .ref a ∧ SqT K H a [u1, u2] ∧ NmK K H u1 p.1 ∧ NmK K H u2 p.2
theorem Spot.sameT {K : Frag} {H H' : Hp} {v : V} {p : Pt} (h : Spot K H v p) (s : SameT H H') : Spot K H' v p := by
 obtain ⟨a, u1, u2, e, h1, h2, h3⟩ := h
 exact ⟨a, u1, u2, e, s.seqT h1, h2.sameT s, h3.sameT s⟩
theorem is_numF {K : Frag} {H : Hp} {v : V} {q : Int × Int} (h : NmK K H v q) : Is K H (.t [.v (.int q.1), .v (.int q.2)]) v := by
 obtain ⟨p, rfl, e⟩ := h
 unfold Is
 refine ⟨p, _, rfl, e, ?_⟩
 unfold Iss
 refine ⟨by unfold Is; exact ⟨rfl, rfl⟩, ?_⟩
 unfold Iss
 refine ⟨by unfold Is; exact ⟨rfl, rfl⟩, ?_⟩
 unfold Iss
 trivial
theorem Spot.is {K : Frag} {H : Hp} {v : V} {p : Pt} (h : Spot K H v p) : Is K H (.t (spotD p)) v := by
 obtain ⟨a, u1, u2, rfl, h1, h2, h3⟩ := h
 unfold Is
 refine ⟨a, _, rfl, h1, ?_⟩
 unfold Iss
 refine ⟨is_numF h2, ?_⟩
 unfold Iss
 refine ⟨is_numF h3, ?_⟩
 unfold Iss
 trivial
theorem eq_spots (p q : Pt) : eqDas (spotD p) (spotD q) = decide (p = q) := by
 have e : eqDas (spotD p) (spotD q) = ((p.1.1 == q.1.1 && (p.1.2 == q.1.2 && true)) && ((p.2.1 == q.2.1 && (p.2.2 == q.2.2 && true)) && true)) := by
  simp only [spotD, eqDas, eqDa, eqV]
 rw [e]
 obtain ⟨⟨a, b⟩, c, d⟩ := p
 obtain ⟨⟨a', b'⟩, c', d'⟩ := q
 by_cases h : a = a' <;> by_cases h1 : b = b' <;> by_cases h2 : c = c' <;> by_cases h3 : d = d' <;> simp [h, h1, h2, h3, Prod.mk.injEq]
theorem alike_spots (p q : Pt) : alikes (spotD p) (spotD q) = true := by simp [spotD, alikes, alike]
theorem dep_spots (p : Pt) : deps (spotD p) ≤ 60 := by simp [spotD, deps, dep]
structure FrR (K : Frag) (H : Hp) (C a dx pP pW pB : Addr) (ps : List (Str × Pt)) (bs : List (Str × Str × Str)) (kP kW kB : List (Key × V)) : Prop where
 obj : H a = some (.ins C dx (frF pP pW pB))
 pl : H pP = some (.dK kP)
 wy : H pW = some (.dK kW)
 br : H pB = some (.dK kB)
 ne1 : pP ≠ pW
 ne2 : pP ≠ pB
 ne3 : pW ≠ pB
 rp : Paired (fun (p : Str × Pt) (kv : Key × V) => kv.1 = .inr p.1 ∧ Spot K H kv.2 p.2) ps kP
 rb : Paired (fun (b : Str × Str × Str) (kv : Key × V) => kv.1 = .inr b.1 ∧ ∃ p, kv.2 = .ref p ∧ Rd H p (.tup [.str b.2.1, .str b.2.2])) bs kB
section
variable {K : Frag} {H H' : Hp} {C a dx pP pW pB : Addr} {ps : List (Str × Pt)} {bs : List (Str × Str × Str)} {kP kW kB : List (Key × V)}
theorem paired_keys {α : Type} {R : (Str × α) → (Key × V) → Prop} : ∀ {l : List (Str × α)} {kvs : List (Key × V)}, Paired (fun b kv => kv.1 = .inr b.1 ∧ R b kv) l kvs → kvs.map (·.1) = l.map (fun b => (Sum.inr b.1 : Key))
 | _, _, .nil => rfl
 | _, _, .cons h t => by rw [List.map_cons, List.map_cons, h.1, paired_keys t]
theorem key_mem {l : List Str} {x : Str} : (Sum.inr x : Key) ∈ l.map (fun b => (Sum.inr b : Key)) ↔ x ∈ l := by
 constructor
 ·intro h
  obtain ⟨y, hy, e⟩ := List.mem_map.mp h
  exact Sum.inr.inj e ▸ hy
 ·exact fun h => List.mem_map.mpr ⟨x, h, rfl⟩
theorem FrR.sameT_of (R : FrR K H C a dx pP pW pB ps bs kP kW kB) (s : SameT H H') (h1 : H' a = H a) (h2 : H' pP = H pP) (h3 : H' pW = H pW) (h4 : H' pB = H pB) : FrR K H' C a dx pP pW pB ps bs kP kW kB :=
 ⟨h1.trans R.obj, h2.trans R.pl, h3.trans R.wy, h4.trans R.br, R.ne1, R.ne2, R.ne3, Paired.mapP R.rp fun _ _ h => ⟨h.1, h.2.sameT s⟩, Paired.mapP R.rb fun _ _ h => ⟨h.1, by obtain ⟨p, e, k⟩ := h.2; exact ⟨p, e, s _ _ k⟩⟩⟩
theorem FrR.same (R : FrR K H C a dx pP pW pB ps bs kP kW kB) (s : Same H H') : FrR K H' C a dx pP pW pB ps bs kP kW kB :=
 R.sameT_of (.of s) ((s _ _ R.obj).trans R.obj.symm) ((s _ _ R.pl).trans R.pl.symm) ((s _ _ R.wy).trans R.wy.symm) ((s _ _ R.br).trans R.br.symm)
theorem FrR.keysB (R : FrR K H C a dx pP pW pB ps bs kP kW kB) : kB.map (·.1) = (bs.map (·.1)).map (fun b => (Sum.inr b : Key)) := by
 rw [paired_keys R.rb, List.map_map]
 rfl
theorem FrR.keysP (R : FrR K H C a dx pP pW pB ps bs kP kW kB) : kP.map (·.1) = (ps.map (·.1)).map (fun b => (Sum.inr b : Key)) := by
 rw [paired_keys R.rp, List.map_map]
 rfl
theorem FrR.bar (R : FrR K H C a dx pP pW pB ps bs kP kW kB) (x : Str) : (valV kB (.inr x)).isSome = decide (x ∈ bs.map (·.1)) := by
 by_cases h : x ∈ bs.map (·.1)
 ·obtain ⟨v, e⟩ := valV_some (kvs := kB) (k := .inr x) (by rw [R.keysB]; exact key_mem.mpr h)
  rw [e, decide_eq_true h]
  rfl
 ·rw [valV_none (by rw [R.keysB]; exact fun z => h (key_mem.mp z)), decide_eq_false h]
  rfl
theorem FrR.pin (R : FrR K H C a dx pP pW pB ps bs kP kW kB) (x : Str) : (valV kP (.inr x)).isSome = decide (x ∈ ps.map (·.1)) := by
 by_cases h : x ∈ ps.map (·.1)
 ·obtain ⟨v, e⟩ := valV_some (kvs := kP) (k := .inr x) (by rw [R.keysP]; exact key_mem.mpr h)
  rw [e, decide_eq_true h]
  rfl
 ·rw [valV_none (by rw [R.keysP]; exact fun z => h (key_mem.mp z)), decide_eq_false h]
  rfl
theorem FrR.ab (R : FrR K H C a dx pP pW pB ps bs kP kW kB) : a ≠ pP ∧ a ≠ pW ∧ a ≠ pB :=
 ⟨fun z => (by have h := R.obj; rw [z, R.pl] at h; cases h), fun z => (by have h := R.obj; rw [z, R.wy] at h; cases h), fun z => (by have h := R.obj; rw [z, R.br] at h; cases h)⟩
theorem FrR.putBar (R : FrR K H C a dx pP pW pB ps bs kP kW kB) {x one other : Str} {t : Addr} (ht : Rd H t (.tup [.str one, .str other])) :
  FrR K (upd H pB (.dK (kB ++ [(.inr x, .ref t)]))) C a dx pP pW pB ps (bs ++ [(x, one, other)]) kP kW (kB ++ [(.inr x, .ref t)]) := by
 have s : SameT H (upd H pB (.dK (kB ++ [(.inr x, .ref t)]))) := .dict R.br
 exact ⟨by rw [upd_ne R.ab.2.2]; exact R.obj, by rw [upd_ne R.ne2]; exact R.pl, by rw [upd_ne R.ne3]; exact R.wy, upd_same, R.ne1, R.ne2, R.ne3, Paired.mapP R.rp fun _ _ h => ⟨h.1, h.2.sameT s⟩,
  Paired.snoc (Paired.mapP R.rb fun _ _ h => ⟨h.1, by obtain ⟨p, e, k⟩ := h.2; exact ⟨p, e, s _ _ k⟩⟩) ⟨rfl, t, rfl, s _ _ ht⟩⟩
theorem paired_drop {α : Type} {R : (Str × α) → (Key × V) → Prop} (x : Str) : ∀ {l : List (Str × α)} {kvs : List (Key × V)}, Paired (fun b kv => kv.1 = .inr b.1 ∧ R b kv) l kvs → Paired (fun b kv => kv.1 = .inr b.1 ∧ R b kv) (l.filter fun b => decide (b.1 ≠ x)) (dropK kvs (.inr x))
 | _, _, .nil => .nil
 | b :: _, kv :: _, .cons h t => by
  unfold dropK
  rw [List.filter_cons, List.filter_cons]
  have ih := paired_drop x t
  unfold dropK at ih
  by_cases e : b.1 = x
  ·have e' : kv.1 = .inr x := by rw [h.1, e]
   rw [if_neg (by simp [e]), if_neg (by simp [e'])]
   exact ih
  ·have e' : ¬ kv.1 = .inr x := fun z => e (Sum.inr.inj (h.1.symm.trans z))
   rw [if_pos (by simp [e]), if_pos (by simp [e'])]
   exact .cons h ih
theorem FrR.dropBar (R : FrR K H C a dx pP pW pB ps bs kP kW kB) (x : Str) :
  FrR K (upd H pB (.dK (dropK kB (.inr x)))) C a dx pP pW pB ps (bs.filter fun b => decide (b.1 ≠ x)) kP kW (dropK kB (.inr x)) := by
 have s : SameT H (upd H pB (.dK (dropK kB (.inr x)))) := .dict R.br
 exact ⟨by rw [upd_ne R.ab.2.2]; exact R.obj, by rw [upd_ne R.ne2]; exact R.pl, by rw [upd_ne R.ne3]; exact R.wy, upd_same, R.ne1, R.ne2, R.ne3, Paired.mapP R.rp fun _ _ h => ⟨h.1, h.2.sameT s⟩,
  paired_drop x (Paired.mapP R.rb fun _ _ h => ⟨h.1, by obtain ⟨p, e, k⟩ := h.2; exact ⟨p, e, s _ _ k⟩⟩)⟩
theorem paired_flip {α β : Type} {R : α → β → Prop} : ∀ {l : List α} {m : List β}, Paired R l m → Paired (fun b a => R a b) m l
 | _, _, .nil => .nil
 | _, _, .cons h t => .cons h (paired_flip t)
theorem FrR.putPin (R : FrR K H C a dx pP pW pB ps bs kP kW kB) {x : Str} {p : Pt} {t : Addr} (ht : Spot K H (.ref t) p) :
  FrR K (upd H pP (.dK (kP ++ [(.inr x, .ref t)]))) C a dx pP pW pB (ps ++ [(x, p)]) bs (kP ++ [(.inr x, .ref t)]) kW kB := by
 have s : SameT H (upd H pP (.dK (kP ++ [(.inr x, .ref t)]))) := .dict R.pl
 exact ⟨by rw [upd_ne R.ab.1]; exact R.obj, upd_same, by rw [upd_ne (Ne.symm R.ne1)]; exact R.wy, by rw [upd_ne (Ne.symm R.ne2)]; exact R.br, R.ne1, R.ne2, R.ne3,
  Paired.snoc (Paired.mapP R.rp fun _ _ h => ⟨h.1, h.2.sameT s⟩) ⟨rfl, ht.sameT s⟩, Paired.mapP R.rb fun _ _ h => ⟨h.1, by obtain ⟨p, e, k⟩ := h.2; exact ⟨p, e, s _ _ k⟩⟩⟩
theorem FrR.putWays (R : FrR K H C a dx pP pW pB ps bs kP kW kB) (kW' : List (Key × V)) : FrR K (upd H pW (.dK kW')) C a dx pP pW pB ps bs kP kW' kB := by
 have s : SameT H (upd H pW (.dK kW')) := .dict R.wy
 exact ⟨by rw [upd_ne R.ab.2.1]; exact R.obj, by rw [upd_ne R.ne1]; exact R.pl, upd_same, by rw [upd_ne (Ne.symm R.ne3)]; exact R.br, R.ne1, R.ne2, R.ne3,
  Paired.mapP R.rp fun _ _ h => ⟨h.1, h.2.sameT s⟩, Paired.mapP R.rb fun _ _ h => ⟨h.1, by obtain ⟨p, e, k⟩ := h.2; exact ⟨p, e, s _ _ k⟩⟩⟩
end
end Ty
set_option maxHeartbeats 4000000
namespace Ty
open PySem PySem.Spec PyProof.Rows L2
open Builtin.Int (intBits)
def qr (r : Rat) : Int × Int := (r.num, (r.den : Int))
theorem qr_pos (r : Rat) : 0 < (qr r).2 := by
 have := r.den_pos
 show (0 : Int) < (r.den : Int)
 omega
theorem qr_gcd (r : Rat) : Int.gcd (qr r).1 (qr r).2 = 1 := by
 have := r.reduced
 show Int.gcd r.num (r.den : Int) = 1
 unfold Int.gcd
 simpa [Nat.Coprime] using this
theorem vl_qr (r : Rat) : vl (qr r) = r := by
 show (r.num : Rat) / ((r.den : Int) : Rat) = r
 rw [← Rat.divInt_eq_div]
 exact Rat.num_divInt_den r
theorem qr_of {q : Int × Int} (h : 0 < q.2) (g : Int.gcd q.1 q.2 = 1) : q = qr (vl q) := vl_inj h (qr_pos _) g (qr_gcd _) (vl_qr _).symm
theorem low_qr {t b : Int} (h : b ≠ 0) : low t b = qr ((t : Rat) / (b : Rat)) := by
 rw [← vl_low h]
 exact qr_of (low_pos h) (low_gcd h)
theorem qr_inj {a b : Rat} (h : qr a = qr b) : a = b := by
 rw [← vl_qr a, ← vl_qr b, h]
theorem qr_int (i : Int) : qr (i : Rat) = (i, 1) := by
 have e : (i, (1 : Int)) = qr (vl (i, 1)) := qr_of (by show (0 : Int) < 1; decide) (by show Int.gcd i 1 = 1; simp)
 have v : vl (i, (1 : Int)) = (i : Rat) := by
  unfold vl
  show (i : Rat) / ((1 : Int) : Rat) = i
  have : ((1 : Int) : Rat) = 1 := by rfl
  rw [this]
  grind
 rw [e, v]
theorem ratz {r : Rat} : ((qr r).2 : Rat) ≠ 0 := ratne (Int.ne_of_gt (qr_pos r))
theorem qr_add (a b : Rat) : low ((qr a).1 * (qr b).2 + (qr b).1 * (qr a).2) ((qr a).2 * (qr b).2) = qr (a + b) := by
 have ha := qr_pos a
 have hb := qr_pos b
 rw [low_qr (Int.ne_of_gt (Int.mul_pos ha hb))]
 have e1 := vl_qr a
 have e2 := vl_qr b
 have z1 := ratz (r := a)
 have z2 := ratz (r := b)
 unfold vl at e1 e2
 congr 1
 push_cast
 grind
structure Sz (k : Nat) (r : Rat) : Prop where
 top : intBits (qr r).1 ≤ k
 bot : intBits (qr r).2 ≤ k
theorem Sz.up {k l : Nat} {r : Rat} (h : Sz k r) (kl : k ≤ l) : Sz l r := ⟨Nat.le_trans h.top kl, Nat.le_trans h.bot kl⟩
theorem bits_addF {a b : Int} {k : Nat} (ha : intBits a ≤ k) (hb : intBits b ≤ k) : intBits (a + b) ≤ k + 1 := by
 rw [intBits_le_iff] at ha hb ⊢
 have := Int.natAbs_add_le a b
 rw [Nat.pow_succ]
 omega
theorem sz_low {t b : Int} {k : Nat} (hb : b ≠ 0) (h1 : intBits t ≤ k) (h2 : intBits b ≤ k) : Sz k ((t : Rat) / (b : Rat)) := by
 rw [← vl_low hb]
 have e := qr_of (low_pos (t := t) hb) (low_gcd hb)
 exact ⟨by rw [← e]; exact intBits_le_of_natAbs (low_top_le hb) h1, by rw [← e]; exact intBits_le_of_natAbs (low_bot_le hb) h2⟩
theorem sz_int {i : Int} {k : Nat} (h : i.natAbs < 2 ^ k) (hk : 1 ≤ k) : Sz k (i : Rat) := by
 refine ⟨?_, ?_⟩
 ·rw [qr_int]
  exact intBits_le_iff.mpr h
 ·rw [qr_int]
  refine intBits_le_iff.mpr ?_
  show 1 < 2 ^ k
  exact Nat.one_lt_two_pow (by omega)
def NmR (K : Frag) (H : Hp) (v : V) (r : Rat) : Prop := NmK K H v (qr r)
def PtR (K : Frag) (H : Hp) (v : V) (p : Rat × Rat) : Prop := ∃ a u1 u2, v = .ref a ∧ SqT K H a [u1, u2] ∧ NmR K H u1 p.1 ∧ NmR K H u2 p.2
section
variable {K : Frag} {H H' : Hp} {v : V} {r : Rat} {p : Rat × Rat}
theorem NmR.sameT (h : NmR K H v r) (s : SameT H H') : NmR K H' v r := NmK.sameT h s
theorem NmR.same (h : NmR K H v r) (s : Same H H') : NmR K H' v r := NmK.same h s
theorem PtR.sameT (h : PtR K H v p) (s : SameT H H') : PtR K H' v p := by
 obtain ⟨a, u1, u2, e, h1, h2, h3⟩ := h
 exact ⟨a, u1, u2, e, s.seqT h1, h2.sameT s, h3.sameT s⟩
theorem PtR.same (h : PtR K H v p) (s : Same H H') : PtR K H' v p := h.sameT (.of s)
abbrev ptQ (p : Rat × Rat) : Pt := (qr p.1, qr p.2)
theorem PtR.spot (h : PtR K H v p) : Spot K H v (ptQ p) := h
theorem PtR.ofSpot (h : Spot K H v (ptQ p)) : PtR K H v p := h
def PtsR (K : Frag) (H : Hp) (us : List V) (ps : List (Rat × Rat)) : Prop := Paired (PtR K H) us ps
theorem PtsR.sameT {us : List V} {ps : List (Rat × Rat)} (h : PtsR K H us ps) (s : SameT H H') : PtsR K H' us ps := Paired.mapP h fun _ _ z => z.sameT s
theorem PtsR.same {us : List V} {ps : List (Rat × Rat)} (h : PtsR K H us ps) (s : Same H H') : PtsR K H' us ps := h.sameT (.of s)
end
section
variable {X : Cx}
theorem ptR_inj {pins : List (Addr × Obj)} {σ : L2.St} {H : Hp} {s : Shared} {v : V} {p q : Rat × Rat} (I : Inv X pins σ H s) (h1 : PtR X.K H v p) (h2 : PtR X.K H v q) : p = q := by
 obtain ⟨a, u1, u2, rfl, t1, ⟨b1, rfl, n1⟩, b2, rfl, n2⟩ := h1
 obtain ⟨a', w1, w2, e, t2, ⟨c1, rfl, m1⟩, c2, rfl, m2⟩ := h2
 cases e
 cases I.tuple_inj t1 t2
 have e1 := I.tuple_inj n1 m1
 have e2 := I.tuple_inj n2 m2
 simp only [List.cons.injEq, V.int.injEq, and_true] at e1 e2
 exact Prod.ext (qr_inj (Prod.ext e1.1 e1.2)) (qr_inj (Prod.ext e2.1 e2.2))
def rInPt (K : Frag) (neg : Bool) : R2 := fun x y H Q => ∃ p l us ps, y = .ref l ∧ SqL K H l us ∧ PtR K H x p ∧ PtsR K H us ps ∧ Q (.bl (if neg then !decide (p ∈ ps) else decide (p ∈ ps))) H
theorem in_pt {pins : List (Addr × Obj)} {σ : L2.St} {H : Hp} {s : Shared} {A : Around} {x : V} {v : Value} {p : Rat × Rat} {us : List V} {its : List Value} {ps : List (Rat × Rat)} (I : Inv X pins σ H s) (hu : A.units + 60 < cLine) (hx : PtR X.K H x p) (rx : RelV x v) (hp : PtsR X.K H us ps) (rv : Vals us its) :
  ∃ e : Value → Bool, (∀ y, y ∈ its.toArray → SeqAt.EqAt A s y v (e y)) ∧ its.toArray.any e = decide (p ∈ ps) := by
 have key : ∀ (j : Nat) (y : Value), its[j]? = some y → ∃ u q, us[j]? = some u ∧ ps[j]? = some q ∧ RelV u y ∧ PtR X.K H u q := fun j y ey => by
  obtain ⟨u, eu, ru⟩ := paired_get (paired_flip rv) ey
  obtain ⟨q, eq, hq⟩ := paired_get hp eu
  exact ⟨u, q, eu, eq, ru, hq⟩
 refine ⟨fun y => @decide (∃ u q, RelV u y ∧ PtR X.K H u q ∧ q = p) (Classical.propDecidable _), fun y hy => ?_, ?_⟩
 ·obtain ⟨j, hj, ey⟩ := List.mem_iff_getElem.mp (by simpa using hy : y ∈ its)
  obtain ⟨u, q, eu, eq, ru, hq⟩ := key j y (by rw [gE hj, ey])
  have z := eqAt_da (A := A) I (.t (spotD (ptQ q))) (.t (spotD (ptQ p))) u x y v hq.spot.is hx.spot.is (by unfold alike; exact alike_spots _ _) ru rx (by have := dep_spots (ptQ q); unfold dep; simp only [spotD, deps, dep] at this ⊢; omega)
  have e : eqDa (.t (spotD (ptQ q))) (.t (spotD (ptQ p))) = @decide (∃ u q, RelV u y ∧ PtR X.K H u q ∧ q = p) (Classical.propDecidable _) := by
   unfold eqDa
   rw [eq_spots]
   by_cases c : q = p
   ·subst c
    rw [decide_eq_true rfl]
    symm
    exact @decide_eq_true _ (Classical.propDecidable _) ⟨u, q, ru, hq, rfl⟩
   ·rw [decide_eq_false (fun z => c (Prod.ext (qr_inj (congrArg Prod.fst z)) (qr_inj (congrArg Prod.snd z))))]
    symm
    refine @decide_eq_false _ (Classical.propDecidable _) fun ⟨u', q', ru', hq', e'⟩ => ?_
    obtain ⟨a, _, _, rfl, _⟩ := id hq
    obtain ⟨a', _, _, rfl, _⟩ := id hq'
    have r1 : y = Value.ref a := ru
    have r2 : y = Value.ref a' := ru'
    rw [r1] at r2
    cases r2
    exact c ((ptR_inj I hq hq').trans e')
  rw [e] at z
  exact z
 ·rw [Bool.eq_iff_iff, decide_eq_true_iff]
  simp only [List.any_toArray, List.any_eq_true]
  constructor
  ·rintro ⟨y, hy, ey⟩
   obtain ⟨j, hj, ej⟩ := List.mem_iff_getElem.mp hy
   obtain ⟨u, q, eu, eq, ru, hq⟩ := key j y (by rw [gE hj, ej])
   obtain ⟨u', q', ru', hq', e'⟩ := @of_decide_eq_true _ (Classical.propDecidable _) ey
   obtain ⟨a, _, _, rfl, _⟩ := id hq
   obtain ⟨a', _, _, rfl, _⟩ := id hq'
   have r1 : y = Value.ref a := ru
   have r2 : y = Value.ref a' := ru'
   rw [r1] at r2
   cases r2
   rw [← e', ← ptR_inj I hq hq']
   exact List.mem_of_getElem? eq
  ·intro hm
   obtain ⟨j, hj, ej⟩ := List.mem_iff_getElem.mp hm
   have lu : us.length = ps.length := Paired.length hp
   have li : us.length = its.length := rv.length
   have hj' : j < its.length := by omega
   refine ⟨its[j], List.getElem_mem hj', ?_⟩
   obtain ⟨u, q, eu, eq, ru, hq⟩ := key j its[j] (gE hj')
   rw [gE hj, ej] at eq
   cases eq
   exact @decide_eq_true _ (Classical.propDecidable _) ⟨u, p, ru, hq, rfl⟩
theorem op_notInPt (hu : X.A.units + 64 < cLine) : OpR X (compareOp .NotIn) (rInPt X.K true) := by
 intro pins s σ H x y v u Q I rx ry h
 obtain ⟨p, l, us, ps, rfl, hq, hx, hp, q⟩ := h
 cases ry
 obtain ⟨its, rv, pl, hz⟩ := I.list hq
 obtain ⟨e, he, ea⟩ := in_pt (A := X.A.in1) I (by rw [in1_units]; omega) hx rx hp rv
 refine SeqAt.notIn_listAt e pl.isList he ⟨.bl _, H, I, rfl, ?_⟩
 rw [ea]
 exact q
end
end Ty
set_option maxHeartbeats 4000000
namespace Ty
open PySem PySem.Spec PyProof.Rows L2
theorem paired_val {α : Type} {R : (Str × α) → (Key × V) → Prop} {x : Str} {y : α} : ∀ {l : List (Str × α)} {kvs : List (Key × V)}, Paired (fun b kv => kv.1 = .inr b.1 ∧ R b kv) l kvs → (l.map (·.1)).Nodup → (x, y) ∈ l → ∃ v, valV kvs (.inr x) = some v ∧ R (x, y) (.inr x, v)
 | _ :: _, kv :: _, .cons h t, nd, m => by
  rw [List.map_cons, List.nodup_cons] at nd
  rcases List.mem_cons.mp m with e | m
  ·subst e
   have h1 : kv.1 = .inr x := h.1
   refine ⟨kv.2, valV_pos h1, ?_⟩
   have h2 := h.2
   rw [← h1]
   exact h2
  ·obtain ⟨v, e, r⟩ := paired_val t nd.2 m
   refine ⟨v, ?_, r⟩
   rw [valV_neg (fun z => ?_)]
   ·exact e
   ·rw [h.1] at z
    exact nd.1 (Sum.inr.inj z ▸ List.mem_map.mpr ⟨_, m, rfl⟩)
def WyR (K : Frag) (H : Hp) (pw : List (Str × List (Rat × Rat))) (kW : List (Key × V)) : Prop :=
 Paired (fun (p : Str × List (Rat × Rat)) (kv : Key × V) => kv.1 = .inr p.1 ∧ ∃ l us, kv.2 = .ref l ∧ H l = some (.lst us) ∧ PtsR K H us p.2) pw kW
theorem WyR.same {K : Frag} {H H' : Hp} {pw : List (Str × List (Rat × Rat))} {kW : List (Key × V)} (h : WyR K H pw kW) (s : Same H H') : WyR K H' pw kW :=
 Paired.mapP h fun _ _ z => ⟨z.1, by obtain ⟨l, us, e1, e2, e3⟩ := z.2; exact ⟨l, us, e1, s _ _ e2, e3.same s⟩⟩
theorem WyR.dict {K : Frag} {H : Hp} {pw : List (Str × List (Rat × Rat))} {kW kvs : List (Key × V)} {d : Addr} {o : HO} (h : WyR K H pw kW) (e : H d = some (.dK kvs)) : WyR K (upd H d o) pw kW :=
 Paired.mapP h fun _ _ z => ⟨z.1, by
  obtain ⟨l, us, e1, e2, e3⟩ := z.2
  exact ⟨l, us, e1, by rw [upd_ne (fun q => by rw [q, e] at e2; cases e2)]; exact e2, e3.sameT (.dict e)⟩⟩
theorem WyR.keys {K : Frag} {H : Hp} {pw : List (Str × List (Rat × Rat))} {kW : List (Key × V)} (h : WyR K H pw kW) : kW.map (·.1) = (pw.map (·.1)).map (fun b => (Sum.inr b : Key)) := by
 rw [paired_keys h, List.map_map]
 rfl
theorem FrR.ends {K : Frag} {H : Hp} {C a dx pP pW pB : Addr} {ps : List (Str × Pt)} {bs : List (Str × Str × Str)} {kP kW kB : List (Key × V)} (R : FrR K H C a dx pP pW pB ps bs kP kW kB) (nd : (bs.map (·.1)).Nodup) {x one other : Str} (m : (x, one, other) ∈ bs) :
  ∃ p, valV kB (.inr x) = some (.ref p) ∧ Rd H p (.tup [.str one, .str other]) := by
 obtain ⟨v, e, p, ep, r⟩ := paired_val R.rb nd m
 have ep' : v = .ref p := ep
 exact ⟨p, by rw [e, ep'], r⟩
theorem FrR.place {K : Frag} {H : Hp} {C a dx pP pW pB : Addr} {ps : List (Str × Pt)} {bs : List (Str × Str × Str)} {kP kW kB : List (Key × V)} (R : FrR K H C a dx pP pW pB ps bs kP kW kB) (nd : (ps.map (·.1)).Nodup) {x : Str} {p : Pt} (m : (x, p) ∈ ps) :
  ∃ v, valV kP (.inr x) = some v ∧ Spot K H v p := paired_val R.rp nd m
end Ty
namespace Ty
open PySem PySem.Spec PyProof.Rows L2
structure PinD where
 nm : Str
 sp : Rat × Rat
 ws : List (Rat × Rat)
structure BarD where
 nm : Str
 one : PinD
 other : PinD
structure FrA (K : Frag) (H : Hp) (C a : Addr) (pins : List PinD) (bars : List BarD) : Prop where
 ex : ∃ (dx pP pW pB : Addr) (kP kW kB : List (Key × V)), FrR K H C a dx pP pW pB (pins.map fun p => (p.nm, ptQ p.sp)) (bars.map fun b => (b.nm, b.one.nm, b.other.nm)) kP kW kB ∧ WyR K H (pins.map fun p => (p.nm, p.ws)) kW
structure GoodF (pins : List PinD) (bars : List BarD) : Prop where
 np : (pins.map (·.nm)).Nodup
 nb : (bars.map (·.nm)).Nodup
 ends : ∀ b ∈ bars, b.one ∈ pins ∧ b.other ∈ pins ∧ b.one.nm ≠ b.other.nm
 sz : ∀ p ∈ pins, Sz 100 p.sp.1 ∧ Sz 100 p.sp.2 ∧ ∀ w ∈ p.ws, Sz 50 w.1 ∧ Sz 50 w.2
 lp : pins.length ≤ 6
 lb : bars.length ≤ 8
 lw : ∀ p ∈ pins, p.ws.length ≤ 2
theorem FrA.same {K : Frag} {H H' : Hp} {C a : Addr} {pins : List PinD} {bars : List BarD} (h : FrA K H C a pins bars) (s : Same H H') : FrA K H' C a pins bars := by
 obtain ⟨dx, pP, pW, pB, kP, kW, kB, R, W⟩ := h.ex
 exact ⟨dx, pP, pW, pB, kP, kW, kB, R.same s, W.same s⟩
def PtD (K : Frag) (H : Hp) (kvs : List (Key × V)) (F : Str → Option (Rat × Rat)) : Prop :=
 ∀ nm, (valV kvs (.inr nm) = none ∧ F nm = none) ∨ ∃ v p, valV kvs (.inr nm) = some v ∧ F nm = some p ∧ PtR K H v p
def RtD (K : Frag) (H : Hp) (kvs : List (Key × V)) (F : Str → Option Rat) : Prop :=
 ∀ nm, (valV kvs (.inr nm) = none ∧ F nm = none) ∨ ∃ v p, valV kvs (.inr nm) = some v ∧ F nm = some p ∧ NmR K H v p
def LtD (K : Frag) (H : Hp) (kvs : List (Key × V)) (F : Str → Option (List Rat)) : Prop :=
 ∀ nm, (valV kvs (.inr nm) = none ∧ F nm = none) ∨ ∃ l us rs, valV kvs (.inr nm) = some (.ref l) ∧ F nm = some rs ∧ H l = some (.lst us) ∧ Paired (NmR K H) us rs
section
variable {K : Frag} {H H' : Hp} {kvs : List (Key × V)}
end
end Ty
namespace Ty
open PySem PySem.Spec PyProof.Rows L2
end Ty
namespace Ty
open PySem PySem.Spec PyProof.Rows L2
theorem take_new {α : Type} {nm : α → Str} {l : List α} (nd : (l.map nm).Nodup) {i : Nat} {b b' : α} (h : l[i]? = some b) (m : b' ∈ l.take i) : nm b' ≠ nm b := fun e => by
 have il := (List.getElem?_eq_some_iff.mp h).1
 obtain ⟨j, hj, ej⟩ := List.mem_iff_getElem.mp m
 rw [List.getElem_take] at ej
 rw [List.length_take] at hj
 have q1 : (l.map nm)[j]? = some (nm b) := by rw [List.getElem?_map, gE (by omega), ej, ← e]; rfl
 have q2 : (l.map nm)[i]? = some (nm b) := by rw [List.getElem?_map, h]; rfl
 have := (List.getElem?_inj (by rw [List.length_map]; omega) nd).mp (q1.trans q2.symm)
 omega
theorem take_snoc {α : Type} {l : List α} {i : Nat} {b : α} (h : l[i]? = some b) : l.take (i + 1) = l.take i ++ [b] := by rw [List.take_add_one, h]; rfl
end Ty
namespace Ty
open PySem PySem.Spec PyProof.Rows L2
end Ty
set_option maxHeartbeats 4000000
namespace Ty
open PySem PySem.Spec PyProof.Rows L2
theorem sm_tr {H1 H2 H3 : Hp} (a : Same H1 H2) (b : Same H2 H3) : Same H1 H3 := fun c o z => b _ _ (a _ _ z)
theorem none_back {H H' : Hp} (s : Same H H') {p : Addr} (n : H' p = none) : H p = none := by
 cases e : H p with
 | none => rfl
 | some o => rw [s _ _ e] at n; cases n
theorem nodup_range_map {α : Type} {f : Nat → α} {n : Nat} (h : ∀ i j, i < n → j < n → f i = f j → i = j) : ((List.range n).map f).Nodup := by
 unfold List.Nodup
 rw [List.pairwise_map]
 refine List.Pairwise.imp_of_mem ?_ (List.nodup_range (n := n))
 intro a b ha hb hne e
 exact hne (h a b (List.mem_range.mp ha) (List.mem_range.mp hb) e)
theorem list_of_rel {α : Type} {f : Nat → α} {n : Nat} {ys : List α} (hl : ys.length = n) (h : ∀ i v, ys[i]? = some v → v = f i) : ys = (List.range n).map f := by
 refine List.ext_getElem? fun i => ?_
 by_cases hi : i < n
 ·have e : ys[i]? = some ys[i] := gE (by omega)
  rw [e, h i _ e, List.getElem?_map, List.getElem?_range hi]
  rfl
 ·rw [List.getElem?_eq_none (by omega), List.getElem?_eq_none (by simp; omega)]
theorem foldl_size (a : Array Nat) : ∀ (n : Nat) (acc : Array Nat), ((List.replicate n a).foldl (· ++ ·) acc).size = acc.size + n * a.size
 | 0, acc => by simp
 | n + 1, acc => by
  rw [List.replicate_succ, List.foldl_cons, foldl_size a n, Array.size_append, Nat.succ_mul]
  omega
theorem mul_len {x : Str} {n : Nat} (h : x.length = 1) : (Txt.mul x (n : Int)).length = n := by
 unfold Txt.mul
 have hs : x.cps.size = 1 := h
 by_cases h0 : (n : Int) < 1
 ·rw [if_pos h0]
  have : n = 0 := by omega
  subst this
  rfl
 rw [if_neg h0]
 by_cases h1 : ((n : Int) == 1 || x.length == 0) = true
 ·rw [if_pos h1]
  rw [h] at h1 ⊢
  have : (n : Int) = 1 := by simpa using h1
  omega
 ·rw [if_neg h1]
  show ((List.replicate (n : Int).toNat x.cps).foldl (· ++ ·) #[]).size = n
  rw [foldl_size, hs]
  simp
theorem mulOk1 {x : Str} {n : Nat} (h : x.length = 1) (hn : n < 20) : MulOk x (n : Int) := by
 unfold MulOk
 rw [h]
 revert n
 decide +kernel
end Ty
namespace Ty
open PySem PySem.Spec PyProof.Rows L2
section
variable {X : Cx}
def rTupL (K : Frag) : List V → Hp → VK → Prop := fun xs H Q => ∃ (p : Addr) (ys : List V), xs = [.ref p] ∧ SqL K H p ys ∧ ∀ t, H t = none → Q (.ref t) (upd H t (.tup ys))
end
section
variable {D : Addr} {te : TE} {cap : L2.St} {H1 : Hp} {Q : VK}
end
end Ty
set_option maxHeartbeats 4000000
namespace Ty
open PySem PySem.Spec PyProof.Rows L2
abbrev IsZipB (h : Heap) (z TI TO : Addr) (f0 : Value) (fb : Bool) : Prop :=
 h.get? z = some { cls := .type "zip", dict := none, data := .fields #[f0, .bool fb, .bool false, .ref TI, .ref TO], slots := #[] }
section
variable {prog : Program} {w : World} {A : Around} {E : Value → Shared → Prop} {s : Shared}
end
def ZSt (h : Heap) (z TI TO i1 i2 a b S : Addr) (i : Nat) : Prop := (IsZipB h z TI TO .none false ∨ ∃ (T : Addr) (o : Obj) (fb : Bool), IsZipB h z TI TO (rawInt T) fb ∧ h.get? T = some o ∧ T ≠ z ∧ T ≠ TO ∧ T ≠ i1 ∧ T ≠ i2 ∧ T ≠ S) ∧ IsPair h TI (.ref i1) (.ref i2) ∧ (∃ x y, IsPair h TO x y) ∧ h.IsListIter i1 a i ∧ h.IsListIter i2 b i
section
variable {prog : Program} {w : World} {A : Around} {E : Value → Shared → Prop} {s : Shared} {z TI TO i1 i2 a b S : Addr} {i : Nat}
end
end Ty
namespace Ty
open PySem PySem.Spec PyProof.Rows L2
section
variable {X : Cx} {pins : List (Addr × Obj)} {σ : L2.St}
def ZLs (H : Hp) (xs ys us : List V) : Prop := ∀ (j : Nat) (u : V), us[j]? = some u → ∃ (x y : V) (p : Addr), xs[j]? = some x ∧ ys[j]? = some y ∧ u = .ref p ∧ H p = some (.tup [x, y])
def tListZ (ta : TA) : TE := fun σ H Q => ta σ H fun vs H1 => ∃ (a b : Addr) (xs ys : List V), vs = [.ref a, .ref b] ∧ H1 a = some (.lst xs) ∧ H1 b = some (.lst ys) ∧
 ∀ (l : Addr) (us : List V) (H' : Hp), Same H1 H' → H1 l = none → H' l = some (.lst us) → us.length = min xs.length ys.length → ZLs H' xs ys us → Q (.ref l) H'
end
end Ty
set_option maxHeartbeats 4000000
namespace Ty
open PySem PySem.Spec PyProof.Rows L2
section
variable {X : Cx}
section
variable {k : Nat} {m : Str} {pos apos : Pos} {e o : Expr} {es : List Expr} {ta : TE} {t : TA}
def tMtdX (P : Program) (w : World) (K : Frag) (mg : Str → Option Value) (base : Heap) (k : Nat) (m : Str) (ta : TE) (t : TA) : TEx := fun σ H Q E => ta σ H fun x H1 => ∃ a C dx fs ps sp, x = .ref a ∧ H1 a = some (.ins C dx fs) ∧ fs.lookup m = none ∧
 MtdOk P w K mg base (CXr P w) k C m ps sp ∧ t σ H1 fun vs H2 => sp (x :: vs) H2 Q E
def tMtdXD (P : Program) (w : World) (K : Frag) (mg : Str → Option Value) (base : Heap) (k : Nat) (m : Str) (ta : TE) (t : TA) : TEx := fun σ H Q E => ta σ H fun x H1 => ∃ a C dx fs ps sp, x = .ref a ∧ H1 a = some (.ins C dx fs) ∧ fs.lookup m = none ∧
 MtdOkD P w K mg base (CXr P w) k C m ps [.none] sp ∧ t σ H1 fun vs H2 => sp (x :: vs ++ [.non]) H2 Q E
end
def tNo (cv : Value) (K : Frag) (ts : TS) (tr : TH) : TH := fun cls dx D σ H => ∃ b, PySem.W.exmOne K cls cv = some b ∧
 if b = true then ts D σ H else tr cls dx D σ H
theorem ph_no {c : Str} {cv : Value} {b₀ : Stmt} {suite : List Stmt} {np pos : Pos} {rest : List ExceptHandler} {ts : TS} {tr : TH} (hc : ClsN X c cv)
  (ht : ∀ a, PSs (hnd X a) (b₀ :: suite) ts) (hr : PH X rest tr) : PH X (.ExceptHandler (some (.Name c np)) none (b₀ :: suite) pos :: rest) (tNo cv X.K ts tr) := by
 intro pins s σ H a cls dx D L h
 obtain ⟨b, hb, h⟩ := h
 have I := L.inv
 refine wpAny_handleBy_cons (codeAny_handlers_test (hc.ld a pins s σ H np _ _ (to_hnd I) ?_)) (by intro q; cases q)
 obtain ⟨H0, s0, a0, B, I0, fl, da, un, ok, os, bare, th, tr'⟩ := L.ex
 obtain ⟨ob, hob, hcls⟩ := fl.there
 have LT : PySem.W.Looks (model X.prog X.w) s.heap (typeOf (.ref a)) cls := by
  subst hcls
  exact (PySem.W.Looks.ld hob).andThen .now
 refine (PySem.W.exm_one I.kIn LT hb).here ?_
 cases b with
 | false =>
  rw [if_neg Bool.false_ne_true] at h
  exact hr pins s σ H a cls dx D L h
 | true =>
  rw [if_pos rfl] at h
  refine codeAny_handlers_suite ?_
  refine lands_againW fl fun h6 fl6 up => ?_
  have un6 := un_land un fl.1 fl6.1 th fl.2.2.1 up
  have ok6 := hok_land ok fl.1 fl6.1 tr'
  have I6 : Inv X pins σ H { s with heap := h6 } := I0.call' (ch := []) os un6 ok6 bare fun b z => absurd z (by simp)
  refine wpAny_mono (ht a pins _ _ _ _ (to_hnd I6) h) (fun f s9 q => ?_) fun _ _ z => z.elim
  cases f with
  | next =>
   obtain ⟨σ2, H2, J, q⟩ := q
   exact ⟨_, _, of_hnd I0.ok J, q⟩
  | brk =>
   obtain ⟨σ2, H2, J, q⟩ := q
   exact ⟨_, _, of_hnd I0.ok J, q⟩
  | cont =>
   obtain ⟨σ2, H2, J, q⟩ := q
   exact ⟨_, _, of_hnd I0.ok J, q⟩
  | ret u =>
   obtain ⟨v, σ2, H2, J, r, q⟩ := q
   exact ⟨v, _, _, of_hnd I0.ok J, r, q⟩
def rRemove : V → List V → Hp → VK → Prop := fun x vs H Q => ∃ (l : Addr) (ws : List Str) (y : Str) (j : Nat), x = .ref l ∧ vs = [.str y] ∧ H l = some (.lst (ws.map V.str)) ∧ ws[j]? = some y ∧ (∀ i, i < j → ws[i]? ≠ some y) ∧ Q .non (upd H l (.lst ((ws.eraseIdx j).map V.str)))
end
def thE (H0 : Hp) (E : XK) : XK := fun cls dx H' => E cls dx H' ∨ ∃ d o kvs, H' d = some (.frz o (.dK kvs)) ∧ (∀ o' u', H0 d ≠ some (.frz o' u')) ∧ E cls dx (upd H' d (.dK kvs))
section
variable {P : Program} {w : World} {K : Frag} {mg : Str → Option Value} {base : Heap}
end
end Ty
set_option maxHeartbeats 4000000
namespace Ty
open PySem PySem.Spec PyProof.Rows L2
section
variable {X : Cx} {pins : List (Addr × Obj)} {σ : L2.St} {H : Hp} {s : Shared}
def tListKs (te : TE) : TE := fun σ H Q => te σ H fun x H1 => ∃ d kvs, x = .ref d ∧ H1 d = some (.dK kvs) ∧ ∀ l, H1 l = none → Q (.ref l) (upd H1 l (.lst (kvs.map fun kv => kV kv.1)))
def tListIs (te : TE) : TE := fun σ H Q => te σ H fun x H1 => ∃ d kvs, x = .ref d ∧ H1 d = some (.dK kvs) ∧
 ∀ (l : Addr) (us : List V) (H' : Hp), Same H1 H' → H1 l = none → H' l = some (.lst us) → Paired (fun u (kv : Key × V) => ∃ p, u = .ref p ∧ H' p = some (.tup [kV kv.1, kv.2])) us kvs → Q (.ref l) H'
def iValsF (te : TE) : TI := fun σ H R => te σ H fun x H1 => ∃ d kvs, x = .ref d ∧ H1 d = some (.dK kvs) ∧ ∀ o, R (Itv d o kvs) (upd H1 d (.frz o (.dK kvs)))
def rInBy (K : Frag) (neg : Bool) : R2 := fun x y H Q => ∃ (l : Addr) (us : List V) (ds : List Da) (n : Str) (d : List Da) (b : Bool), y = .ref l ∧ SqL K H l us ∧ Iss K H ds us ∧ Is K H (.t (.v (.str n) :: d)) x ∧
 (∀ e ∈ ds, ∃ m r, e = Da.t (.v (.str m) :: r) ∧ alikes r d = true ∧ dep e ≤ 60 ∧ (m = n → eqDas r d = true)) ∧ (b = true ↔ ∃ r, Da.t (.v (.str n) :: r) ∈ ds) ∧ Q (.bl (if neg then !b else b)) H
end
end Ty
set_option maxHeartbeats 4000000
namespace Ty
open PySem PySem.Spec PyProof.Rows L2
section
variable {prog : Program} {w : World} {KK : Type} [DecidableEq KK] {knd : KeyKind prog w KK} {A : Around} {E : Value → Shared → Prop} {s : Shared}
end
section
variable {X : Cx}
def StN (it d : Addr) (n ep i : Nat) (h : Heap) : Prop := (∃ ok ov, IsItemIter h it d i n ep ok ov) ∨ ∃ ok ov a f, PySem.W.KdxIt h it d i n ep ok ov a f
end
end Ty
set_option maxHeartbeats 4000000
namespace Ty
open PySem PySem.Spec PyProof.Rows L2
theorem split_at {prog : Program} {w : World} {A : Around} {E : Value → Shared → Prop} {s : Shared} {x y : Str} {t u : Tok} {Q : Value → Shared → Prop} (hy : (y.length == 0) = false) (hsz : x.length + 2 ≤ sizeLine)
  (hq : ∀ (l : List (Str × Tok)) (k : Nat), l.map (·.1) = Txt.split x y → Q (.ref s.heap.objs.size) { s with heap := s.heap.push { cls := .type "list", data := .seq (strValues l).toArray }, toks := k }) :
  wpAny (model prog w) A (call (.builtin "str.split") [.str x t, .str y u]) Q E s := by
 have hn : (Builtin.Str.partsBetween x (Builtin.Str.occurrences x y 0 x.length (x.length + 1)) y.length).length ≤ sizeLine := by
  have e1 := StrLaws.occ_length_le x y 0 x.length (x.length + 1)
  rw [len_partsBetween]
  omega
 cases h1 : (decide (x.length < y.length) || decide (Builtin.Str.strKind x < Builtin.Str.strKind y))
 ·cases hf : (Builtin.Str.occurrences x y 0 x.length (x.length + 1)).isEmpty
  ·refine call_meets F.slot_str_split (typeIs_str _ _ _) F.entry_str_split (F.args_str_split_2 _ _) (meets_str_split_sep x y t u h1 hy hf (by omega) hn) ?_
   show wants Q E _ { s with toks := _, heap := s.heap.push { cls := .type "list", data := .seq (strsFrom s.toks (Builtin.Str.partsBetween x (Builtin.Str.occurrences x y 0 x.length (x.length + 1)) y.length)).toArray } }
   rw [strsFrom_eq]
   exact hq (numbered s.toks _) _ ((numbered_texts _ _).trans ((if_neg (ne_true_of_eq_false h1)).trans (if_neg (ne_true_of_eq_false hf))).symm)
  ·exact call_meets F.slot_str_split (typeIs_str _ _ _) F.entry_str_split (F.args_str_split_2 _ _) (meets_str_split_not_found x y t u h1 hy hf) (hq [(x, t)] s.toks ((if_neg (ne_true_of_eq_false h1)).trans (if_pos hf)).symm)
 ·exact call_meets F.slot_str_split (typeIs_str _ _ _) F.entry_str_split (F.args_str_split_2 _ _) (meets_str_split_cannot_occur x y t u h1) (hq [(x, t)] s.toks (if_pos h1).symm)
theorem vals_strs : ∀ l : List (Str × Tok), Vals ((l.map (·.1)).map V.str) (strValues l)
 | [] => .nil
 | p :: l => .cons ⟨p.2, rfl⟩ (vals_strs l)
section
variable {X : Cx}
def rSplit : V → List V → Hp → VK → Prop := fun x vs H Q => ∃ z y, x = .str z ∧ vs = [.str y] ∧ (y.length == 0) = false ∧ z.length + 2 ≤ sizeLine ∧ ∀ l, H l = none → Q (.ref l) (upd H l (.lst ((Txt.split z y).map V.str)))
theorem mt_split : MtM X "str.split" rSplit := by
 intro pins s σ H x vs v us Q I rx rv h
 obtain ⟨z, y, rfl, rfl, hy, hz, q⟩ := h
 obtain ⟨t, rfl⟩ := rx
 obtain ⟨u, rfl, ru⟩ := rv.one
 obtain ⟨t', rfl⟩ := ru
 have hn := I.hok.fresh (Nat.le_refl s.heap.objs.size)
 refine split_at hy hz fun l k el => ?_
 have hl : (Txt.split z y).length ≤ sizeLine := by
  have := split_le z y
  omega
 have I2 := I.laid (h' := s.heap.push { cls := .type "list", data := .seq (strValues l).toArray }) (t' := k) (o := .lst ((Txt.split z y).map V.str)) (fun b o e => Heap.get?_push_of_some _ e) (Nat.le_refl _) ⟨by rw [List.length_map]; exact hl, strValues l, 0, by rw [← el]; exact vals_strs l, Heap.get?_push_size _ rfl⟩
 exact ⟨.ref _, _, I2, rfl, q _ hn⟩
end
def jn (c : Nat) : List (List Nat) → List Nat
 | [] => []
 | [w] => w
 | w :: v :: ws => w ++ c :: jn c (v :: ws)
theorem jn_inj {c : Nat} : ∀ {as bs : List (List Nat)}, as ≠ [] → bs ≠ [] → (∀ a ∈ as, c ∉ a) → (∀ b ∈ bs, c ∉ b) → jn c as = jn c bs → as = bs := by
 have cut : ∀ {a b r s : List Nat}, c ∉ a → c ∉ b → a ++ c :: r = b ++ c :: s → a = b ∧ r = s := by
  intro a
  induction a with
  | nil =>
   intro b r s _ hb e
   cases b with
   | nil => exact ⟨rfl, (List.cons.inj e).2⟩
   | cons x b => exact absurd (by rw [(List.cons.inj e).1]; exact List.mem_cons_self) hb
  | cons x a ih =>
   intro b r s ha hb e
   cases b with
   | nil => exact absurd (by rw [(List.cons.inj e).1]; exact List.mem_cons_self) ha
   | cons y b =>
    obtain ⟨e1, e2⟩ := List.cons.inj e
    obtain ⟨h1, h2⟩ := ih (fun z => ha (List.mem_cons_of_mem _ z)) (fun z => hb (List.mem_cons_of_mem _ z)) e2
    exact ⟨by rw [e1, h1], h2⟩
 have no : ∀ {a b r : List Nat}, c ∉ a → a ≠ b ++ c :: r := fun ha e => ha (by rw [e]; simp)
 intro as
 induction as with
 | nil => intro bs h; exact absurd rfl h
 | cons a as ih =>
  intro bs _ hb h1 h2 e
  cases bs with
  | nil => exact absurd rfl hb
  | cons b bs =>
   have ha := h1 a List.mem_cons_self
   have hb' := h2 b List.mem_cons_self
   cases as with
   | nil =>
    cases bs with
    | nil =>
     have e' : a = b := e
     rw [e']
    | cons b2 bs => exact absurd e (no ha)
   | cons a2 as =>
    cases bs with
    | nil => exact absurd e.symm (no hb')
    | cons b2 bs =>
     obtain ⟨h3, h4⟩ := cut ha hb' e
     rw [h3, ih (by simp) (by simp) (fun z hz => h1 z (List.mem_cons_of_mem _ hz)) (fun z hz => h2 z (List.mem_cons_of_mem _ hz)) h4]
theorem join_jn (c : Nat) : ∀ ws : List Str, (Str.join ⟨#[c]⟩ ws).cps.toList = jn c (ws.map fun w => w.cps.toList)
 | [] => rfl
 | [w] => rfl
 | w :: v :: ws => by
  have ih := join_jn c (v :: ws)
  show (w ++ (⟨#[c]⟩ : Str) ++ Str.join ⟨#[c]⟩ (v :: ws)).cps.toList = w.cps.toList ++ c :: jn c ((v :: ws).map fun w => w.cps.toList)
  rw [← ih]
  show (w.cps ++ #[c] ++ (Str.join ⟨#[c]⟩ (v :: ws)).cps).toList = _
  simp
theorem cps_inj {x y : Str} (h : x.cps.toList = y.cps.toList) : x = y := by
 cases x
 cases y
 congr 1
 exact Array.toList_inj.mp h
theorem split_join {c : Nat} {ws : List Str} (ne : ws ≠ []) (h : ∀ w ∈ ws, c ∉ w.cps.toList) : Txt.split (Txt.join ⟨#[c]⟩ ws) ⟨#[c]⟩ = ws := by
 have e0 : Txt.join ⟨#[c]⟩ ws = Str.join ⟨#[c]⟩ ws := StrLaws.glued_eq_join _ _
 have e1 := congrArg (fun x : Str => x.cps.toList) (StrLaws.join_split (Txt.join ⟨#[c]⟩ ws) ⟨#[c]⟩)
 have e2 : jn c ((Txt.split (Txt.join ⟨#[c]⟩ ws) ⟨#[c]⟩).map fun w => w.cps.toList) = jn c (ws.map fun w => w.cps.toList) := by
  rw [← join_jn, ← join_jn, ← e0]
  exact e1
 have p1 := split_pos (Txt.join ⟨#[c]⟩ ws) ⟨#[c]⟩
 have e3 := jn_inj (fun z => by rw [List.map_eq_nil_iff] at z; rw [z] at p1; simp at p1) (fun z => ne (List.map_eq_nil_iff.mp z)) (fun a ha => by
  obtain ⟨w, hw, rfl⟩ := List.mem_map.mp ha
  exact StrLaws.split_free _ c w hw) (fun a ha => by
  obtain ⟨w, hw, rfl⟩ := List.mem_map.mp ha
  exact h w hw) e2
 have inj : ∀ {as bs : List Str}, (as.map fun w => w.cps.toList) = (bs.map fun w => w.cps.toList) → as = bs := by
  intro as
  induction as with
  | nil => intro bs e; exact (List.map_eq_nil_iff.mp e.symm).symm
  | cons a as ih =>
   intro bs e
   cases bs with
   | nil => simp at e
   | cons b bs =>
    rw [List.map_cons, List.map_cons] at e
    obtain ⟨h1, h2⟩ := List.cons.inj e
    rw [cps_inj h1, ih h2]
 exact inj e3
end Ty
set_option maxHeartbeats 4000000
namespace Ty
open PySem PySem.Spec PyProof.Rows L2
section
variable {X : Cx}
theorem psx_ret {e : Expr} {te : TEx} {pos : Pos} (he : PEx X e te) : PSx X (.Return (some e) pos) (fun D E σ H => te σ H (fun v H1 => D.rt v H1) (E σ)) := by
 intro pins s σ H D E I h
 refine wpAny_Return_some (wpAny_mono (he pins s σ H _ _ I h) (fun v s1 z => ?_) fun e s' z => ⟨σ, z⟩)
 obtain ⟨y, H1, I1, r1, q1⟩ := z
 exact ⟨y, σ, H1, I1, r1, q1⟩
def rInNone (K : Frag) : R2 := fun x y H Q => ∃ l us, x = .non ∧ y = .ref l ∧ SqL K H l us ∧ (∀ u ∈ us, flatV u = true ∨ ∃ p xs, u = .ref p ∧ SqT K H p xs) ∧ Q (.bl (us.any fun u => decide (u = V.non))) H
theorem op_inNone (hu : X.A.units + 64 < cLine) : OpR X (compareOp .In) (rInNone X.K) := by
 intro pins s σ H x y v u Q I rx ry h
 obtain ⟨l, us, rfl, rfl, hq, hk, q⟩ := h
 cases ry
 cases rx
 obtain ⟨its, rv, pl, hz⟩ := I.list hq
 let e : Value → Bool := fun y => match y with | .none => true | _ => false
 have key : ∀ (j : Nat) (y : Value), its[j]? = some y → ∃ w, us[j]? = some w ∧ RelV w y := fun j y ey => paired_get (paired_flip rv) ey
 have he : ∀ (w : V) (y : Value), RelV w y → (flatV w = true ∨ ∃ p xs, w = .ref p ∧ SqT X.K H p xs) → SeqAt.EqAt X.A.in1 s y .none (e y) ∧ e y = decide (w = V.non) := fun w y r hw => by
  rcases hw with hf | ⟨p, xs, rfl, ht⟩
  ·cases w with
   | non => cases r; exact ⟨.same _, rfl⟩
   | bl b => cases r; exact ⟨.bool_none b, rfl⟩
   | int i => obtain ⟨t, rfl⟩ := r; exact ⟨.int_none i t, rfl⟩
   | str z => obtain ⟨t, rfl⟩ := r; exact ⟨.str_none z t, rfl⟩
   | _ => exact absurd (show false = true from hf) Bool.false_ne_true
  ·cases r
   obtain ⟨its', _, t', _⟩ := I.tuple ht
   exact ⟨.tuple_none t' (by rw [in1_units]; omega), rfl⟩
 refine SeqAt.in_listAt e pl.isList (fun y hy => ?_) ⟨.bl _, H, I, rfl, ?_⟩
 ·obtain ⟨j, hj, ej⟩ := List.mem_iff_getElem.mp (by simpa using hy : y ∈ its)
  obtain ⟨w, ew, rw'⟩ := key j y (by rw [gE hj, ej])
  exact (he w y rw' (hk w (List.mem_of_getElem? ew))).1
 ·have ea : its.toArray.any e = us.any fun u => decide (u = V.non) := by
   rw [Bool.eq_iff_iff]
   simp only [List.any_toArray, List.any_eq_true]
   constructor
   ·rintro ⟨y, hy, ey⟩
    obtain ⟨j, hj, ej⟩ := List.mem_iff_getElem.mp hy
    obtain ⟨w, ew, rw'⟩ := key j y (by rw [gE hj, ej])
    have := (he w y rw' (hk w (List.mem_of_getElem? ew))).2
    exact ⟨w, List.mem_of_getElem? ew, by rw [← this]; exact ey⟩
   ·rintro ⟨w, hw, ew⟩
    obtain ⟨j, hj, ej⟩ := List.mem_iff_getElem.mp hw
    obtain ⟨y, ey, ry⟩ := paired_get rv (by rw [gE hj, ej])
    have := (he w y ry (hk w hw)).2
    exact ⟨y, List.mem_of_getElem? ey, by rw [this]; exact ew⟩
  rw [ea]
  exact q
end
theorem comp_str {D : Addr} {te : TE} {cap : L2.St} {H1 : Hp} {Q : VK} {x : Str} (Rel : Nat → V → Hp → Prop) (nD : H1 D = none) (hn : x.cps.size < sizeLine)
  (hR : ∀ i v H H' ys, H D = some (.lst ys) → KSame D H H' → Rel i v H → Rel i v H')
  (he : ∀ (i : Nat) (c : Nat) H (R : VK), x.cps[i]? = some c → Same H1 H → (∀ v H6, Same H H6 → Rel i v H6 → R v H6) → te (some (.str ⟨#[c]⟩) :: cap) H R)
  (hd : ∀ ys H, ys.length = x.cps.size → (∀ i v, ys[i]? = some v → Rel i v H) → Same H1 H → H D = some (.lst ys) → Q (.ref D) H) :
  tBlk D (gName 0) tYes te (Its x) (none :: cap) H1 Q := by
 refine comp_gen x.cps.size (fun i => .str ⟨#[(x.cps[i]?).getD 0]⟩) Rel nD hn (fun i H hi s => ⟨hi, fun v H' y => ?_⟩) (fun H s => rfl) hR (fun i H R hi s k => ?_) hd
 ·obtain ⟨y1, c, y2, y3⟩ := y
  refine ⟨y1, ?_⟩
  rw [y3, y2]
  rfl
 ·have e : x.cps[i]? = some x.cps[i] := Array.getElem?_eq_getElem hi
  have k' := he i _ H R e s k
  rw [← (show (x.cps[i]?).getD 0 = x.cps[i] by rw [e]; rfl)] at k'
  exact k'
end Ty
set_option maxHeartbeats 4000000
namespace T_k81
open PySem PySem.Spec PyProof.Rows L2 Ty
open Builtin.Int (intBits)
seal L2.PE L2.PS L2.PSs L2.PA
theorem sq {N P : List Str} {sc : Scope} (a : sc.kind = .function := by exact rfl) (b : sc.isCoroutine = false := by exact rfl) (c : sc.isGenerator = false := by exact rfl) (d : N.Nodup := by decide +kernel) (e : N.take P.length = P := by exact rfl) (f : ∀ x ∈ P, sc.names.lookup x = some .local ∨ sc.names.lookup x = some .cell := by decide +kernel) (g : ∀ y ∈ sc.names, y.2 ≠ .free := by decide +kernel) : FnScope N P sc := ⟨a, b, c, d, e, f, g⟩
theorem pY (P : Program) (w : World) {X : Cx} : Passes (CXr P w) X.nox E0 := passM CXr.mute
theorem pX {P : Program} {w : World} {X : Cx} : Passes (CXr P w) X.nox E0 := passM CXr.mute
theorem _root_.L2.Room.mo {j k : Nat} {A : Around} (r : L2.Room k A) (h : j ≤ k := by decide) : L2.Room j A := r.mono h
theorem pe_tx {X : Cx} {a : Expr} {ta : TE} {i j p1 p2} (h : PE X a ta) : PE X (.Subscript a (.Constant (.int i) j p1) p2) (tOp (rIxT X.K) ta (tC (.int i))) := pe_ix ix_tup h pe_int (fun _ _ => rfl)
theorem pe_lx {X : Cx} {a : Expr} {ta : TE} {i j p1 p2} (h : PE X a ta) : PE X (.Subscript a (.Constant (.int i) j p1) p2) (tOp (rIxL X.K) ta (tC (.int i))) := pe_ix ix_list h pe_int (fun _ _ => rfl)
theorem _root_.L2.Fun.bnd {K : Frag} {x qual : Str} {st : Stmt} {f : Addr} {fd : FuncData} {ps : List Str} (F : L2.Fun K x qual st f fd)
 (h : ∀ (kV doc pm : Value) (an : Option Addr) (cdv ct : Value) (us : List Value), us.length = ps.length → bindArgs (fnOf x qual (defArgs st) (defBody st) (defScope st) .none kV doc pm an cdv ct) ⟨us, []⟩ = pure (ps.zip us) := by first | exact (fun _ _ _ _ _ _ us hl => match us, hl with | [_], _ => rfl) | exact (fun _ _ _ _ _ _ us hl => match us, hl with | [_, _], _ => rfl) | exact (fun _ _ _ _ _ _ us hl => match us, hl with | [_, _, _], _ => rfl) | exact (fun _ _ _ _ _ _ us hl => match us, hl with | [_, _, _, _], _ => rfl) | exact (fun _ _ _ _ _ _ us hl => match us, hl with | [_, _, _, _, _], _ => rfl)) : Binds K fd ps [] := F.binds h
theorem dof {K : Frag} {mg : Str → Option Value} {h : Heap} {x : Str} {st : Stmt} {ps : List Str} {f : Addr} {oc : Value} {od an : Option Addr} {osl : Array (Option Value)} {kV doc pm cdv ct : Value} (X : K.In h) (G : h.Ns mainGlobals mg) (l : K.lookup f = some ⟨oc, od, .func (fnOf x x (defArgs st) (defBody st) (defScope st) .none kV doc pm an cdv ct), osl⟩) (c : codeIn K cdv x = true) (k : keepIn K (.ref f) = true) (a : nsIn K mainGlobals x = some (some (.ref f)))
 (b : ∀ (kV doc pm : Value) (an : Option Addr) (cdv ct : Value) (us : List Value), us.length = ps.length → bindArgs (fnOf x x (defArgs st) (defBody st) (defScope st) .none kV doc pm an cdv ct) ⟨us, []⟩ = pure (ps.zip us) := by first | exact (fun _ _ _ _ _ _ us hl => match us, hl with | [_], _ => rfl) | exact (fun _ _ _ _ _ _ us hl => match us, hl with | [_, _], _ => rfl) | exact (fun _ _ _ _ _ _ us hl => match us, hl with | [_, _, _], _ => rfl) | exact (fun _ _ _ _ _ _ us hl => match us, hl with | [_, _, _, _], _ => rfl) | exact (fun _ _ _ _ _ _ us hl => match us, hl with | [_, _, _, _, _], _ => rfl)) : Def K mg x st ps := Def.of (fun_mk l c k) ((fun_mk l c k).binds b) (mg_of X G a)
def top (i : Nat) : Stmt := PySem.Challenge.pw_trussyard_k81_shown_and_read.main.body.getD i (.Pass ⟨0, 0, 0, 0⟩)
abbrev s_wall : Stmt := top 0
abbrev s_bf : Stmt := top 2
abbrev s_bs : Stmt := top 3
abbrev s_c8 : Stmt := top 4
abbrev s_ce : Stmt := top 5
abbrev s_bt : Stmt := top 6
abbrev s_bg : Stmt := top 7
abbrev s_cf : Stmt := top 8
abbrev s_bu : Stmt := top 9
abbrev s_cg : Stmt := top 10
abbrev s_bv : Stmt := top 11
abbrev s_c2 : Stmt := top 12
abbrev s_c9 : Stmt := top 13
abbrev s_bh : Stmt := top 16
abbrev s_c3 : Stmt := top 17
abbrev s_product_of : Stmt := top 18
abbrev s_bi : Stmt := top 19
abbrev s_ad : Stmt := top 20
abbrev s_a3 : Stmt := top 21
abbrev s_an : Stmt := top 25
abbrev s_ao : Stmt := top 26
abbrev s_ap : Stmt := top 27
abbrev s_ch : Stmt := top 31
abbrev s_ck : Stmt := top 33
abbrev s_ca : Stmt := top 34
abbrev s_ci : Stmt := top 35
abbrev s_bj : Stmt := top 38
abbrev s_stretched : Stmt := top 39
abbrev s_cb : Stmt := top 42
abbrev s_cc : Stmt := top 43
abbrev s_aq : Stmt := top 44
abbrev s_bk : Stmt := top 45
abbrev s_bw : Stmt := top 46
abbrev s_bx : Stmt := top 47
abbrev s_lay_piece : Stmt := top 48
abbrev s_prefixes_and_spots : Stmt := top 49
abbrev s_c4 : Stmt := top 50
abbrev s_b4 : Stmt := top 51
abbrev s_bl : Stmt := top 56
abbrev s_c5 : Stmt := top 57
abbrev s_bm : Stmt := top 58
abbrev s_by : Stmt := top 59
abbrev s_b5 : Stmt := top 60
abbrev s_many_of : Stmt := top 61
abbrev s_cj : Stmt := top 64
abbrev s_ar : Stmt := top 65
abbrev s_as : Stmt := top 66
abbrev s_at : Stmt := top 67
abbrev s_au : Stmt := top 68
abbrev s_ag : Stmt := top 70
abbrev s_bn : Stmt := top 71
abbrev s_av : Stmt := top 72
abbrev s_b6 : Stmt := top 73
abbrev s_b7 : Stmt := top 74
abbrev s_bo : Stmt := top 75
abbrev s_bp : Stmt := top 76
abbrev s_bq : Stmt := top 77
abbrev s_b8 : Stmt := top 78
abbrev s_ah : Stmt := top 79
abbrev s_br : Stmt := top 80
abbrev s_c6 : Stmt := top 81
abbrev s_law : Stmt := top 82
abbrev s_aw : Stmt := inClass (top 31) 0
abbrev s_aa : Stmt := inClass (top 31) 1
abbrev s_ab : Stmt := inClass (top 31) 2
abbrev s_a4 : Stmt := inClass (top 31) 3
abbrev s_a5 : Stmt := inClass (top 31) 4
abbrev s_a8 : Stmt := inClass (top 31) 5
abbrev s_ax : Stmt := inClass (top 31) 7
abbrev s_ay : Stmt := inClass (top 31) 8
abbrev s_ai : Stmt := inClass (top 31) 9
abbrev s_az : Stmt := inClass (top 31) 10
abbrev s_b0 : Stmt := inClass (top 31) 11
abbrev s_b9 : Stmt := inClass (top 33) 0
abbrev s_aj : Stmt := inClass (top 34) 0
abbrev s_ak : Stmt := inClass (top 34) 1
abbrev s_b1 : Stmt := inClass (top 35) 0
abbrev s_al : Stmt := inClass (top 42) 0
abbrev s_a0 : Stmt := inClass (top 42) 1
abbrev s_am : Stmt := inClass (top 43) 0
abbrev s_a1 : Stmt := inClass (top 43) 1
abbrev s_a2 : Stmt := inClass (top 43) 2
abbrev s_a6 : Stmt := inClass (top 43) 3
abbrev s_a9 : Stmt := inClass (top 43) 4
abbrev s_b2 : Stmt := inClass (top 64) 0
abbrev s_a7 : Stmt := inClass (top 64) 1
abbrev s_b3 : Stmt := inClass (top 64) 2
section
variable {P : Program} {w : World} {K : Frag} {mg : Str → Option Value} {base : Heap} {CX : CXT}
def Nm (H : Hp) (v : V) (q : Int × Int) : Prop := ∃ p, v = .ref p ∧ H p = some (.tup [.int q.1, .int q.2])
structure Okn (k : Nat) (q : Int × Int) : Prop where
 pos : 0 < q.2
 top : intBits q.1 ≤ k
 bot : intBits q.2 ≤ k
theorem same_new {H : Hp} {p : Addr} (h : H p = none) (o : HO) : Same H (upd H p o) := fun b u q => by rw [upd_ne (ne_of_none q h)]; exact q
theorem nw {H H' : Hp} {l : Addr} {o : HO} (n : H l = none) (e : upd H l o = H') : Same H H' ∧ H' l = some o := by subst e; exact ⟨same_new n o, upd_same⟩
def gives (H : Hp) (Q : VK) (q : Int × Int) : Prop := ∀ (p : Addr) (H' : Hp), Same H H' → H' p = some (.tup [.int q.1, .int q.2]) → Q (.ref p) H'
def spShared : Sp := fun vs H Q _ => ∃ a b : Int, vs = [.int a, .int b] ∧ Q (.int (gz a b)) H
def spLowest : Sp := fun vs H Q _ => ∃ t b : Int, vs = [.int t, .int b] ∧ b ≠ 0 ∧ intBits b ≤ 9000 ∧ gives H Q (low t b)
def spBin (f : Int × Int → Int × Int → Int × Int) : Sp := fun vs H Q _ => ∃ (u v : V) (x y : Int × Int), vs = [u, v] ∧ Nm H u x ∧ Nm H v y ∧ Okn 4000 x ∧ Okn 4000 y ∧ gives H Q (f x y)
def addQ (x y : Int × Int) : Int × Int := low (x.1 * y.2 + y.1 * x.2) (x.2 * y.2)
def subQ (x y : Int × Int) : Int × Int := low (x.1 * y.2 - y.1 * x.2) (x.2 * y.2)
def mulQ (x y : Int × Int) : Int × Int := low (x.1 * y.1) (x.2 * y.2)
theorem pos_mul {x y : Int × Int} {k l : Nat} (hx : Okn k x) (hy : Okn l y) : x.2 * y.2 ≠ 0 := Int.ne_of_gt (Int.mul_pos hx.pos hy.pos)
theorem at0 {a b : V} : atI [a, b] 0 = some a := rfl
theorem at1 {a b : V} : atI [a, b] 1 = some b := rfl
theorem sc_a3 : FnScope ["one", "other", "left"] ["one", "other"] (defScope s_a3) := sq
theorem ok_a3 (D : Def K mg "greatest_shared" s_a3 ["one", "other"]) (m_abs : mg "abs" = none) : Fn P w K mg base CX 1 "greatest_shared" ["one", "other"] spShared := by
 refine D.ok sc_a3 (fun vs H Q E h => ?_) (fun f cdv A outer s H vs Q E hr h => ?_)
 ·obtain ⟨a, b, rfl, _⟩ := h
  rfl
 obtain ⟨a, b, rfl, q⟩ := h
 refine ⟨_, (pss_cons (ps_while PassesOwn.never (pt_cmpR op_ne (pv 1) pe_int (nomark _)) (pss_cons (ps_set (i := 2) sc_a3.nd rfl (Or.inl rfl) (pe_op op_modB (pv 0) (pv 1)))
   (pss_cons (ps_set (i := 0) sc_a3.nd rfl (Or.inl rfl) (pv 1))
   (pss_one (ps_set (i := 1) sc_a3.nd rfl (Or.inl rfl) (pv 2))))))
  (pss_one (ps_ret (pe_callB call_abs rfl m_abs b_abs (pac (pv 0) pa_nil))))), ?_⟩
 refine while_by (fun σ H' => ∃ (x y : Int) (l : Option V), σ = [some (.int x), some (.int y), l] ∧ H' = H ∧ Int.gcd x y = Int.gcd a b) (fun σ _ => match σ with | [_, some (.int y), _] => y.natAbs | _ => 0) ⟨a, b, none, rfl, rfl, rfl⟩ ?_ ?_
 ·rintro σ H' ⟨x, y, l, rfl, rfl, g⟩
  refine ⟨_, rfl, rfl, _, rfl, ?_⟩
  refine ite2 (fun c => ?_) (fun c => ?_)
  ·have hy : y ≠ 0 := by
    intro z
    subst z
    simp at c
   refine ⟨_, rfl, _, rfl, _, _, rfl, rfl, hy, ?_⟩
   refine ⟨_, rfl, _, rfl, ?_⟩
   exact ⟨⟨_, _, _, rfl, rfl, by rw [gcd_step]; exact g⟩, fmod_less hy⟩
  ·have hy : y = 0 := by
    have := Bool.eq_false_iff.mpr c
    simp at this
    exact this
   subst hy
   refine ⟨_, rfl, x, rfl, ?_⟩
   have e : (if x < 0 then -x else x) = gz a b := by
    rw [Int.gcd_zero_right] at g
    unfold gz
    rw [← g]
    split <;> omega
   rw [e]
   exact q
 ·rintro σ H' Q1 Q2 h ⟨v, e1, e2, k, ek, z⟩
  exact ⟨v, e1, e2, k, ek, h _ _ z⟩
def spLowestU : Sp := fun vs H Q _ => ∃ t b : Int, vs = [.int t, .int b] ∧ b ≠ 0 ∧ gives H Q (low t b)
theorem sc_ad : FnScope ["top", "bottom", "shared"] ["top", "bottom"] (defScope s_ad) := sq
theorem ok_ad (ht : P.given.tree = none) (D : Def K mg "lowest_terms" s_ad ["top", "bottom"]) (G_a3 : Fn P w K mg base (CXr P w) 1 "greatest_shared" ["one", "other"] spShared) : Fn P w K mg base (CXr P w) 33 "lowest_terms" ["top", "bottom"] spLowestU := by
 refine D.ok sc_ad (fun vs H Q E h => ?_) (fun f cdv A outer s H vs Q E hr h => ?_)
 ·obtain ⟨t, b, rfl, _⟩ := h
  rfl
 obtain ⟨t, b, rfl, hb, q⟩ := h
 have tail2 : ∃ tt, PSs (cxOf (CXr P w) P w K mg base ["top", "bottom", "shared"] "lowest_terms" (defScope s_ad) f cdv A outer s H E).nox ((defBody s_ad).drop 2) tt ∧ ∀ g : Int, g = sg t b → tt { nx := fun _ H' => Q .non H', rt := Q } [some (.int t), some (.int b), some (.int g)] H := by
  refine ⟨_, (pss_one (ps_ret (pe_tup (pac (pe_op (op_fdivU ht (Ty.Room.py hr (by decide)) rfl rfl rfl rfl rfl) (pv 0) (pv 2)) (pac (pe_op (op_fdivU ht (Ty.Room.py hr (by decide)) rfl rfl rfl rfl rfl) (pv 1) (pv 2)) pa_nil))))), ?_⟩
  rintro g rfl
  have c := sg_ne (t := t) hb
  refine ⟨_, rfl, _, rfl, _, _, rfl, rfl, c, _, rfl, _, rfl, _, _, rfl, rfl, c, (by show 2 ≤ sizeLine; decide), fun p hp => ?_⟩
  exact q p _ (same_new hp _) upd_same
 obtain ⟨t2, p2, q2⟩ := tail2
 refine ⟨_, (pss_cons (ps_set (i := 2) sc_ad.nd rfl (Or.inl rfl) (pe_fn G_a3 hr.mo pX (pac (pv 0) (pac (pv 1) pa_nil)))) (pss_cons (ps_if (pt_cmpR op_lt (pv 1) pe_int (nomark _)) (pss_one (ps_set (i := 2) sc_ad.nd rfl (Or.inl rfl) (pe_un un_neg (pv 2)))) pss_nil) p2)), ?_⟩
 refine ⟨_, rfl, _, rfl, t, b, rfl, ?_⟩
 refine ⟨_, rfl, _, _, rfl, rfl, _, rfl, ?_⟩
 refine ite2 (fun c => ?_) (fun c => ?_)
 ·refine ⟨_, rfl, _, rfl, q2 _ ?_⟩
  have c' : b < 0 := of_decide_eq_true c
  unfold sg
  rw [if_pos c']
 ·refine q2 _ ?_
  have c' : ¬ b < 0 := of_decide_eq_false (Bool.eq_false_iff.mpr c)
  unfold sg
  rw [if_neg c']
def spBinK (K : Frag) (f : Int × Int → Int × Int → Int × Int) : Sp := fun vs H Q _ => ∃ (u v : V) (x y : Int × Int), vs = [u, v] ∧ NmK K H u x ∧ NmK K H v y ∧ Okn 100000 x ∧ Okn 100000 y ∧ gives H Q (f x y)
theorem sc_c3 : FnScope ["one", "other"] ["one", "other"] (defScope s_c3) := sq
theorem ok_c3 (hM : Mute CX) (D : Def K mg "sum_of" s_c3 ["one", "other"]) (G_ad : Fn P w K mg base CX 33 "lowest_terms" ["top", "bottom"] spLowestU) : Fn P w K mg base CX 34 "sum_of" ["one", "other"] (spBinK K addQ) := by
 refine D.ok sc_c3 (fun vs H Q E h => ?_) (fun f cdv A outer s H vs Q E hr h => ?_)
 ·obtain ⟨u, v, x, y, rfl, _⟩ := h
  rfl
 obtain ⟨u, v, x, y, rfl, ⟨p1, rfl, h1⟩, ⟨p2, rfl, h2⟩, k1, k2, q⟩ := h
 have px := passM (X := cxOf CX P w K mg base ["one", "other"] "sum_of" (defScope s_c3) f cdv A outer s H E) hM
 refine ⟨_, (pss_one (ps_ret (pe_fn G_ad hr.mo px (pac (pe_op op_add (pe_op op_mulB (pe_tx (pv 0)) (pe_tx (pv 1))) (pe_op op_mulB (pe_tx (pv 1)) (pe_tx (pv 0)))) (pac (pe_op op_mulB (pe_tx (pv 0)) (pe_tx (pv 1))) pa_nil))))), ?_⟩
 have b1 := k1.top
 have b2 := k1.bot
 have b3 := k2.top
 have b4 := k2.bot
 have c : ∀ {i j : Int}, intBits i ≤ 100000 → intBits j ≤ 100000 → CMulB i j := fun a b => ⟨Nat.le_trans a (by decide), Nat.le_trans b (by decide)⟩
 refine ⟨_, rfl, p1, _, _, _, rfl, rfl, h1, at0, _, rfl, p2, _, _, _, rfl, rfl, h2, at1, _, _, rfl, rfl, c b1 b4, ?_⟩
 refine ⟨_, rfl, p2, _, _, _, rfl, rfl, h2, at0, _, rfl, p1, _, _, _, rfl, rfl, h1, at1, _, _, rfl, rfl, c b3 b2, ?_⟩
 refine ⟨_, _, rfl, rfl, ?_⟩
 refine ⟨_, rfl, p1, _, _, _, rfl, rfl, h1, at1, _, rfl, p2, _, _, _, rfl, rfl, h2, at1, _, _, rfl, rfl, c b2 b4, ?_⟩
 exact ⟨_, _, rfl, pos_mul k1 k2, q⟩
def givesR (H : Hp) (Q : VK) (r : Rat) : Prop := gives H Q (qr r)
def spBinR (K : Frag) (f : Rat → Rat → Rat) : Sp := fun vs H Q _ => ∃ (u v : V) (x y : Rat), vs = [u, v] ∧ NmR K H u x ∧ NmR K H v y ∧ Sz 100000 x ∧ Sz 100000 y ∧ gives H Q (qr (f x y))
theorem okn_qr {k : Nat} {r : Rat} (h : Sz k r) : Okn k (qr r) := ⟨qr_pos r, h.top, h.bot⟩
theorem fn_add {k : Nat} {x : Str} {ps : List Str} (F : Fn P w K mg base CX k x ps (spBinK K addQ)) : Fn P w K mg base CX k x ps (spBinR K fun a b => a + b) := by
 obtain ⟨f, fd, G, r⟩ := F.ex
 refine ⟨f, fd, G.imp fun vs H Q E h => ?_, r⟩
 obtain ⟨u, v, a, b, e, h1, h2, k1, k2, q⟩ := h
 refine ⟨u, v, qr a, qr b, e, h1, h2, okn_qr k1, okn_qr k2, ?_⟩
 unfold addQ
 rw [qr_add]
 exact q
def givesP (K : Frag) (H : Hp) (Q : VK) (p : Rat × Rat) : Prop := ∀ (v : V) (H' : Hp), Same H H' → PtR K H' v p → Q v H'
def spPair (K : Frag) (f : Rat → Rat → Rat) : Sp := fun vs H Q _ => ∃ (u v : V) (x y : Rat × Rat), vs = [u, v] ∧ PtR K H u x ∧ PtR K H v y ∧ Sz 100000 x.1 ∧ Sz 100000 x.2 ∧ Sz 100000 y.1 ∧ Sz 100000 y.2 ∧ givesP K H Q (f x.1 y.1, f x.2 y.2)
theorem sc_bj : FnScope ["one", "other"] ["one", "other"] (defScope s_bj) := sq
theorem ok_bj (hM : Mute CX) (D : Def K mg "pair_sum" s_bj ["one", "other"]) (G_c3 : Fn P w K mg base CX 34 "sum_of" ["one", "other"] (spBinR K fun a b => a + b)) : Fn P w K mg base CX 35 "pair_sum" ["one", "other"] (spPair K fun a b => a + b) := by
 refine D.ok sc_bj (fun vs H Q E h => ?_) (fun f cdv A outer s H vs Q E hr h => ?_)
 ·obtain ⟨u, v, x, y, rfl, _⟩ := h
  rfl
 obtain ⟨u, v, x, y, rfl, ⟨p1, a1, a2, rfl, h1, n1, n2⟩, ⟨p2, b1, b2, rfl, h2, m1, m2⟩, k1, k2, l1, l2, q⟩ := h
 have px := passM (X := (cxOf (CXr P w) P w K mg base ["one", "other"] "pair_sum" (defScope s_bj) f cdv A outer s H E)) hM
 refine ⟨_, (pss_one (ps_ret (pe_tup (pac (pe_fn G_c3 hr.mo px (pac (pe_tx (pv 0)) (pac (pe_tx (pv 1)) pa_nil))) (pac (pe_fn G_c3 hr.mo px (pac (pe_tx (pv 0)) (pac (pe_tx (pv 1)) pa_nil))) pa_nil))))), ?_⟩
 refine ⟨_, rfl, p1, _, _, _, rfl, rfl, h1, at0, _, rfl, p2, _, _, _, rfl, rfl, h2, at0, a1, b1, _, _, rfl, n1, m1, k1, l1, fun c1 H1 s1 e1 => ?_⟩
 refine ⟨_, rfl, p1, _, _, _, rfl, rfl, Ty.Same.seqT s1 h1, at1, _, rfl, p2, _, _, _, rfl, rfl, Ty.Same.seqT s1 h2, at1, a2, b2, _, _, rfl, n2.same s1, m2.same s1, k2, l2, fun c2 H2 s2 e2 => ?_⟩
 refine ⟨(by show 2 ≤ sizeLine; decide), fun c3 n3 => ?_⟩
 have s3 := same_new n3 (.tup [.ref c1, .ref c2])
 exact q (.ref c3) _ (fun b o z => s3 _ _ (s2 _ _ (s1 _ _ z))) ⟨c3, _, _, rfl, SqT.of upd_same, ⟨c1, rfl, SqT.of (s3 _ _ (s2 _ _ e1))⟩, ⟨c2, rfl, SqT.of (s3 _ _ e2)⟩⟩
def spFInit (K : Frag) (C : Addr) : Sp := fun vs H Q _ => ∃ (a dx : Addr), vs = [.ref a] ∧ H a = some (.ins C dx []) ∧
 ∀ (pP pW pB : Addr) (H' : Hp), KSame a H H' → H pP = none → H pW = none → H pB = none → FrR K H' C a dx pP pW pB [] [] [] [] [] → Q .non H'
theorem putF_p1 {x : V} : putF "pin_places" x [] = ([("pin_places", x)] : List (Str × V)) := rfl
theorem putF_w1 {x y : V} : putF "pin_ways" y [("pin_places", x)] = ([("pin_places", x), ("pin_ways", y)] : List (Str × V)) := by
 simp only [putF]
 rw [if_neg (by decide)]
theorem putF_e1 {x y z : V} : putF "bar_ends" z [("pin_places", x), ("pin_ways", y)] = ([("pin_places", x), ("pin_ways", y), ("bar_ends", z)] : List (Str × V)) := by
 simp only [putF]
 rw [if_neg (by decide), if_neg (by decide)]
theorem sc_aw : FnScope ["self"] ["self"] (defScope s_aw) := sq
theorem ok_aw {f : Addr} {fd : FuncData} {C : Addr} (F : Fun K "__init__" "Frame.__init__" s_aw f fd) (fc : FrC K C) : FnOk P w K mg base (CXr P w) 1 f fd ["self"] (spFInit K C) := by
 refine fun_okF F sc_aw (fun vs H Q E h => ?_) (fun cdv A outer s H vs Q E hr h => ?_)
 ·obtain ⟨a, dx, rfl, _⟩ := h
  rfl
 obtain ⟨a, dx, rfl, ha, q⟩ := h
 refine ⟨_, (pss_cons (ps_fld (pv 0) pe_dnewK rfl)
  (pss_cons (ps_fld (pv 0) pe_dnewK rfl)
  (pss_one (ps_fld (pv 0) pe_dnewK rfl)))), ?_⟩
 intro pP nP
 have aP : a ≠ pP := ne_of_none ha nP
 refine ⟨_, rfl, a, C, dx, _, rfl, (by rw [upd_ne aP]; exact ha), fc.cls, fc.pl, (by show 0 < 1000; decide), ?_⟩
 rw [putF_p1]
 generalize e1 : upd (upd H pP (.dK [])) a (.ins C dx [("pin_places", .ref pP)]) = H1
 have o1 : H1 a = some (.ins C dx [("pin_places", .ref pP)]) := by rw [← e1, upd_same]
 have p1 : H1 pP = some (.dK []) := by rw [← e1, upd_ne (Ne.symm aP), upd_same]
 have k1 : ∀ b o, b ≠ a → H b = some o → H1 b = some o := fun b o n e => by rw [← e1, upd_ne n, upd_ne (ne_of_none e nP)]; exact e
 intro pW nW
 have aW : a ≠ pW := ne_of_none o1 nW
 refine ⟨_, rfl, a, C, dx, _, rfl, (by rw [upd_ne aW]; exact o1), fc.cls, fc.wy, (by show 1 < 1000; decide), ?_⟩
 rw [putF_w1]
 generalize e2 : upd (upd H1 pW (.dK [])) a (.ins C dx [("pin_places", .ref pP), ("pin_ways", .ref pW)]) = H2
 have PW : pP ≠ pW := ne_of_none p1 nW
 have o2 : H2 a = some (.ins C dx [("pin_places", .ref pP), ("pin_ways", .ref pW)]) := by rw [← e2, upd_same]
 have w2 : H2 pW = some (.dK []) := by rw [← e2, upd_ne (Ne.symm aW), upd_same]
 have k2 : ∀ b o, b ≠ a → H1 b = some o → H2 b = some o := fun b o n e => by rw [← e2, upd_ne n, upd_ne (ne_of_none e nW)]; exact e
 intro pB nB
 have aB : a ≠ pB := ne_of_none o2 nB
 have p2 := k2 _ _ (Ne.symm aP) p1
 refine ⟨_, rfl, a, C, dx, _, rfl, (by rw [upd_ne aB]; exact o2), fc.cls, fc.br, (by show 2 < 1000; decide), ?_⟩
 rw [putF_e1]
 have PB : pP ≠ pB := ne_of_none p2 nB
 have WB : pW ≠ pB := ne_of_none w2 nB
 have k3 : ∀ b o, b ≠ a → H2 b = some o → (upd (upd H2 pB (.dK [])) a (.ins C dx [("pin_places", .ref pP), ("pin_ways", .ref pW), ("bar_ends", .ref pB)])) b = some o := fun b o n e => by rw [upd_ne n, upd_ne (ne_of_none e nB)]; exact e
 have f1 : ∀ b, b ≠ a → H1 b = none → H b = none := fun b n e => by
  cases z : H b with
  | none => rfl
  | some o => rw [k1 b o n z] at e; cases e
 have f2 : ∀ b, b ≠ a → H2 b = none → H b = none := fun b n e => by
  cases z : H b with
  | none => rfl
  | some o => rw [k2 b o n (k1 b o n z)] at e; cases e
 refine q pP pW pB _ (fun b o n e => k3 b o n (k2 b o n (k1 b o n e))) nP (f1 _ (Ne.symm aW) nW) (f2 _ (Ne.symm aB) nB) ⟨upd_same, k3 _ _ (Ne.symm aP) p2, k3 _ _ (Ne.symm aW) w2, ?_, PW, PB, WB, .nil, .nil⟩
 rw [upd_ne (Ne.symm aB), upd_same]
def spBars (K : Frag) (C : Addr) : Sp := fun vs H Q _ => ∃ (a dx pP pW pB : Addr) (ps : List (Str × Pt)) (bs : List (Str × Str × Str)) (kP kW kB : List (Key × V)), vs = [.ref a] ∧ FrR K H C a dx pP pW pB ps bs kP kW kB ∧
 ∀ (l : Addr) (H' : Hp), Same H H' → H l = none → H' l = some (.lst ((bs.map (·.1)).map V.str)) → Q (.ref l) H'
theorem sc_ay : FnScope ["self"] ["self"] (defScope s_ay) := sq
theorem ok_ay {f : Addr} {fd : FuncData} {C : Addr} (F : Fun K "bars" "Frame.bars" s_ay f fd) (fc : FrC K C) (m_list : mg "list" = none) : FnOk P w K mg base (CXr P w) 1 f fd ["self"] (spBars K C) := by
 refine fun_okF F sc_ay (fun vs H Q E h => ?_) (fun cdv A outer s H vs Q E hr h => ?_)
 ·obtain ⟨a, dx, pP, pW, pB, ps, bs, kP, kW, kB, rfl, _⟩ := h
  rfl
 obtain ⟨a, dx, pP, pW, pB, ps, bs, kP, kW, kB, rfl, R, q⟩ := h
 refine ⟨_, (pss_one (ps_ret (pe_callTy (call_listD rfl) rfl m_list b_list (pac (pe_fld (pv 0) rfl) pa_nil)))), ?_⟩
 refine ⟨_, rfl, a, C, dx, _, _, rfl, R.obj, fc.cls, fc.br, rfl, pB, kB, rfl, .inl R.br, fun l nl => ?_⟩
 refine q l _ (same_new nl _) nl ?_
 rw [upd_same]
 have e : kB.map (fun kv => kV kv.1) = (bs.map (·.1)).map V.str := by
  have z : kB.map (fun kv => kV kv.1) = (kB.map (·.1)).map kV := by rw [List.map_map]; rfl
  rw [z, R.keysB, List.map_map]
  rfl
 rw [e]
def spPins (K : Frag) (C : Addr) : Sp := fun vs H Q _ => ∃ (a dx pP pW pB : Addr) (ps : List (Str × Pt)) (bs : List (Str × Str × Str)) (kP kW kB : List (Key × V)), vs = [.ref a] ∧ FrR K H C a dx pP pW pB ps bs kP kW kB ∧
 ∀ (l : Addr) (H' : Hp), Same H H' → H l = none → H' l = some (.lst ((ps.map (·.1)).map V.str)) → Q (.ref l) H'
theorem sc_ax : FnScope ["self"] ["self"] (defScope s_ax) := sq
theorem ok_ax {f : Addr} {fd : FuncData} {C : Addr} (F : Fun K "pins" "Frame.pins" s_ax f fd) (fc : FrC K C) (m_list : mg "list" = none) : FnOk P w K mg base (CXr P w) 1 f fd ["self"] (spPins K C) := by
 refine fun_okF F sc_ax (fun vs H Q E h => ?_) (fun cdv A outer s H vs Q E hr h => ?_)
 ·obtain ⟨a, dx, pP, pW, pB, ps, bs, kP, kW, kB, rfl, _⟩ := h
  rfl
 obtain ⟨a, dx, pP, pW, pB, ps, bs, kP, kW, kB, rfl, R, q⟩ := h
 refine ⟨_, (pss_one (ps_ret (pe_callTy (call_listD rfl) rfl m_list b_list (pac (pe_fld (pv 0) rfl) pa_nil)))), ?_⟩
 refine ⟨_, rfl, a, C, dx, _, _, rfl, R.obj, fc.cls, fc.pl, rfl, pP, kP, rfl, .inl R.pl, fun l nl => ?_⟩
 refine q l _ (same_new nl _) nl ?_
 rw [upd_same]
 have e : kP.map (fun kv => kV kv.1) = (ps.map (·.1)).map V.str := by
  have z : kP.map (fun kv => kV kv.1) = (kP.map (·.1)).map kV := by rw [List.map_map]; rfl
  rw [z, R.keysP, List.map_map]
  rfl
 rw [e]
def spCheckPin (K : Frag) (C : Addr) : Sp := fun vs H Q _ => ∃ (a dx pP pW pB : Addr) (ps : List (Str × Pt)) (bs : List (Str × Str × Str)) (kP kW kB : List (Key × V)) (x : Str), vs = [.ref a, .str x] ∧ FrR K H C a dx pP pW pB ps bs kP kW kB ∧ x ∈ ps.map (·.1) ∧ Q .non H
theorem sc_a5 : FnScope ["self", "pin"] ["self", "pin"] (defScope s_a5) := sq
theorem ok_a5 {f : Addr} {fd : FuncData} {C : Addr} (F : Fun K "check_pin" "Frame.check_pin" s_a5 f fd) (fc : FrC K C) : FnOk P w K mg base (CXr P w) 1 f fd ["self", "pin"] (spCheckPin K C) := by
 refine fun_okF F sc_a5 (fun vs H Q E h => ?_) (fun cdv A outer s H vs Q E hr h => ?_)
 ·obtain ⟨a, dx, pP, pW, pB, ps, bs, kP, kW, kB, x, rfl, _⟩ := h
  rfl
 obtain ⟨a, dx, pP, pW, pB, ps, bs, kP, kW, kB, x, rfl, R, hx, q⟩ := h
 refine ⟨_, (pss_one (ps_if (pt_cmp (pc_dnotin (hu_of hr) (pv 1) (pe_fld (pv 0) rfl))) (pss_one (ps_never)) pss_nil)), ?_⟩
 refine ⟨_, rfl, _, rfl, a, C, dx, _, _, rfl, R.obj, fc.cls, fc.pl, rfl, pP, _, rfl, DGet.k (k := .inr x) R.pl, _, rfl, ?_⟩
 rw [R.pin x, decide_eq_true hx]
 exact q
def spCheckBar (K : Frag) (C : Addr) : Sp := fun vs H Q _ => ∃ (a dx pP pW pB : Addr) (ps : List (Str × Pt)) (bs : List (Str × Str × Str)) (kP kW kB : List (Key × V)) (x one other : Str), vs = [.ref a, .str x, .str one, .str other] ∧ FrR K H C a dx pP pW pB ps bs kP kW kB ∧
 x ∉ bs.map (·.1) ∧ one ∈ ps.map (·.1) ∧ other ∈ ps.map (·.1) ∧ one ≠ other ∧ bs.length < 60 ∧ Q .non H
theorem sc_a4 : FnScope ["self", "name", "one", "other"] ["self", "name", "one", "other"] (defScope s_a4) := sq
theorem ok_a4 {f : Addr} {fd : FuncData} {C : Addr} (F : Fun K "check_bar" "Frame.check_bar" s_a4 f fd) (fc : FrC K C) {tkB : Tok} (m_bb : mg "MOST_BARS" = some (.int 60 tkB)) (m_len : mg "len" = none)
  (MC : MtdOk P w K mg base (CXr P w) 1 C "check_pin" ["self", "pin"] (spCheckPin K C)) : FnOk P w K mg base (CXr P w) 2 f fd ["self", "name", "one", "other"] (spCheckBar K C) := by
 refine fun_okF F sc_a4 (fun vs H Q E h => ?_) (fun cdv A outer s H vs Q E hr h => ?_)
 ·obtain ⟨a, dx, pP, pW, pB, ps, bs, kP, kW, kB, x, one, other, rfl, _⟩ := h
  rfl
 obtain ⟨a, dx, pP, pW, pB, ps, bs, kP, kW, kB, x, one, other, rfl, R, hx, h1, h2, ne, hl, q⟩ := h
 refine ⟨_, (pss_cons (ps_if (pt_cmp (pc_din (hu_of hr) (pv 1) (pe_fld (pv 0) rfl))) (pss_one (ps_never)) pss_nil)
  (pss_cons (ps_expr (pe_mtd (k := 1) (pv 0) hr.mo (pY P w) (pac (pv 2) pa_nil)))
  (pss_cons (ps_expr (pe_mtd (k := 1) (pv 0) hr.mo (pY P w) (pac (pv 3) pa_nil)))
  (pss_cons (ps_if (pt_cmpR op_eq (pv 2) (pv 3) (nomark _)) (pss_one (ps_never)) pss_nil)
  (pss_one (ps_if (pt_cmpR op_ge (pe_callB call_lenD rfl m_len b_len (pac (pe_fld (pv 0) rfl) pa_nil)) (pe_glob (v := .int 60) rfl m_bb ⟨_, rfl⟩) (nomark _)) (pss_one (ps_never)) pss_nil)))))), ?_⟩
 refine ⟨_, rfl, _, rfl, a, C, dx, _, _, rfl, R.obj, fc.cls, fc.br, rfl, pB, _, rfl, DGet.k (k := .inr x) R.br, _, rfl, ?_⟩
 rw [R.bar x, decide_eq_false hx]
 refine ⟨_, rfl, a, C, dx, _, _, _, rfl, R.obj, rfl, MC, _, rfl, a, dx, pP, pW, pB, ps, bs, kP, kW, kB, one, rfl, R, h1, ?_⟩
 refine ⟨_, rfl, a, C, dx, _, _, _, rfl, R.obj, rfl, MC, _, rfl, a, dx, pP, pW, pB, ps, bs, kP, kW, kB, other, rfl, R, h2, ?_⟩
 refine ⟨_, rfl, _, rfl, rfl, _, rfl, ?_⟩
 refine ite2 (fun c => absurd (by simpa [eqV] using c) ne) (fun _ => ?_)
 have lk : kB.length = bs.length := (Paired.length R.rb).symm
 refine ⟨_, rfl, a, C, dx, _, _, rfl, R.obj, fc.cls, fc.br, rfl, pB, kB, rfl, .inl R.br, _, _, rfl, rfl, _, rfl, ?_⟩
 refine ite2 (fun c => ?_) (fun _ => q)
 have c' : (60 : Int) ≤ (kB.length : Int) := of_decide_eq_true c
 omega
def spPutBar (K : Frag) (C : Addr) : Sp := fun vs H Q _ => ∃ (a dx pP pW pB : Addr) (ps : List (Str × Pt)) (bs : List (Str × Str × Str)) (kP kW kB : List (Key × V)) (x one other : Str), vs = [.ref a, .str x, .str one, .str other] ∧ FrR K H C a dx pP pW pB ps bs kP kW kB ∧
 x ∉ bs.map (·.1) ∧ one ∈ ps.map (·.1) ∧ other ∈ ps.map (·.1) ∧ one ≠ other ∧ bs.length < 60 ∧ ∀ (H' : Hp) (kB' : List (Key × V)), KSame pB H H' → FrR K H' C a dx pP pW pB ps (bs ++ [(x, one, other)]) kP kW kB' → Q .non H'
theorem sc_ab : FnScope ["self", "name", "one", "other"] ["self", "name", "one", "other"] (defScope s_ab) := sq
theorem ok_ab {f : Addr} {fd : FuncData} {C : Addr} (F : Fun K "put_bar" "Frame.put_bar" s_ab f fd) (fc : FrC K C)
  (MC : MtdOk P w K mg base (CXr P w) 2 C "check_bar" ["self", "name", "one", "other"] (spCheckBar K C)) : FnOk P w K mg base (CXr P w) 3 f fd ["self", "name", "one", "other"] (spPutBar K C) := by
 refine fun_okF F sc_ab (fun vs H Q E h => ?_) (fun cdv A outer s H vs Q E hr h => ?_)
 ·obtain ⟨a, dx, pP, pW, pB, ps, bs, kP, kW, kB, x, one, other, rfl, _⟩ := h
  rfl
 obtain ⟨a, dx, pP, pW, pB, ps, bs, kP, kW, kB, x, one, other, rfl, R, hx, h1, h2, ne, hl, q⟩ := h
 refine ⟨_, (pss_cons (ps_expr (pe_mtd (k := 2) (pv 0) hr.mo (pY P w) (pac (pv 1) (pac (pv 2) (pac (pv 3) pa_nil)))))
  (pss_one (ps_dput (hu_of hr) (pe_fld (pv 0) rfl) (pv 1) (pe_tup (pac (pv 2) (pac (pv 3) pa_nil))) rfl))), ?_⟩
 refine ⟨_, rfl, a, C, dx, _, _, _, rfl, R.obj, rfl, MC, _, rfl, _, rfl, _, rfl, a, dx, pP, pW, pB, ps, bs, kP, kW, kB, x, one, other, rfl, R, hx, h1, h2, ne, hl, ?_⟩
 refine ⟨_, rfl, _, rfl, (by show 2 ≤ sizeLine; decide), fun t nt => ?_⟩
 have s := same_new nt (.tup [.str one, .str other])
 have R' := R.same s
 have lk : kB.length = bs.length := (Paired.length R.rb).symm
 refine ⟨_, rfl, a, C, dx, _, _, rfl, R'.obj, fc.cls, fc.br, rfl, _, rfl, pB, _, rfl, DPut.k (k := .inr x) R'.br (Nat.lt_of_le_of_lt (show kB.length ≤ 1000 by omega) (by decide)), ?_⟩
 have e : putK kB (.inr x) (.ref t) = kB ++ [(.inr x, .ref t)] := putK_new _ (valV_none (by rw [R.keysB]; exact fun z => hx (key_mem.mp z)))
 rw [e]
 refine q _ _ (fun b o n z => ?_) (R'.putBar (.inl upd_same))
 rw [upd_ne n]
 exact s _ _ z
def spPlace (K : Frag) (C : Addr) : Sp := fun vs H Q _ => ∃ (a dx pP pW pB : Addr) (ps : List (Str × Pt)) (bs : List (Str × Str × Str)) (kP kW kB : List (Key × V)) (x : Str) (p : Pt), vs = [.ref a, .str x] ∧ FrR K H C a dx pP pW pB ps bs kP kW kB ∧ (ps.map (·.1)).Nodup ∧ (x, p) ∈ ps ∧ ∀ v, Spot K H v p → Q v H
theorem sc_ai : FnScope ["self", "pin"] ["self", "pin"] (defScope s_ai) := sq
theorem ok_ai {f : Addr} {fd : FuncData} {C : Addr} (F : Fun K "place" "Frame.place" s_ai f fd) (fc : FrC K C) (MC : MtdOk P w K mg base (CXr P w) 1 C "check_pin" ["self", "pin"] (spCheckPin K C)) : FnOk P w K mg base (CXr P w) 2 f fd ["self", "pin"] (spPlace K C) := by
 refine fun_okF F sc_ai (fun vs H Q E h => ?_) (fun cdv A outer s H vs Q E hr h => ?_)
 ·obtain ⟨a, dx, pP, pW, pB, ps, bs, kP, kW, kB, x, p, rfl, _⟩ := h
  rfl
 obtain ⟨a, dx, pP, pW, pB, ps, bs, kP, kW, kB, x, p, rfl, R, nd, hx, q⟩ := h
 refine ⟨_, (pss_cons (ps_expr (pe_mtd (k := 1) (pv 0) hr.mo (pY P w) (pac (pv 1) pa_nil)))
  (pss_one (ps_ret (pe_dget (hu_of hr) (pe_fld (pv 0) rfl) (pv 1) (fun _ _ => rfl))))), ?_⟩
 refine ⟨_, rfl, a, C, dx, _, _, _, rfl, R.obj, rfl, MC, _, rfl, a, dx, pP, pW, pB, ps, bs, kP, kW, kB, x, rfl, R, List.mem_map.mpr ⟨_, hx, rfl⟩, ?_⟩
 obtain ⟨v, ev, hv⟩ := R.place nd hx
 exact ⟨_, rfl, a, C, dx, _, _, rfl, R.obj, fc.cls, fc.pl, rfl, _, rfl, pP, v, rfl, (by rw [← ev]; exact DGet.k (k := .inr x) R.pl), q v hv⟩
def spEnds (K : Frag) (C : Addr) : Sp := fun vs H Q _ => ∃ (a dx pP pW pB : Addr) (ps : List (Str × Pt)) (bs : List (Str × Str × Str)) (kP kW kB : List (Key × V)) (x one other : Str), vs = [.ref a, .str x] ∧ FrR K H C a dx pP pW pB ps bs kP kW kB ∧ (bs.map (·.1)).Nodup ∧ (x, one, other) ∈ bs ∧ ∀ p, Rd H p (.tup [.str one, .str other]) → Q (.ref p) H
theorem sc_b0 : FnScope ["self", "bar"] ["self", "bar"] (defScope s_b0) := sq
theorem ok_b0 {f : Addr} {fd : FuncData} {C : Addr} (F : Fun K "ends" "Frame.ends" s_b0 f fd) (fc : FrC K C) : FnOk P w K mg base (CXr P w) 1 f fd ["self", "bar"] (spEnds K C) := by
 refine fun_okF F sc_b0 (fun vs H Q E h => ?_) (fun cdv A outer s H vs Q E hr h => ?_)
 ·obtain ⟨a, dx, pP, pW, pB, ps, bs, kP, kW, kB, x, one, other, rfl, _⟩ := h
  rfl
 obtain ⟨a, dx, pP, pW, pB, ps, bs, kP, kW, kB, x, one, other, rfl, R, nd, hx, q⟩ := h
 refine ⟨_, (pss_cons (ps_if (pt_cmp (pc_dnotin (hu_of hr) (pv 1) (pe_fld (pv 0) rfl))) (pss_one (ps_never)) pss_nil)
  (pss_one (ps_ret (pe_dget (hu_of hr) (pe_fld (pv 0) rfl) (pv 1) (fun _ _ => rfl))))), ?_⟩
 have hm : x ∈ bs.map (·.1) := List.mem_map.mpr ⟨_, hx, rfl⟩
 refine ⟨_, rfl, _, rfl, a, C, dx, _, _, rfl, R.obj, fc.cls, fc.br, rfl, pB, _, rfl, DGet.k (k := .inr x) R.br, _, rfl, ?_⟩
 rw [R.bar x, decide_eq_true hm]
 obtain ⟨p, ev, hv⟩ := R.ends nd hx
 exact ⟨_, rfl, a, C, dx, _, _, rfl, R.obj, fc.cls, fc.br, rfl, _, rfl, pB, .ref p, rfl, (by rw [← ev]; exact DGet.k (k := .inr x) R.br), q p hv⟩
def spWays (K : Frag) (C : Addr) : Sp := fun vs H Q _ => ∃ (a dx pP pW pB : Addr) (ps : List (Str × Pt)) (bs : List (Str × Str × Str)) (kP kW kB : List (Key × V)) (pw : List (Str × List (Rat × Rat))) (x : Str) (ws : List (Rat × Rat)), vs = [.ref a, .str x] ∧ FrR K H C a dx pP pW pB ps bs kP kW kB ∧ WyR K H pw kW ∧ (pw.map (·.1)).Nodup ∧ (x, ws) ∈ pw ∧ x ∈ ps.map (·.1) ∧
 ∀ (l : Addr) (us : List V) (H' : Hp), Same H H' → H l = none → H' l = some (.lst us) → PtsR K H' us ws → Q (.ref l) H'
theorem sc_az : FnScope ["self", "pin"] ["self", "pin"] (defScope s_az) := sq
theorem ok_az {f : Addr} {fd : FuncData} {C : Addr} (F : Fun K "ways" "Frame.ways" s_az f fd) (fc : FrC K C) (m_list : mg "list" = none) (MC : MtdOk P w K mg base (CXr P w) 1 C "check_pin" ["self", "pin"] (spCheckPin K C)) : FnOk P w K mg base (CXr P w) 2 f fd ["self", "pin"] (spWays K C) := by
 refine fun_okF F sc_az (fun vs H Q E h => ?_) (fun cdv A outer s H vs Q E hr h => ?_)
 ·obtain ⟨a, dx, pP, pW, pB, ps, bs, kP, kW, kB, pw, x, ws, rfl, _⟩ := h
  rfl
 obtain ⟨a, dx, pP, pW, pB, ps, bs, kP, kW, kB, pw, x, ws, rfl, R, W, nd, hx, hp, q⟩ := h
 refine ⟨_, (pss_cons (ps_expr (pe_mtd (k := 1) (pv 0) hr.mo (pY P w) (pac (pv 1) pa_nil)))
  (pss_one (ps_ret (pe_callTy call_listL rfl m_list b_list (pac (pe_dget (hu_of hr) (pe_fld (pv 0) rfl) (pv 1) (fun _ _ => rfl)) pa_nil))))), ?_⟩
 refine ⟨_, rfl, a, C, dx, _, _, _, rfl, R.obj, rfl, MC, _, rfl, a, dx, pP, pW, pB, ps, bs, kP, kW, kB, x, rfl, R, hp, ?_⟩
 obtain ⟨v, ev, l, us, el, hl, pt⟩ := paired_val W nd hx
 have el' : v = .ref l := el
 subst el'
 refine ⟨_, rfl, a, C, dx, _, _, rfl, R.obj, fc.cls, fc.wy, rfl, _, rfl, pW, .ref l, rfl, (by rw [← ev]; exact DGet.k (k := .inr x) R.wy), ?_⟩
 exact ⟨l, us, rfl, SqL.of hl, fun l2 n2 => q l2 us _ (same_new n2 _) n2 upd_same (pt.same (same_new n2 _))⟩
def AnsR (K : Frag) (H : Hp) (Q : VK) (ws : List (Rat × Rat)) : Prop := ∀ (l : Addr) (us : List V) (H' : Hp), Same H H' → H l = none → H' l = some (.lst us) → PtsR K H' us ws → Q (.ref l) H'
def spHold (K : Frag) : Sp := fun vs H Q _ => ∃ a : Addr, vs = [.ref a] ∧ AnsR K H Q []
theorem sc_b9 : FnScope ["self"] ["self"] (defScope s_b9) := sq
theorem ok_b9 {f : Addr} {fd : FuncData} (F : Fun K "ways" "Hold.ways" s_b9 f fd) : FnOk P w K mg base (CXr P w) 1 f fd ["self"] (spHold K) := by
 refine fun_okF F sc_b9 (fun vs H Q E h => ?_) (fun cdv A outer s H vs Q E hr h => ?_)
 ·obtain ⟨a, rfl, _⟩ := h
  rfl
 obtain ⟨a, rfl, q⟩ := h
 refine ⟨_, (pss_one (ps_ret (pe_lst pa_nil))), ?_⟩
 exact ⟨(by show 0 ≤ sizeLine; decide), fun l hl => q l [] _ (same_new hl _) hl upd_same .nil⟩
theorem qr_zero {x : Rat} (h : (qr x).1 = 0) : x = 0 := by
 have := vl_qr x
 unfold vl at this
 rw [h] at this
 have z := ratz (r := x)
 have e : ((0 : Int) : Rat) = 0 := by rfl
 rw [e] at this
 grind
def spRInit (K : Frag) (C : Addr) : Sp := fun vs H Q _ => ∃ (a dx : Addr) (ux uy : V) (x y : Rat), vs = [.ref a, ux, uy] ∧ H a = some (.ins C dx []) ∧ NmR K H ux x ∧ NmR K H uy y ∧ ¬ (x = 0 ∧ y = 0) ∧ ∀ p, H p = none → Q .non (upd (upd H p (.tup [ux, uy])) a (.ins C dx [("way", .ref p)]))
theorem sc_aj : FnScope ["self", "x", "y"] ["self", "x", "y"] (defScope s_aj) := sq
theorem ok_aj {f : Addr} {fd : FuncData} {C : Addr} (F : Fun K "__init__" "Roller.__init__" s_aj f fd) (cl : Cls K C) (nw : NoAttr K C "way") : FnOk P w K mg base (CXr P w) 1 f fd ["self", "x", "y"] (spRInit K C) := by
 refine fun_okF F sc_aj (fun vs H Q E h => ?_) (fun cdv A outer s H vs Q E hr h => ?_)
 ·obtain ⟨a, dx, ux, uy, x, y, rfl, _⟩ := h
  rfl
 obtain ⟨a, dx, ux, uy, x, y, rfl, ha, ⟨p1, rfl, h1⟩, ⟨p2, rfl, h2⟩, nz, q⟩ := h
 have sz : (2 : Nat) ≤ sizeLine := by decide
 refine ⟨_, (pss_cons (ps_if (PW.pt (pw_and (pt_cmpR op_eq (pe_tx (pv 1)) pe_int (nomark _)) (pw_and1 (pt_cmpR op_eq (pe_tx (pv 2)) pe_int (nomark _))))) (pss_one (ps_never)) pss_nil)
  (pss_one (ps_fld (pv 0) (pe_tup (pac (pv 1) (pac (pv 2) pa_nil))) rfl))), ?_⟩
 refine ⟨_, rfl, p1, _, _, _, rfl, rfl, h1, at0, rfl, _, rfl, ?_⟩
 refine ite2 (fun c1 => ?_) (fun c1 => ?_)
 ·have e1 : (qr x).1 = 0 := by simpa using of_decide_eq_true c1
  refine ⟨_, rfl, p2, _, _, _, rfl, rfl, h2, at0, rfl, _, rfl, ?_⟩
  refine ite2 (fun c2 => ?_) (fun c2 => ?_)
  ·have e2 : (qr y).1 = 0 := by simpa using of_decide_eq_true c2
   exact absurd ⟨qr_zero e1, qr_zero e2⟩ nz
  ·exact ⟨_, rfl, _, rfl, sz, fun p hp => ⟨_, rfl, a, C, dx, [], rfl, (by rw [upd_ne (ne_of_none ha hp)]; exact ha), cl, nw, (by show 0 < 1000; decide), q p hp⟩⟩
 ·refine iteF ?_
  exact ⟨_, rfl, _, rfl, sz, fun p hp => ⟨_, rfl, a, C, dx, [], rfl, (by rw [upd_ne (ne_of_none ha hp)]; exact ha), cl, nw, (by show 0 < 1000; decide), q p hp⟩⟩
def spRWays (K : Frag) (C : Addr) : Sp := fun vs H Q _ => ∃ (a dx p : Addr) (w : Rat × Rat), vs = [.ref a] ∧ H a = some (.ins C dx [("way", .ref p)]) ∧ PtR K H (.ref p) w ∧ AnsR K H Q [w]
theorem sc_ak : FnScope ["self"] ["self"] (defScope s_ak) := sq
theorem ok_ak {f : Addr} {fd : FuncData} {C : Addr} (F : Fun K "ways" "Roller.ways" s_ak f fd) (cl : Cls K C) (nw : NoAttr K C "way") : FnOk P w K mg base (CXr P w) 1 f fd ["self"] (spRWays K C) := by
 refine fun_okF F sc_ak (fun vs H Q E h => ?_) (fun cdv A outer s H vs Q E hr h => ?_)
 ·obtain ⟨a, dx, p, w, rfl, _⟩ := h
  rfl
 obtain ⟨a, dx, p, w, rfl, ha, hw, q⟩ := h
 refine ⟨_, (pss_one (ps_ret (pe_lst (pac (pe_fld (pv 0) rfl) pa_nil)))), ?_⟩
 refine ⟨_, rfl, a, C, dx, _, .ref p, rfl, ha, cl, nw, (by simp), (by show 1 ≤ sizeLine; decide), fun l hl => ?_⟩
 exact q l [.ref p] _ (same_new hl _) hl upd_same (.cons (hw.same (same_new hl _)) .nil)
def spFixed (K : Frag) : Sp := fun vs H Q _ => ∃ a : Addr, vs = [.ref a] ∧ AnsR K H Q [(1, 0), (0, 1)]
theorem qr_one : qr 1 = (1, 1) := by
 have := qr_int 1
 simpa using this
theorem qr_nought : qr 0 = (0, 1) := by
 have := qr_int 0
 simpa using this
theorem pt_mk {H : Hp} {p p1 p2 : Addr} {a b : Rat} {x y : Int × Int} (ea : qr a = x) (eb : qr b = y) (h : H p = some (.tup [.ref p1, .ref p2])) (h1 : H p1 = some (.tup [.int x.1, .int x.2])) (h2 : H p2 = some (.tup [.int y.1, .int y.2])) : PtR K H (.ref p) (a, b) :=
 ⟨p, .ref p1, .ref p2, rfl, SqT.of h, ⟨p1, rfl, by rw [ea]; exact SqT.of h1⟩, ⟨p2, rfl, by rw [eb]; exact SqT.of h2⟩⟩
theorem sc_b1 : FnScope ["self"] ["self"] (defScope s_b1) := sq
theorem ok_b1 {f : Addr} {fd : FuncData} (F : Fun K "ways" "Fixed.ways" s_b1 f fd) : FnOk P w K mg base (CXr P w) 1 f fd ["self"] (spFixed K) := by
 refine fun_okF F sc_b1 (fun vs H Q E h => ?_) (fun cdv A outer s H vs Q E hr h => ?_)
 ·obtain ⟨a, rfl, _⟩ := h
  rfl
 obtain ⟨a, rfl, q⟩ := h
 have sz : (2 : Nat) ≤ sizeLine := by decide
 refine ⟨_, (pss_one (ps_ret (pe_lst (pac (pe_tup (pac (pe_tup (pac pe_int (pac pe_int pa_nil))) (pac (pe_tup (pac pe_int (pac pe_int pa_nil))) pa_nil))) (pac (pe_tup (pac (pe_tup (pac pe_int (pac pe_int pa_nil))) (pac (pe_tup (pac pe_int (pac pe_int pa_nil))) pa_nil))) pa_nil))))), ?_⟩
 refine ⟨sz, fun p1 n1 => ?_⟩
 have s1 := same_new n1 (.tup [.int 1, .int 1])
 have e1 : upd H p1 (.tup [.int 1, .int 1]) p1 = some (.tup [.int 1, .int 1]) := upd_same
 generalize upd H p1 (.tup [.int 1, .int 1]) = H1 at s1 e1 ⊢
 refine ⟨sz, fun p2 n2 => ?_⟩
 have s2 := same_new n2 (.tup [.int 0, .int 1])
 have e2 : upd H1 p2 (.tup [.int 0, .int 1]) p2 = some (.tup [.int 0, .int 1]) := upd_same
 generalize upd H1 p2 (.tup [.int 0, .int 1]) = H2 at s2 e2 ⊢
 refine ⟨sz, fun p3 n3 => ?_⟩
 have s3 := same_new n3 (.tup [.ref p1, .ref p2])
 have e3 : upd H2 p3 (.tup [.ref p1, .ref p2]) p3 = some (.tup [.ref p1, .ref p2]) := upd_same
 generalize upd H2 p3 (.tup [.ref p1, .ref p2]) = H3 at s3 e3 ⊢
 refine ⟨sz, fun p4 n4 => ?_⟩
 have s4 := same_new n4 (.tup [.int 0, .int 1])
 have e4 : upd H3 p4 (.tup [.int 0, .int 1]) p4 = some (.tup [.int 0, .int 1]) := upd_same
 generalize upd H3 p4 (.tup [.int 0, .int 1]) = H4 at s4 e4 ⊢
 refine ⟨sz, fun p5 n5 => ?_⟩
 have s5 := same_new n5 (.tup [.int 1, .int 1])
 have e5 : upd H4 p5 (.tup [.int 1, .int 1]) p5 = some (.tup [.int 1, .int 1]) := upd_same
 generalize upd H4 p5 (.tup [.int 1, .int 1]) = H5 at s5 e5 ⊢
 refine ⟨sz, fun p6 n6 => ?_⟩
 have s6 := same_new n6 (.tup [.ref p4, .ref p5])
 have e6 : upd H5 p6 (.tup [.ref p4, .ref p5]) p6 = some (.tup [.ref p4, .ref p5]) := upd_same
 generalize upd H5 p6 (.tup [.ref p4, .ref p5]) = H6 at s6 e6 ⊢
 refine ⟨sz, fun l nl => ?_⟩
 have s7 := same_new nl (.lst [.ref p3, .ref p6])
 have e7 : upd H6 l (.lst [.ref p3, .ref p6]) l = some (.lst [.ref p3, .ref p6]) := upd_same
 generalize upd H6 l (.lst [.ref p3, .ref p6]) = H7 at s7 e7 ⊢
 have s16 := s1.trans (s2.trans (s3.trans (s4.trans (s5.trans s6))))
 have w1 : PtR K H7 (.ref p3) (1, 0) := pt_mk qr_one qr_nought (s7 _ _ (s6 _ _ (s5 _ _ (s4 _ _ e3)))) (s7 _ _ (s6 _ _ (s5 _ _ (s4 _ _ (s3 _ _ (s2 _ _ e1)))))) (s7 _ _ (s6 _ _ (s5 _ _ (s4 _ _ (s3 _ _ e2)))))
 have w2 : PtR K H7 (.ref p6) (0, 1) := pt_mk qr_nought qr_one (s7 _ _ e6) (s7 _ _ (s6 _ _ (s5 _ _ e4))) (s7 _ _ (s6 _ _ e5))
 exact q l [.ref p3, .ref p6] H7 (s16.trans s7) (s16.free nl) e7 (.cons w1 (.cons w2 .nil))
def HoldY (P : Program) (w : World) (K : Frag) (mg : Str → Option Value) (base : Heap) (H : Hp) (hv : V) (ws : List (Rat × Rat)) : Prop := (hv = .non ∧ ws = []) ∨ ∃ (h Ch dxh : Addr) (fsh : List (Str × V)) (psh : List Str) (sph : Sp), hv = .ref h ∧ H h = some (.ins Ch dxh fsh) ∧ fsh.lookup ("ways" : Str) = none ∧ MtdOk P w K mg base (CXr P w) 2 Ch "ways" psh sph ∧ (∀ H1, H1 h = some (.ins Ch dxh fsh) → SameT H H1 → ∀ Q', AnsR K H1 Q' ws → sph [.ref h] H1 Q' E0)
def spPutPinW (P : Program) (w : World) (K : Frag) (mg : Str → Option Value) (base : Heap) (C : Addr) : Sp := fun vs H Q _ => ∃ (a dx pP pW pB : Addr) (ps : List (Str × Pt)) (bs : List (Str × Str × Str)) (kP kW kB : List (Key × V)) (pw : List (Str × List (Rat × Rat))) (x : Str) (u v hv : V) (p : Pt) (ws : List (Rat × Rat)), vs = [.ref a, .str x, u, v, hv] ∧ FrR K H C a dx pP pW pB ps bs kP kW kB ∧ WyR K H pw kW ∧ pw.map (·.1) = ps.map (·.1) ∧
 NmK K H u p.1 ∧ NmK K H v p.2 ∧ x ∉ ps.map (·.1) ∧ (∀ z ∈ ps, z.2 ≠ p) ∧ ps.length < 24 ∧
 HoldY P w K mg base H hv ws ∧
 ∀ (H' : Hp) (kP' kW' : List (Key × V)), (∀ b o, b ≠ pP → b ≠ pW → H b = some o → H' b = some o) → FrR K H' C a dx pP pW pB (ps ++ [(x, p)]) bs kP' kW' kB → WyR K H' (pw ++ [(x, ws)]) kW' → Q .non H'
theorem sc_aa : FnScope ["self", "name", "x", "y", "hold", "pin", "spot"] ["self", "name", "x", "y", "hold"] (defScope s_aa) := sq
theorem ok_aa {f : Addr} {fd : FuncData} {C : Addr} (F : FunD K "put_pin" "Frame.put_pin" s_aa f fd) (fc : FrC K C) {tkP : Tok} (m_ba : mg "MOST_PINS" = some (.int 24 tkP)) (m_len : mg "len" = none) (m_list : mg "list" = none) : FnOk P w K mg base (CXr P w) 3 f fd ["self", "name", "x", "y", "hold"] (spPutPinW P w K mg base C) := by
 refine fun_okFD F sc_aa (fun vs H Q E h => ?_) (fun cdv A outer s H vs Q E hr h => ?_)
 ·obtain ⟨a, dx, pP, pW, pB, ps, bs, kP, kW, kB, pw, x, u, v, hv, p, ws, rfl, _⟩ := h
  rfl
 obtain ⟨a, dx, pP, pW, pB, ps, bs, kP, kW, kB, pw, x, u, v, hvv, p, ws, rfl, R, W, ew, hu, hv, hx, hs, hl, hH, q⟩ := h
 refine ⟨_, (pss_cons (ps_if (pt_cmp (pc_din (hu_of hr) (pv 1) (pe_fld (pv 0) rfl))) (pss_one (ps_never)) pss_nil)
  (pss_cons (ps_thaw (ps_for PassesOwn.never rfl (pi_items (pe_fld (pv 0) rfl)) (pg_tup rfl (pgs_cons (pg_name (i := 5) sc_aa.nd rfl (Or.inl rfl)) (pgs_cons (pg_name (i := 6) sc_aa.nd rfl (Or.inl rfl)) pgs_nil))) (pss_one (ps_if (pt_cmpR (op_eqDa hr.units) (pv 6) (pe_tup (pac (pv 2) (pac (pv 3) pa_nil))) (nomark _)) (pss_one (ps_never)) pss_nil))))
  (pss_cons (ps_if (pt_cmpR op_ge (pe_callB call_lenD rfl m_len b_len (pac (pe_fld (pv 0) rfl) pa_nil)) (pe_glob (v := .int 24) rfl m_ba ⟨_, rfl⟩) (nomark _)) (pss_one (ps_never)) pss_nil)
  (pss_cons (ps_dput (hu_of hr) (pe_fld (pv 0) rfl) (pv 1) (pe_tup (pac (pv 2) (pac (pv 3) pa_nil))) rfl)
  (pss_one (ps_dput (hu_of hr) (pe_fld (pv 0) rfl) (pv 1) (pe_ifExp (pt_cmpR op_isN (pv 4) pe_non (nomark _)) (pe_lst pa_nil) (pe_callTy call_listL rfl m_list b_list (pac (pe_mtd0 (k := 2) (pv 4) hr.mo (pY P w)) pa_nil))) rfl)))))), ?_⟩
 refine ⟨_, rfl, _, rfl, a, C, dx, _, _, rfl, R.obj, fc.cls, fc.pl, rfl, pP, _, rfl, DGet.k (k := .inr x) R.pl, _, rfl, ?_⟩
 rw [R.pin x, decide_eq_false hx]
 have lk : kP.length = ps.length := (Paired.length R.rp).symm
 refine ⟨_, rfl, a, C, dx, _, _, rfl, R.obj, fc.cls, fc.pl, rfl, pP, kP, rfl, R.pl, fun o => ?_⟩
 have k0 : KSame pP H (upd H pP (.frz o (.dK kP))) := fun b o' n e => by rw [upd_ne n]; exact e
 refine for_items (d := pP) (o := o) (kvs := kP) (fun t σ H' => ∃ (o2 o3 : Option V), σ = [some (.ref a), some (.str x), some u, some v, some hvv, o2, o3] ∧ KSame pP H H' ∧ H' pP = some (.frz o (.dK kP))) ⟨none, none, rfl, k0, upd_same⟩ (fun t σ H' _ h => by
   obtain ⟨_, _, _, _, h⟩ := h
   exact h) ?_ ?_
 ·rintro t k y σ H6 p7 ekv ⟨o2, o3, rfl, k6, hd6⟩ n7
  obtain ⟨z, ez, hz1, hz2⟩ := paired_get (paired_flip R.rp) ekv
  have hz1' : k = .inr z.1 := hz1
  subst hz1'
  have s6 : SameT H H6 := fun b xs r => by
   rcases r with r | ⟨o', r⟩
   ·exact .inl (k6 _ _ (fun e => by rw [e, R.pl] at r; cases r) r)
   ·exact .inr ⟨o', k6 _ _ (fun e => by rw [e, R.pl] at r; cases r) r⟩
  have s7 := same_new n7 (.tup [kV (.inr z.1), y])
  have s67 : SameT H (upd H6 p7 (.tup [kV (.inr z.1), y])) := s6.trans (.of s7)
  refine ⟨p7, _, rfl, SqT.of upd_same, rfl, _, _, rfl, _, _, rfl, rfl, ?_⟩
  refine ⟨_, rfl, _, rfl, _, rfl, (by show 2 ≤ sizeLine; decide), fun t8 n8 => ?_⟩
  have s8 := same_new n8 (.tup [u, v])
  have s78 : SameT H (upd (upd H6 p7 (.tup [kV (.inr z.1), y])) t8 (.tup [u, v])) := s67.trans (.of s8)
  refine ⟨spotD z.2, spotD p, .inl ⟨(Spot.sameT hz2 s78).is, (Spot.is (p := p) ⟨t8, u, v, rfl, SqT.of upd_same, hu.sameT s78, hv.sameT s78⟩)⟩, alike_spots _ _, dep_spots _, ?_⟩
  rw [eq_spots]
  refine ⟨_, rfl, ?_⟩
  refine ite2 (fun c => absurd (of_decide_eq_true c) (hs z (List.mem_of_getElem? ez))) (fun _ => ?_)
  exact ⟨_, _, rfl, fun b o' n e => s8 _ _ (s7 _ _ (k6 b o' n e)), s8 _ _ (s7 _ _ hd6)⟩
 ·rintro σ H1 ⟨o2, o3, rfl, k1, hd1⟩
  refine ⟨pP, o, kP, hd1, fun o' u' z => (by have z' : H pP = some (.frz o' u') := z; rw [R.pl] at z'; cases z'), ?_⟩
  have s2 : Same H (upd H1 pP (.dK kP)) := fun b o' e => by
   by_cases n : b = pP
   ·subst n
    rw [R.pl] at e
    rw [upd_same]
    exact e
   ·rw [upd_ne n]
    exact k1 b o' n e
  generalize upd H1 pP (.dK kP) = H2 at s2 ⊢
  have R2 := R.same s2
  refine ⟨_, rfl, a, C, dx, _, _, rfl, R2.obj, fc.cls, fc.pl, rfl, pP, kP, rfl, .inl R2.pl, _, _, rfl, rfl, _, rfl, ?_⟩
  refine ite2 (fun c => ?_) (fun _ => ?_)
  ·have c' : (24 : Int) ≤ (kP.length : Int) := of_decide_eq_true c
   omega
  refine ⟨_, rfl, _, rfl, (by show 2 ≤ sizeLine; decide), fun t nt => ?_⟩
  have s3 := same_new nt (.tup [u, v])
  have R3 := R2.same s3
  have hu3 := (hu.same s2).same s3
  have hv3 := (hv.same s2).same s3
  refine ⟨_, rfl, a, C, dx, _, _, rfl, R3.obj, fc.cls, fc.pl, rfl, _, rfl, pP, _, rfl, DPut.k (k := .inr x) R3.pl (Nat.lt_of_le_of_lt (show kP.length ≤ 1000 by omega) (by decide)), ?_⟩
  have e : putK kP (.inr x) (.ref t) = kP ++ [(.inr x, .ref t)] := putK_new _ (valV_none (by rw [R.keysP]; exact fun z => hx (key_mem.mp z)))
  rw [e]
  have R4 := R3.putPin (x := x) (p := p) (t := t) ⟨t, u, v, rfl, SqT.of upd_same, hu3, hv3⟩
  have k4 : ∀ b o, b ≠ pP → H b = some o → (upd (upd H2 t (.tup [u, v])) pP (.dK (kP ++ [(.inr x, .ref t)]))) b = some o := fun b o n e => by rw [upd_ne n]; exact s3 _ _ (s2 _ _ e)
  generalize upd (upd H2 t (.tup [u, v])) pP (.dK (kP ++ [(.inr x, .ref t)])) = H4 at R4 k4 ⊢
  have lw : kW.length = ps.length := by
   have e1 : kW.length = pw.length := (Paired.length W).symm
   have e2 := congrArg List.length ew
   rw [List.length_map, List.length_map] at e2
   omega
  have t4 : SameT H H4 := fun b xs r => by
   rcases r with r | ⟨o', r⟩
   ·exact .inl (k4 _ _ (fun e => by rw [e, R.pl] at r; cases r) r)
   ·exact .inr ⟨o', k4 _ _ (fun e => by rw [e, R.pl] at r; cases r) r⟩
  have W4 : WyR K H4 pw kW := Paired.mapP W fun _ _ z => ⟨z.1, by
   obtain ⟨l, us, e1, e2, e3⟩ := z.2
   exact ⟨l, us, e1, k4 _ _ (fun e => by rw [e, R.pl] at e2; cases e2) e2, e3.sameT t4⟩⟩
  refine ⟨_, rfl, rfl, _, rfl, ?_⟩
  rcases hH with ⟨rfl, rfl⟩ | ⟨h, Ch, dxh, fsh, psh, sph, rfl, hh, hlk, MH, hsp⟩
  ·refine ite2 (fun _ => ?_) (fun c => absurd (by decide) c)
   refine ⟨by show 0 ≤ sizeLine; decide, fun l2 n6 => ?_⟩
   have s6 := same_new n6 (.lst [])
   have R6 := R4.same s6
   have W6 := W4.same s6
   refine ⟨_, rfl, a, C, dx, _, _, rfl, R6.obj, fc.cls, fc.wy, rfl, _, rfl, pW, _, rfl, DPut.k (k := .inr x) R6.wy (Nat.lt_of_le_of_lt (show kW.length ≤ 1000 by omega) (by decide)), ?_⟩
   have ek : putK kW (.inr x) (.ref l2) = kW ++ [(.inr x, .ref l2)] := putK_new _ (valV_none (by rw [W.keys, ew]; exact fun z => hx (key_mem.mp z)))
   rw [ek]
   have ne6 : l2 ≠ pW := fun z => by have h := R6.wy; rw [← z, upd_same] at h; cases h
   exact q _ _ _ (fun b o n1 n2 e => by rw [upd_ne n2]; exact s6 _ _ (k4 b o n1 e)) (R6.putWays _) (Paired.snoc (W6.dict R6.wy) ⟨rfl, l2, [], rfl, by rw [upd_ne ne6, upd_same], .nil⟩)
  have h4 : H4 h = some (.ins Ch dxh fsh) := k4 _ _ (fun e => by rw [e, R.pl] at hh; cases hh) hh
  refine ite2 (fun c => absurd (of_decide_eq_true c) (fun z => nomatch z)) (fun _ => ?_)
  refine ⟨_, rfl, h, Ch, dxh, fsh, psh, sph, rfl, h4, hlk, MH, hsp H4 h4 t4 _ fun l1 us H5 s5 n5 e5 p5 => ?_⟩
  refine ⟨l1, us, rfl, SqL.of e5, fun l2 n6 => ?_⟩
  have s6 := same_new n6 (.lst us)
  have R6 := (R4.same s5).same s6
  have W6 := (W4.same s5).same s6
  refine ⟨_, rfl, a, C, dx, _, _, rfl, R6.obj, fc.cls, fc.wy, rfl, _, rfl, pW, _, rfl, DPut.k (k := .inr x) R6.wy (Nat.lt_of_le_of_lt (show kW.length ≤ 1000 by omega) (by decide)), ?_⟩
  have ek : putK kW (.inr x) (.ref l2) = kW ++ [(.inr x, .ref l2)] := putK_new _ (valV_none (by rw [W.keys, ew]; exact fun z => hx (key_mem.mp z)))
  rw [ek]
  have s46 : Same H4 (upd H5 l2 (.lst us)) := fun b o z => s6 _ _ (s5 _ _ z)
  refine q _ _ _ (fun b o n1 n2 e => by rw [upd_ne n2]; exact s46 _ _ (k4 b o n1 e)) (R6.putWays _) ?_
  have ne6 : l2 ≠ pW := fun z => by have h := R6.wy; rw [← z, upd_same] at h; cases h
  exact Paired.snoc (W6.dict R6.wy) ⟨rfl, l2, us, rfl, by rw [upd_ne ne6, upd_same], (p5.same s6).sameT (.dict R6.wy)⟩
def spTakeBar (K : Frag) (C : Addr) : Sp := fun vs H Q _ => ∃ (a dx pP pW pB : Addr) (ps : List (Str × Pt)) (bs : List (Str × Str × Str)) (kP kW kB : List (Key × V)) (x : Str), vs = [.ref a, .str x] ∧ FrR K H C a dx pP pW pB ps bs kP kW kB ∧
 x ∈ bs.map (·.1) ∧ ∀ (H' : Hp) (kB' : List (Key × V)), KSame pB H H' → FrR K H' C a dx pP pW pB ps (bs.filter fun b => decide (b.1 ≠ x)) kP kW kB' → Q .non H'
theorem sc_a8 : FnScope ["self", "name"] ["self", "name"] (defScope s_a8) := sq
theorem ok_a8 {f : Addr} {fd : FuncData} {C : Addr} (F : Fun K "take_bar" "Frame.take_bar" s_a8 f fd) (fc : FrC K C) : FnOk P w K mg base (CXr P w) 1 f fd ["self", "name"] (spTakeBar K C) := by
 refine fun_okF F sc_a8 (fun vs H Q E h => ?_) (fun cdv A outer s H vs Q E hr h => ?_)
 ·obtain ⟨a, dx, pP, pW, pB, ps, bs, kP, kW, kB, x, rfl, _⟩ := h
  rfl
 obtain ⟨a, dx, pP, pW, pB, ps, bs, kP, kW, kB, x, rfl, R, hx, q⟩ := h
 refine ⟨_, (pss_cons (ps_if (pt_cmp (pc_dnotin (hu_of hr) (pv 1) (pe_fld (pv 0) rfl))) (pss_one (ps_never)) pss_nil)
  (pss_one (ps_expr (pe_dpop1 (pe_fld (pv 0) rfl) (pv 1) ⟨rfl, rfl, rfl, rfl⟩)))), ?_⟩
 refine ⟨_, rfl, _, rfl, a, C, dx, _, _, rfl, R.obj, fc.cls, fc.br, rfl, pB, _, rfl, DGet.k (k := .inr x) R.br, _, rfl, ?_⟩
 rw [R.bar x, decide_eq_true hx]
 obtain ⟨v, ev⟩ := valV_some (kvs := kB) (k := .inr x) (by rw [R.keysB]; exact key_mem.mpr hx)
 refine ⟨_, rfl, a, C, dx, _, _, rfl, R.obj, fc.cls, fc.br, rfl, pB, rfl, .inl ⟨_, .inl R.br⟩, _, rfl, kB, .inr x, v, R.br, rfl, ev, ?_⟩
 exact q _ _ (fun b o n z => by rw [upd_ne n]; exact z) (R.dropBar x)
abbrev txq (r : Rat) : Str := nt (qr r)
theorem nt_one {q : Int × Int} (h : q.2 = 1) : nt q = tx q.1 := if_pos h
theorem nt_two {q : Int × Int} (h : q.2 ≠ 1) : nt q = tx q.1 ++ slash ++ tx q.2 := if_neg h
theorem sz_log {r : Rat} (h : Sz 100 r) : (qr r).1.natAbs.log2 < 1900 ∧ (qr r).2.natAbs.log2 < 1900 := by
 have z : ∀ n : Int, intBits n ≤ 100 → n.natAbs.log2 < 1900 := fun n hn => by
  have h1 := intBits_le_iff.mp hn
  by_cases c : n.natAbs = 0
  ·rw [c]
   decide
  ·exact Nat.lt_of_lt_of_le ((Nat.log2_lt c).mpr h1) (by decide)
 exact ⟨z _ h.top, z _ h.bot⟩
theorem txq_len {r : Rat} (h : Sz 100 r) : (txq r).length ≤ 4000 := by
 obtain ⟨l1, l2⟩ := sz_log h
 have t1 : (tx (qr r).1).length ≤ 1921 := int_text_len_1921 (by omega)
 have t2 : (tx (qr r).2).length ≤ 1921 := int_text_len_1921 (by omega)
 by_cases c : (qr r).2 = 1
 ·rw [show txq r = tx (qr r).1 from nt_one c]
  omega
 ·rw [show txq r = tx (qr r).1 ++ slash ++ tx (qr r).2 from nt_two c]
  show ((tx (qr r).1).cps ++ slash.cps ++ (tx (qr r).2).cps).size ≤ 4000
  rw [Array.size_append, Array.size_append]
  have e3 : slash.cps.size ≤ 100 := by decide +kernel
  have e1 : (tx (qr r).1).cps.size ≤ 1921 := t1
  have e2 : (tx (qr r).2).cps.size ≤ 1921 := t2
  omega
def spShowK (K : Frag) : Sp := fun vs H Q _ => ∃ (u : V) (q : Int × Int), vs = [u] ∧ NmK K H u q ∧ q.1.natAbs.log2 < 1900 ∧ q.2.natAbs.log2 < 1900 ∧ Q (.str (nt q)) H
def spShow (K : Frag) : Sp := fun vs H Q _ => ∃ (u : V) (r : Rat), vs = [u] ∧ NmR K H u r ∧ Sz 100 r ∧ Q (.str (txq r)) H
theorem fn_show {k : Nat} {x : Str} {ps : List Str} (F : Fn P w K mg base CX k x ps (spShowK K)) : Fn P w K mg base CX k x ps (spShow K) := by
 obtain ⟨f, fd, G, r⟩ := F.ex
 refine ⟨f, fd, G.imp fun vs H Q E h => ?_, r⟩
 obtain ⟨u, a, e, h1, z, q⟩ := h
 exact ⟨u, qr a, e, h1, (sz_log z).1, (sz_log z).2, q⟩
theorem sc_an : FnScope ["one", "top", "bottom"] ["one"] (defScope s_an) := sq
theorem ok_an (D : Def K mg "show_ratio" s_an ["one"]) (m_str : mg "str" = none) : Fn P w K mg base CX 1 "show_ratio" ["one"] (spShowK K) := by
 refine D.ok sc_an (fun vs H Q E h => ?_) (fun f cdv A outer s H vs Q E hr h => ?_)
 ·obtain ⟨u, q, rfl, _⟩ := h
  rfl
 obtain ⟨u, q, rfl, ⟨p, rfl, h⟩, l1, l2, k'⟩ := h
 refine ⟨_, (pss_cons (ps_set (i := 1) sc_an.nd rfl (Or.inl rfl) (pe_callTy call_str_int rfl m_str b_str (pac (pe_tx (pv 0)) pa_nil)))
  (pss_cons (ps_if (pt_cmpR op_eq (pe_tx (pv 0)) pe_int (nomark _)) (pss_one (ps_ret (pv 1))) pss_nil)
  (pss_cons (ps_set (i := 2) sc_an.nd rfl (Or.inl rfl) (pe_callTy call_str_int rfl m_str b_str (pac (pe_tx (pv 0)) pa_nil)))
  (pss_one (ps_ret (pe_join (pj_cons (pe_fmt (pv 1)) (pj_cons pe_str (pj_cons (pe_fmt (pv 2)) pj_nil))))))))), ?_⟩
 have t1 : (tx q.1).length ≤ 1921 := int_text_len_1921 (by omega)
 have t2 : (tx q.2).length ≤ 1921 := int_text_len_1921 (by omega)
 have sz : (1921 : Nat) ≤ sizeLine := by decide
 refine ⟨_, rfl, p, _, _, _, rfl, rfl, h, at0, q.1, rfl, by omega, ?_⟩
 refine ⟨_, rfl, p, _, _, _, rfl, rfl, h, at1, rfl, _, rfl, ?_⟩
 refine ite2 (fun c => ?_) (fun c => ?_)
 ·have e : q.2 = 1 := by simpa using of_decide_eq_true c
  rw [nt_one e] at k'
  exact ⟨_, rfl, k'⟩
 ·have e : q.2 ≠ 1 := by
   have := of_decide_eq_false (Bool.eq_false_iff.mpr c)
   intro z
   exact this (by rw [z])
  rw [nt_two e] at k'
  refine ⟨_, rfl, p, _, _, _, rfl, rfl, h, at1, q.2, rfl, by omega, ?_⟩
  refine ⟨_, rfl, tx q.1, rfl, Nat.le_trans t1 sz, tx q.1, rfl, Nat.le_trans t1 (by decide), ?_⟩
  refine ⟨slash, rfl, (by decide +kernel), ?_⟩
  refine ⟨_, rfl, tx q.2, rfl, Nat.le_trans t2 sz, tx q.2, rfl, Nat.le_trans t2 (by decide), ?_⟩
  show Q (.str (((Str.empty ++ tx q.1) ++ slash) ++ tx q.2)) H
  rw [empty_app]
  exact k'
def givesW (H : Hp) (Q : VK) (ws : List Str) : Prop := ∀ (l : Addr) (H' : Hp), Same H H' → H l = none → H' l = some (.lst (ws.map V.str)) → Q (.ref l) H'
def pairW (x : Rat × Rat) : List Str := [txq x.1, txq x.2]
def spPairW (K : Frag) : Sp := fun vs H Q _ => ∃ (u : V) (x : Rat × Rat), vs = [u] ∧ PtR K H u x ∧ Sz 100 x.1 ∧ Sz 100 x.2 ∧ givesW H Q (pairW x)
theorem sc_at : FnScope ["two"] ["two"] (defScope s_at) := sq
theorem ok_at (hM : Mute CX) (D : Def K mg "pair_words" s_at ["two"]) (G_an : Fn P w K mg base CX 1 "show_ratio" ["one"] (spShow K)) : Fn P w K mg base CX 2 "pair_words" ["two"] (spPairW K) := by
 refine D.ok sc_at (fun vs H Q E h => ?_) (fun f cdv A outer s H vs Q E hr h => ?_)
 ·obtain ⟨u, x, rfl, _⟩ := h
  rfl
 obtain ⟨u, x, rfl, ⟨p, v1, v2, rfl, hp, h1, h2⟩, z1, z2, q⟩ := h
 have px := passM (X := (cxOf (CXr P w) P w K mg base ["two"] "pair_words" (defScope s_at) f cdv A outer s H E)) hM
 refine ⟨_, (pss_one (ps_ret (pe_lst (pac (pe_fn G_an hr.mo px (pac (pe_tx (pv 0)) pa_nil)) (pac (pe_fn G_an hr.mo px (pac (pe_tx (pv 0)) pa_nil)) pa_nil))))), ?_⟩
 refine ⟨_, rfl, p, _, _, _, rfl, rfl, hp, at0, v1, x.1, rfl, h1, z1, ?_⟩
 refine ⟨_, rfl, p, _, _, _, rfl, rfl, hp, at1, v2, x.2, rfl, h2, z2, (by show 2 ≤ sizeLine; decide), ?_⟩
 intro l nl; generalize eX : upd _ l _ = H1; have ⟨sl, el⟩ := nw nl eX; clear eX
 exact q l H1 sl nl el
def wordsW : List (Rat × Rat) → List Str
 | [] => []
 | [w] => ("roller" : Str) :: pairW w
 | _ => [("fixed" : Str)]
def spHoldW (K : Frag) : Sp := fun vs H Q _ => ∃ (l : Addr) (us : List V) (ws : List (Rat × Rat)), vs = [.ref l] ∧ H l = some (.lst us) ∧ PtsR K H us ws ∧ ws.length ≤ 2 ∧ (∀ w ∈ ws, Sz 100 w.1 ∧ Sz 100 w.2) ∧ givesW H Q (wordsW ws)
theorem sc_au : FnScope ["ways"] ["ways"] (defScope s_au) := sq
theorem ok_au (hM : Mute CX) (D : Def K mg "hold_words" s_au ["ways"]) (m_len : mg "len" = none) (G_at : Fn P w K mg base CX 2 "pair_words" ["two"] (spPairW K)) : Fn P w K mg base CX 3 "hold_words" ["ways"] (spHoldW K) := by
 refine D.ok sc_au (fun vs H Q E h => ?_) (fun f cdv A outer s H vs Q E hr h => ?_)
 ·obtain ⟨l, us, ws, rfl, _⟩ := h
  rfl
 obtain ⟨l, us, ws, rfl, hl, pw, lw, zw, q⟩ := h
 have px := passM (X := (cxOf (CXr P w) P w K mg base ["ways"] "hold_words" (defScope s_au) f cdv A outer s H E)) hM
 have lu : us.length = ws.length := Paired.length pw
 refine ⟨_, (pss_cons (ps_if (pt_cmpR op_eq (pe_callB call_len_seq rfl m_len b_len (pac (pv 0) pa_nil)) pe_int (nomark _)) (pss_one (ps_ret (pe_lst (pac pe_str pa_nil)))) pss_nil)
  (pss_one (ps_ret (pe_ifExp (pt_cmpR op_eq (pe_callB call_len_seq rfl m_len b_len (pac (pv 0) pa_nil)) pe_int (nomark _)) (pe_op op_cat (pe_lst (pac pe_str pa_nil)) (pe_fn G_at hr.mo px (pac (pe_lx (pv 0)) pa_nil))) (pe_lst pa_nil))))), ?_⟩
 refine ⟨_, rfl, l, _, rfl, .inl (SqL.of hl), rfl, _, rfl, ?_⟩
 match ws, us, lu, lw, pw, zw with
 | [], [], _, _, _, _ =>
  refine ite2 (fun c => by simp at c) (fun _ => ?_)
  refine ⟨_, rfl, l, _, rfl, .inl (SqL.of hl), rfl, _, rfl, ?_⟩
  refine ite2 (fun c => by simp at c) (fun _ => ?_)
  refine ⟨(by show 0 ≤ sizeLine; decide), ?_⟩
  intro l1 n1; generalize eX : upd _ l1 _ = H1; have ⟨s1, e1⟩ := nw n1 eX; clear eX
  exact q l1 H1 s1 n1 e1
 | [w], [u], _, _, .cons hw _, zw =>
  refine ite2 (fun c => by simp at c) (fun _ => ?_)
  refine ⟨_, rfl, l, _, rfl, .inl (SqL.of hl), rfl, _, rfl, ?_⟩
  refine ite2 (fun _ => ?_) (fun c => absurd rfl c)
  refine ⟨(by show 1 ≤ sizeLine; decide), ?_⟩
  intro l1 n1; generalize eX : upd _ l1 _ = H1; have ⟨s1, e1⟩ := nw n1 eX; clear eX
  have z := zw w (by simp)
  refine ⟨_, rfl, l, _, _, _, rfl, rfl, SqL.of (s1 _ _ hl), rfl, u, w, rfl, hw.same s1, z.1, z.2, fun l2 H2 s2 n2 e2 => ?_⟩
  refine ⟨l1, l2, _, _, rfl, rfl, s2 _ _ e1, e2, (by show 3 ≤ sizeLine; decide), ?_⟩
  intro l3 n3; generalize eX : upd _ l3 _ = H3; have ⟨s3, e3⟩ := nw n3 eX; clear eX
  exact q l3 H3 (sm_tr s1 (sm_tr s2 s3)) (none_back (sm_tr s1 s2) n3) e3
 | [w, w'], [u, u'], _, _, _, _ =>
  refine ite2 (fun _ => ?_) (fun c => absurd rfl c)
  refine ⟨(by show 1 ≤ sizeLine; decide), ?_⟩
  intro l1 n1; generalize eX : upd _ l1 _ = H1; have ⟨s1, e1⟩ := nw n1 eX; clear eX
  exact q l1 H1 s1 n1 e1
theorem nw_of {pins : List PinD} (h : (pins.map (·.nm)).Nodup) : ((pins.map fun p => (p.nm, p.ws)).map (·.1)).Nodup := by
 rw [List.map_map]
 exact h
theorem nb_of {bars : List BarD} (h : (bars.map (·.nm)).Nodup) : ((bars.map fun b => (b.nm, b.one.nm, b.other.nm)).map (·.1)).Nodup := by
 rw [List.map_map]
 exact h
def sp1 : Str := " "
def rowP (p : PinD) : Str := Txt.join " " ([("pin" : Str), p.nm] ++ pairW p.sp ++ wordsW p.ws)
def rowB (b : BarD) : Str := Txt.join " " [("bar" : Str), b.nm, b.one.nm, b.other.nm]
def textF (pins : List PinD) (bars : List BarD) : Str := Txt.join "\n" (pins.map rowP ++ bars.map rowB)
structure ShortN (pins : List PinD) (bars : List BarD) : Prop where
 p : ∀ p ∈ pins, p.nm.length ≤ 100
 b : ∀ b ∈ bars, b.nm.length ≤ 100
def sumLen (ws : List Str) : Nat := (ws.map (·.length)).sum
theorem join_len (z : Str) : ∀ ws : List Str, (Txt.join z ws).length ≤ sumLen ws + ws.length * z.length
 | ws => by
  have e : Txt.join z ws = Str.join z ws := StrLaws.glued_eq_join _ _
  rw [e]
  have go : ∀ ws : List Str, (Str.join z ws).length ≤ sumLen ws + ws.length * z.length := by
   intro ws
   induction ws with
   | nil => exact Nat.zero_le _
   | cons a as ih =>
    cases as with
    | nil =>
     show a.length ≤ sumLen [a] + 1 * z.length
     simp [sumLen]
    | cons b as =>
     show (a.cps ++ z.cps ++ (Str.join z (b :: as)).cps).size ≤ _
     rw [Array.size_append, Array.size_append]
     have e1 : sumLen (a :: b :: as) = a.length + sumLen (b :: as) := rfl
     have e2 : (a :: b :: as).length * z.length = z.length + (b :: as).length * z.length := by
      rw [List.length_cons, Nat.succ_mul, Nat.add_comm]
     have i' : (Str.join z (b :: as)).cps.size ≤ sumLen (b :: as) + (b :: as).length * z.length := ih
     have a' : a.cps.size = a.length := rfl
     have z' : z.cps.size = z.length := rfl
     omega
  exact go ws
theorem words_len {pins : List PinD} {bars : List BarD} (g : GoodF pins bars) (sn : ShortN pins bars) {p : PinD} (hp : p ∈ pins) : ([("pin" : Str), p.nm] ++ pairW p.sp ++ wordsW p.ws).length ≤ 7 ∧ sumLen ([("pin" : Str), p.nm] ++ pairW p.sp ++ wordsW p.ws) ≤ 20000 := by
 have z := g.sz p hp
 have t1 := txq_len z.1
 have t2 := txq_len z.2.1
 have n1 := sn.p p hp
 have l1 : ("pin" : Str).length = 3 := by decide +kernel
 have l2 : ("roller" : Str).length = 6 := by decide +kernel
 have l3 : ("fixed" : Str).length = 5 := by decide +kernel
 match h : p.ws with
 | [] =>
  refine ⟨by simp [wordsW, pairW], ?_⟩
  simp only [sumLen, wordsW, pairW, List.map_append, List.map_cons, List.map_nil, List.sum_append, List.sum_cons, List.sum_nil]
  omega
 | [w] =>
  have zw := z.2.2 w (by rw [h]; simp)
  have t3 := txq_len (zw.1.up (by decide))
  have t4 := txq_len (zw.2.up (by decide))
  refine ⟨by simp [wordsW, pairW], ?_⟩
  simp only [sumLen, wordsW, pairW, List.map_append, List.map_cons, List.map_nil, List.sum_append, List.sum_cons, List.sum_nil]
  omega
 | w :: w' :: r =>
  refine ⟨by simp [wordsW, pairW], ?_⟩
  simp only [sumLen, wordsW, pairW, List.map_append, List.map_cons, List.map_nil, List.sum_append, List.sum_cons, List.sum_nil]
  omega
theorem rowP_len {pins : List PinD} {bars : List BarD} (g : GoodF pins bars) (sn : ShortN pins bars) {p : PinD} (hp : p ∈ pins) : (rowP p).length ≤ 20100 := by
 obtain ⟨h1, h2⟩ := words_len g sn hp
 have := join_len " " ([("pin" : Str), p.nm] ++ pairW p.sp ++ wordsW p.ws)
 have l1 : (" " : Str).length = 1 := by decide +kernel
 rw [l1] at this
 unfold rowP
 omega
theorem rowB_len {pins : List PinD} {bars : List BarD} (g : GoodF pins bars) (sn : ShortN pins bars) {b : BarD} (hb : b ∈ bars) : sumLen [("bar" : Str), b.nm, b.one.nm, b.other.nm] ≤ 1000 ∧ (rowB b).length ≤ 20100 := by
 obtain ⟨m1, m2, _⟩ := g.ends b hb
 have n1 := sn.b b hb
 have n2 := sn.p _ m1
 have n3 := sn.p _ m2
 have l1 : ("bar" : Str).length = 3 := by decide +kernel
 have h : sumLen [("bar" : Str), b.nm, b.one.nm, b.other.nm] ≤ 1000 := by
  simp only [sumLen, List.map_cons, List.map_nil, List.sum_cons, List.sum_nil]
  omega
 refine ⟨h, ?_⟩
 have := join_len " " [("bar" : Str), b.nm, b.one.nm, b.other.nm]
 have l2 : (" " : Str).length = 1 := by decide +kernel
 rw [l2] at this
 have l3 : [("bar" : Str), b.nm, b.one.nm, b.other.nm].length = 4 := rfl
 unfold rowB
 omega
theorem sum_le {ws : List Str} {k : Nat} (h : ∀ w ∈ ws, w.length ≤ k) : sumLen ws ≤ ws.length * k := by
 induction ws with
 | nil => exact Nat.zero_le _
 | cons a as ih =>
  have h1 := h a List.mem_cons_self
  have h2 := ih fun w hw => h w (List.mem_cons_of_mem _ hw)
  show a.length + sumLen as ≤ (as.length + 1) * k
  rw [Nat.add_mul, Nat.one_mul]
  omega
def spShowF (K : Frag) (C : Addr) : Sp := fun vs H Q _ => ∃ (a : Addr) (pins : List PinD) (bars : List BarD), vs = [.ref a] ∧ FrA K H C a pins bars ∧ GoodF pins bars ∧ ShortN pins bars ∧ ∀ H', Same H H' → Q (.str (textF pins bars)) H'
theorem sc_as : FnScope ["F", "rows", "pin", "words", "bar", "two"] ["F"] (defScope s_as) := sq
theorem ok_as {C : Addr} (D : Def K mg "show_frame" s_as ["F"]) (MPn : MtdOk P w K mg base (CXr P w) 1 C "pins" ["self"] (spPins K C)) (MB : MtdOk P w K mg base (CXr P w) 1 C "bars" ["self"] (spBars K C)) (MPl : MtdOk P w K mg base (CXr P w) 2 C "place" ["self", "pin"] (spPlace K C)) (MW : MtdOk P w K mg base (CXr P w) 2 C "ways" ["self", "pin"] (spWays K C)) (ME : MtdOk P w K mg base (CXr P w) 1 C "ends" ["self", "bar"] (spEnds K C))
  (G_at : Fn P w K mg base (CXr P w) 2 "pair_words" ["two"] (spPairW K)) (G_au : Fn P w K mg base (CXr P w) 3 "hold_words" ["ways"] (spHoldW K)) : Fn P w K mg base (CXr P w) 4 "show_frame" ["F"] (spShowF K C) := by
 refine D.ok sc_as (fun vs H Q E h => ?_) (fun f cdv A outer s H vs Q E hr h => ?_)
 ·obtain ⟨a, pins, bars, rfl, _⟩ := h
  rfl
 obtain ⟨a, pins, bars, rfl, R, g, sn, q⟩ := h
 have lp := g.lp
 have lb := g.lb
 have lsp : (" " : Str).length = 1 := by decide +kernel
 have lnl : ("\n" : Str).length = 1 := by decide +kernel
 refine ⟨_, (pss_cons (ps_set (i := 1) sc_as.nd rfl (Or.inl rfl) (pe_lst pa_nil))
  (pss_cons (ps_for PassesOwn.never rfl (pi_list (pe_mtd0 (k := 1) (pv 0) hr.mo (pY P w))) (pg_name (i := 2) sc_as.nd rfl (Or.inl rfl)) (pss_cons (ps_set (i := 3) sc_as.nd rfl (Or.inl rfl) (pe_op op_cat (pe_op op_cat (pe_lst (pac pe_str (pac (pv 2) pa_nil))) (pe_fn G_at hr.mo (pY P w) (pac (pe_mtd (k := 2) (pv 0) hr.mo (pY P w) (pac (pv 2) pa_nil)) pa_nil))) (pe_fn G_au hr.mo (pY P w) (pac (pe_mtd (k := 2) (pv 0) hr.mo (pY P w) (pac (pv 2) pa_nil)) pa_nil))))
   (pss_one (ps_expr (pe_bm PySem.F.plainAttrs_list PySem.F.slot_list_append PySem.F.type_list_append mt_append (pv 1) (pac (pe_bm PySem.F.plainAttrs_str PySem.F.slot_str_join PySem.F.type_str_join mt_join pe_str (pac (pv 3) pa_nil)) pa_nil))))))
  (pss_cons (ps_for PassesOwn.never rfl (pi_list (pe_mtd0 (k := 1) (pv 0) hr.mo (pY P w))) (pg_name (i := 4) sc_as.nd rfl (Or.inl rfl)) (pss_cons (ps_set (i := 5) sc_as.nd rfl (Or.inl rfl) (pe_mtd (k := 1) (pv 0) hr.mo (pY P w) (pac (pv 4) pa_nil)))
   (pss_one (ps_expr (pe_bm PySem.F.plainAttrs_list PySem.F.slot_list_append PySem.F.type_list_append mt_append (pv 1) (pac (pe_bm PySem.F.plainAttrs_str PySem.F.slot_str_join PySem.F.type_str_join mt_join pe_str (pac (pe_lst (pac pe_str (pac (pv 4) (pac (pe_tx (pv 5)) (pac (pe_tx (pv 5)) pa_nil))))) pa_nil)) pa_nil))))))
  (pss_one (ps_ret (pe_bm PySem.F.plainAttrs_str PySem.F.slot_str_join PySem.F.type_str_join mt_join pe_str (pac (pv 1) pa_nil))))))), ?_⟩
 refine ⟨(by show 0 ≤ sizeLine; decide), ?_⟩
 intro lr nr; generalize eX : upd _ lr _ = H1; have ⟨sr, er⟩ := nw nr eX; clear eX
 have R1 := R.same sr
 obtain ⟨dx, pP, pW, pB, kP, kW, kB, F1, W1⟩ := R1.ex
 refine ⟨_, rfl, a, C, dx, _, _, _, rfl, F1.obj, rfl, MPn, a, dx, pP, pW, pB, _, _, kP, kW, kB, rfl, F1, fun l H2 s2 nl el => ?_⟩
 have nmb : ((pins.map fun p => (p.nm, ptQ p.sp)).map (·.1)) = pins.map (·.nm) := by rw [List.map_map]; rfl
 have nbb : ((bars.map fun b => (b.nm, b.one.nm, b.other.nm)).map (·.1)) = bars.map (·.nm) := by rw [List.map_map]; rfl
 rw [nmb] at el
 have lrl : lr ≠ l := fun z => by rw [← z, er] at nl; cases nl
 refine ⟨l, rfl, ⟨_, SqL.of el⟩, for_list (K := K) (a := l) (xs := (pins.map (·.nm)).map V.str) (fun i σ H' => ∃ (o2 o3 : Option V), σ = [some (.ref a), some (.ref lr), o2, o3, none, none] ∧ Same H H' ∧ H' l = some (.lst ((pins.map (·.nm)).map V.str)) ∧ H' lr = some (.lst (((pins.take i).map rowP).map V.str))) ⟨none, none, rfl, sm_tr sr s2, el, s2 _ _ er⟩ (fun i σ H' _ h => by
   obtain ⟨_, _, _, _, h, _⟩ := h
   exact SqL.of h) ?_ ?_⟩
 ·rintro i z σ H3 hi ⟨o2, o3, rfl, s3, l3, r3⟩
  rw [List.getElem?_map, List.getElem?_map] at hi
  obtain ⟨x, hx, rfl⟩ := Option.map_eq_some_iff.mp hi
  obtain ⟨p, ep, rfl⟩ := Option.map_eq_some_iff.mp hx
  have mp : p ∈ pins := List.mem_of_getElem? ep
  have zp := g.sz p mp
  have il : i < pins.length := (List.getElem?_eq_some_iff.mp ep).1
  refine ⟨_, rfl, (by show 2 ≤ sizeLine; decide), ?_⟩
  intro l4 n4; generalize eX : upd _ l4 _ = H4; have ⟨s4, e4⟩ := nw n4 eX; clear eX
  have R4 := R.same (sm_tr s3 s4)
  obtain ⟨dx, pP, pW, pB, kP, kW, kB, F4, W4⟩ := R4.ex
  refine ⟨_, rfl, a, C, dx, _, _, _, rfl, F4.obj, rfl, MPl, _, rfl, a, dx, pP, pW, pB, _, _, kP, kW, kB, p.nm, ptQ p.sp, rfl, F4, by rw [nmb]; exact g.np, List.mem_map.mpr ⟨p, mp, rfl⟩, fun v hv => ?_⟩
  refine ⟨v, p.sp, rfl, PtR.ofSpot hv, zp.1, zp.2.1, fun l5 H5 s5 n5 e5 => ?_⟩
  refine ⟨l4, l5, _, _, rfl, rfl, s5 _ _ e4, e5, (by show 4 ≤ sizeLine; decide), ?_⟩
  intro l6 n6; generalize eX : upd _ l6 _ = H6; have ⟨s6, e6⟩ := nw n6 eX; clear eX
  have s46 := sm_tr s5 s6
  have R6 := R4.same s46
  obtain ⟨dx, pP, pW, pB, kP, kW, kB, F6, W6⟩ := R6.ex
  refine ⟨_, rfl, a, C, dx, _, _, _, rfl, F6.obj, rfl, MW, _, rfl, a, dx, pP, pW, pB, _, _, kP, kW, kB, _, p.nm, p.ws, rfl, F6, W6, nw_of g.np, List.mem_map.mpr ⟨p, mp, rfl⟩, by rw [nmb]; exact List.mem_map.mpr ⟨p, mp, rfl⟩, fun l7 u7 H7 s7 n7 e7 p7 => ?_⟩
  refine ⟨l7, u7, p.ws, rfl, e7, p7, g.lw p mp, fun w hw => ⟨(zp.2.2 w hw).1.up (by decide), (zp.2.2 w hw).2.up (by decide)⟩, fun l8 H8 s8 n8 e8 => ?_⟩
  obtain ⟨wl, wsum⟩ := words_len g sn mp
  have e6' : H8 l6 = some (.lst (([("pin" : Str), p.nm] ++ pairW p.sp).map V.str)) := s8 _ _ (s7 _ _ e6)
  have wl2 : (wordsW p.ws).length ≤ 3 := by
   match p.ws with
   | [] => simp [wordsW]
   | [w] => simp [wordsW, pairW]
   | _ :: _ :: _ => simp [wordsW]
  refine ⟨l6, l8, _, _, rfl, rfl, e6', e8, (by rw [List.length_map, List.length_map]; show 4 + (wordsW p.ws).length ≤ sizeLine; exact Nat.le_trans (show 4 + (wordsW p.ws).length ≤ 7 by omega) (by decide)), ?_⟩
  intro l9 n9; generalize eX : upd _ l9 _ = H9; have ⟨s9, e9⟩ := nw n9 eX; clear eX
  rw [← List.map_append] at e9
  have s39 := sm_tr s4 (sm_tr s46 (sm_tr s7 (sm_tr s8 s9)))
  have r9 := s39 _ _ r3
  refine ⟨_, rfl, .inl ⟨rfl, _, SqL.of r9⟩, rfl, _, rfl, " ", l9, _, rfl, rfl, SqL.of e9, (by rw [lsp]; have e : (([("pin" : Str), p.nm] ++ pairW p.sp ++ wordsW p.ws).map (·.length)).sum ≤ 20000 := wsum; omega), ?_⟩
  refine ⟨lr, _, _, rfl, rfl, r9, (by rw [List.length_map, List.length_map, List.length_take]; exact Nat.lt_of_le_of_lt (show min i pins.length ≤ 1000 by omega) (by decide)), ?_⟩
  refine ⟨_, _, rfl, fun b o z => ?_, ?_, ?_⟩
  ·rw [upd_ne (ne_of_none z nr)]
   exact s39 _ _ (s3 _ _ z)
  ·rw [upd_ne (Ne.symm lrl)]
   exact s39 _ _ l3
  ·rw [upd_same, take_snoc ep, List.map_append, List.map_append]
   rfl
 rintro σ H3 ⟨o2, o3, rfl, s3, l3, r3⟩
 rw [List.length_map, List.length_map, List.take_length] at r3
 have R3 := R.same s3
 obtain ⟨dx, pP, pW, pB, kP, kW, kB, F3, W3⟩ := R3.ex
 refine ⟨_, rfl, a, C, dx, _, _, _, rfl, F3.obj, rfl, MB, a, dx, pP, pW, pB, _, _, kP, kW, kB, rfl, F3, fun l' H4 s4 nl' el' => ?_⟩
 rw [nbb] at el'
 have lrl' : lr ≠ l' := fun z => by rw [← z, r3] at nl'; cases nl'
 refine ⟨l', rfl, ⟨_, SqL.of el'⟩, for_list (K := K) (a := l') (xs := (bars.map (·.nm)).map V.str) (fun i σ H' => ∃ (o2 o3 o4 o5 : Option V), σ = [some (.ref a), some (.ref lr), o2, o3, o4, o5] ∧ Same H H' ∧ H' l' = some (.lst ((bars.map (·.nm)).map V.str)) ∧ H' lr = some (.lst ((pins.map rowP ++ (bars.take i).map rowB).map V.str))) ⟨o2, o3, none, none, rfl, sm_tr s3 s4, el', by rw [s4 _ _ r3]; simp⟩ (fun i σ H' _ h => by
   obtain ⟨_, _, _, _, _, _, h, _⟩ := h
   exact SqL.of h) ?_ ?_⟩
 ·rintro i z σ H5 hi ⟨o2, o3, o4, o5, rfl, s5, l5, r5⟩
  rw [List.getElem?_map, List.getElem?_map] at hi
  obtain ⟨x, hx, rfl⟩ := Option.map_eq_some_iff.mp hi
  obtain ⟨b, eb, rfl⟩ := Option.map_eq_some_iff.mp hx
  have mb : b ∈ bars := List.mem_of_getElem? eb
  have il : i < bars.length := (List.getElem?_eq_some_iff.mp eb).1
  have R5 := R.same s5
  obtain ⟨dx, pP, pW, pB, kP, kW, kB, F5, W5⟩ := R5.ex
  refine ⟨_, rfl, a, C, dx, _, _, _, rfl, F5.obj, rfl, ME, _, rfl, a, dx, pP, pW, pB, _, _, kP, kW, kB, b.nm, b.one.nm, b.other.nm, rfl, F5, nb_of g.nb, List.mem_map.mpr ⟨b, mb, rfl⟩, fun p rd => ?_⟩
  have tp : SqT K H5 p [.str b.one.nm, .str b.other.nm] := .inl rd
  refine ⟨_, rfl, .inl ⟨rfl, _, SqL.of r5⟩, rfl, _, rfl, _, rfl, p, _, _, _, rfl, rfl, tp, at0, _, rfl, p, _, _, _, rfl, rfl, tp, at1, (by show 4 ≤ sizeLine; decide), ?_⟩
  intro l6 n6; generalize eX : upd _ l6 _ = H6; have ⟨s6, e6⟩ := nw n6 eX; clear eX
  obtain ⟨wsum, _⟩ := rowB_len g sn mb
  refine ⟨" ", l6, [("bar" : Str), b.nm, b.one.nm, b.other.nm], rfl, rfl, SqL.of e6, (by rw [lsp]; have e : (([("bar" : Str), b.nm, b.one.nm, b.other.nm] : List Str).map (·.length)).sum ≤ 1000 := wsum; have e' : ([("bar" : Str), b.nm, b.one.nm, b.other.nm] : List Str).length = 4 := rfl; omega), ?_⟩
  have r6 := s6 _ _ r5
  refine ⟨lr, _, _, rfl, rfl, r6, (by rw [List.length_map, List.length_append, List.length_map, List.length_map, List.length_take]; exact Nat.lt_of_le_of_lt (show pins.length + min i bars.length ≤ 1000 by omega) (by decide)), ?_⟩
  refine ⟨_, _, _, _, rfl, fun b o z => ?_, ?_, ?_⟩
  ·rw [upd_ne (ne_of_none z nr)]
   exact s6 _ _ (s5 _ _ z)
  ·rw [upd_ne (Ne.symm lrl')]
   exact s6 _ _ l5
  ·rw [upd_same, take_snoc eb, List.map_append, List.map_append, List.map_append, List.map_append, List.append_assoc]
   rfl
 rintro σ H5 ⟨o2, o3, o4, o5, rfl, s5, l5, r5⟩
 rw [List.length_map, List.length_map, List.take_length] at r5
 have hs : sumLen (pins.map rowP ++ bars.map rowB) ≤ (pins.map rowP ++ bars.map rowB).length * 20100 := sum_le fun w hw => by
  rcases List.mem_append.mp hw with h | h
  ·obtain ⟨p, mp, rfl⟩ := List.mem_map.mp h
   exact rowP_len g sn mp
  ·obtain ⟨b, mb, rfl⟩ := List.mem_map.mp h
   exact (rowB_len g sn mb).2
 rw [List.length_append, List.length_map, List.length_map] at hs
 refine ⟨rfl, _, rfl, "\n", lr, _, rfl, rfl, SqL.of r5, ?_, q H5 s5⟩
 rw [lnl, List.length_append, List.length_map, List.length_map]
 have e : ((pins.map rowP ++ bars.map rowB).map (·.length)).sum ≤ (pins.length + bars.length) * 20100 := hs
 omega
inductive Odd (H : Hp) : V → Prop where
 | non : Odd H .non
 | bl (b : Bool) : Odd H (.bl b)
 | str (x : Str) : Odd H (.str x)
 | lst {a : Addr} {xs : List V} (e : H a = some (.lst xs)) : Odd H (.ref a)
 | tup {a : Addr} {xs : List V} (e : H a = some (.tup xs)) : Odd H (.ref a)
theorem k_ii : PySem.W.kitOne K (.type "int") (.type "int") = some true := by unfold PySem.W.kitOne; rw [if_pos (by decide)]
theorem k_bb : PySem.W.kitOne K (.type "bool") (.type "bool") = some true := by unfold PySem.W.kitOne; rw [if_pos (by decide)]
theorem k_ib : PySem.W.kitOne K (.type "int") (.type "bool") = some false := kind_sub ⟨by decide, fun _ => ⟨by decide +kernel, by decide +kernel⟩⟩
theorem k_bi : PySem.W.kitOne K (.type "bool") (.type "int") = some true := kind_sub ⟨by decide, fun _ => ⟨by decide +kernel, by decide +kernel⟩⟩
theorem k_ni : PySem.W.kitOne K (.type "NoneType") (.type "int") = some false := kind_sub ⟨by decide, fun _ => ⟨by decide +kernel, by decide +kernel⟩⟩
theorem k_si : PySem.W.kitOne K (.type "str") (.type "int") = some false := kind_sub ⟨by decide, fun _ => ⟨by decide +kernel, by decide +kernel⟩⟩
theorem k_li : PySem.W.kitOne K (.type "list") (.type "int") = some false := kind_sub ⟨by decide, fun _ => ⟨by decide +kernel, by decide +kernel⟩⟩
theorem k_ti : PySem.W.kitOne K (.type "tuple") (.type "int") = some false := kind_sub ⟨by decide, fun _ => ⟨by decide +kernel, by decide +kernel⟩⟩
def spWhole : Sp := fun vs H Q _ => (∃ i, vs = [.int i] ∧ Q (.bl true) H) ∨ (∃ x, vs = [x] ∧ Odd H x ∧ Q (.bl false) H)
theorem sc_bi : FnScope ["value"] ["value"] (defScope s_bi) := sq
theorem ok_bi (D : Def K mg "is_whole" s_bi ["value"]) (m_isinstance : mg "isinstance" = none) (m_int : mg "int" = none) (m_bool : mg "bool" = none) : Fn P w K mg base CX 1 "is_whole" ["value"] spWhole := by
 refine D.ok sc_bi (fun vs H Q E h => ?_) (fun f cdv A outer s H vs Q E hr h => ?_)
 ·rcases h with ⟨i, rfl, _⟩ | ⟨x, rfl, _⟩ <;> rfl
 rcases h with ⟨i, rfl, q⟩ | ⟨x, rfl, od, q⟩
 ·refine ⟨_, (pss_one (ps_ret (pe_and (pe_callB call_isi rfl m_isinstance b_isinstance (pac (pv 0) (pac (pe_ty rfl m_int b_int) pa_nil))) (pe_one (pe_not (pe_callB call_isi rfl m_isinstance b_isinstance (pac (pv 0) (pac (pe_ty rfl m_bool b_bool) pa_nil)))))))), ?_⟩
  refine ⟨_, rfl, _, _, _, true, rfl, rfl, .int i, k_ii, _, rfl, iteT ?_⟩
  exact ⟨_, rfl, _, _, _, false, rfl, rfl, .int i, k_ib, _, rfl, q⟩
 ·refine ⟨_, (pss_one (ps_ret (pe_and (pe_callB call_isi rfl m_isinstance b_isinstance (pac (pv 0) (pac (pe_ty rfl m_int b_int) pa_nil))) (pe_one (pe_not (pe_callB call_isi rfl m_isinstance b_isinstance (pac (pv 0) (pac (pe_ty rfl m_bool b_bool) pa_nil)))))))), ?_⟩
  cases od with
  | non => exact ⟨_, rfl, _, _, _, false, rfl, rfl, .non, k_ni, _, rfl, iteF q⟩
  | str y => exact ⟨_, rfl, _, _, _, false, rfl, rfl, .str y, k_si, _, rfl, iteF q⟩
  | lst e => exact ⟨_, rfl, _, _, _, false, rfl, rfl, .lst e, k_li, _, rfl, iteF q⟩
  | tup e => exact ⟨_, rfl, _, _, _, false, rfl, rfl, .tup e, k_ti, _, rfl, iteF q⟩
  | bl b => exact ⟨_, rfl, _, _, _, true, rfl, rfl, .bl b, k_bi, _, rfl, iteT ⟨_, rfl, _, _, _, true, rfl, rfl, .bl b, k_bb, _, rfl, q⟩⟩
inductive Bad (H : Hp) : V → V → Prop where
 | one {x y : V} (h : Odd H x) : Bad H x y
 | two {i : Int} {y : V} (h : Odd H y) : Bad H (.int i) y
 | nought (i : Int) : Bad H (.int i) (.int 0)
def spRatio (C : Addr) : Sp := fun vs H Q E => (∃ t b : Int, vs = [.int t, .int b] ∧ b ≠ 0 ∧ intBits b ≤ 9000 ∧ gives H Q (low t b)) ∨ (∃ x y, vs = [x, y] ∧ Bad H x y ∧ E (.ref C) none H)
theorem sc_bh : FnScope ["top", "bottom"] ["top", "bottom"] (defScope s_bh) := sq
theorem ok_bh {C : Addr} {ds : List Value} (D : DefD K mg "ratio_of" s_bh ["top", "bottom"] ds) (m_bs : mg "NoNumber" = some (.ref C)) (q_bs : PySem.W.excIn K C bmVE "ValueError.__new__" = true)
  (G_bi : Fn P w K mg base (CXr P w) 1 "is_whole" ["value"] spWhole) (G_ad : Fn P w K mg base (CXr P w) 33 "lowest_terms" ["top", "bottom"] spLowestU) : Fn P w K mg base (CXr P w) 34 "ratio_of" ["top", "bottom"] (spRatio C) ∧ FnD P w K mg base (CXr P w) 34 "ratio_of" ["top", "bottom"] ds (spRatio C) := by
 refine D.okX sc_bh (fun vs H Q E h => ?_) (fun f cdv A outer s H vs Q E hr h => ?_)
 ·rcases h with ⟨t, b, rfl, _⟩ | ⟨x, y, rfl, _⟩ <;> rfl
 have px := pass_up (P := P) (w := w) (K := K) (mg := mg) (base := base) (N := ["top", "bottom"]) (qual := "ratio_of") (scope := defScope s_bh) (f := f) (cdv := cdv) (A := A) (outer := outer) (s0 := s) (H0 := H) (E := E)
 rcases h with ⟨t, b, rfl, hb, bb, q⟩ | ⟨x, y, rfl, hB, q⟩
 ·refine ⟨_, (pss_cons (ps_if (PW.pt (pw_or (pt_not (pt_val (pe_fn G_bi hr.mo px (pac (pv 0) pa_nil)))) (pw_or1 (pt_not (pt_val (pe_fn G_bi hr.mo px (pac (pv 1) pa_nil))))))) (pss_one (ps_raise PySem.F.excBase_ValueError m_bs q_bs hr.hd (pac pe_str pa_nil))) pss_nil)
  (pss_cons (ps_if (pt_cmpR op_eq (pv 1) pe_int (nomark _)) (pss_one (ps_raise PySem.F.excBase_ValueError m_bs q_bs hr.hd (pac pe_str pa_nil))) pss_nil)
  (pss_one (ps_ret (pe_fn G_ad hr.mo px (pac (pv 0) (pac (pv 1) pa_nil))))))), ?_⟩
  refine ⟨_, rfl, .inl ⟨t, rfl, _, rfl, ?_⟩⟩
  refine ite2 (fun c => nomatch c) (fun _ => ?_)
  refine ⟨_, rfl, .inl ⟨b, rfl, _, rfl, ?_⟩⟩
  refine ite2 (fun c => nomatch c) (fun _ => ?_)
  refine ⟨_, rfl, rfl, _, rfl, ?_⟩
  refine ite2 (fun z => ?_) (fun _ => ?_)
  ·exact absurd (by simpa using of_decide_eq_true z) hb
  ·exact ⟨_, rfl, _, rfl, t, b, rfl, hb, q⟩
 ·refine ⟨_, (pss_cons (ps_if (PW.pt (pw_or (pt_not (pt_val (pe_fn G_bi hr.mo px (pac (pv 0) pa_nil)))) (pw_or1 (pt_not (pt_val (pe_fn G_bi hr.mo px (pac (pv 1) pa_nil))))))) (pss_one (ps_raise PySem.F.excBase_ValueError m_bs q_bs hr.hd (pac pe_str pa_nil))) pss_nil)
  (pss_cons (ps_if (pt_cmpR op_eq (pv 1) pe_int (nomark _)) (pss_one (ps_raise PySem.F.excBase_ValueError m_bs q_bs hr.hd (pac pe_str pa_nil))) pss_nil)
  (pss_one (ps_ret (pe_fn G_ad hr.mo px (pac (pv 0) (pac (pv 1) pa_nil))))))), ?_⟩
  have sz : (1 : Nat) ≤ sizeLine := by decide
  cases hB with
  | one od =>
   refine ⟨_, rfl, .inr ⟨_, rfl, od, _, rfl, ?_⟩⟩
   refine ite2 (fun _ => ?_) (fun c => absurd rfl c)
   exact iteT ⟨sz, q⟩
  | @two i _ od =>
   refine ⟨_, rfl, .inl ⟨i, rfl, _, rfl, ?_⟩⟩
   refine ite2 (fun c => nomatch c) (fun _ => ?_)
   refine ⟨_, rfl, .inr ⟨_, rfl, od, _, rfl, ?_⟩⟩
   exact ite2 (fun _ => ⟨sz, q⟩) (fun c => absurd rfl c)
  | nought i =>
   refine ⟨_, rfl, .inl ⟨i, rfl, _, rfl, ?_⟩⟩
   refine ite2 (fun c => nomatch c) (fun _ => ?_)
   refine ⟨_, rfl, .inl ⟨0, rfl, _, rfl, ?_⟩⟩
   refine ite2 (fun c => nomatch c) (fun _ => ?_)
   refine ⟨_, rfl, rfl, _, rfl, ?_⟩
   exact ite2 (fun _ => ⟨sz, q⟩) (fun c => absurd rfl c)
inductive NoStr (H : Hp) : V → Prop where
 | non : NoStr H .non
 | bl (b : Bool) : NoStr H (.bl b)
 | int (i : Int) : NoStr H (.int i)
 | lst {a : Addr} {xs : List V} (e : H a = some (.lst xs)) : NoStr H (.ref a)
 | tup {a : Addr} {xs : List V} (e : H a = some (.tup xs)) : NoStr H (.ref a)
theorem NoStr.ty {K : Frag} {H : Hp} {x : V} (h : NoStr H x) : ∃ t, TyOf K H x t ∧ PySem.W.kitOne K t (clsV (.ty "str")) = some false := by
 cases h with
 | non => exact ⟨_, .non, kind_sub ⟨by decide, fun _ => ⟨by decide +kernel, by decide +kernel⟩⟩⟩
 | bl b => exact ⟨_, .bl b, kind_sub ⟨by decide, fun _ => ⟨by decide +kernel, by decide +kernel⟩⟩⟩
 | int i => exact ⟨_, .int i, kind_sub ⟨by decide, fun _ => ⟨by decide +kernel, by decide +kernel⟩⟩⟩
 | lst e => exact ⟨_, .lst e, kind_sub ⟨by decide, fun _ => ⟨by decide +kernel, by decide +kernel⟩⟩⟩
 | tup e => exact ⟨_, .tup e, kind_sub ⟨by decide, fun _ => ⟨by decide +kernel, by decide +kernel⟩⟩⟩
theorem k_ss : PySem.W.kitOne K (.type "str") (.type "str") = some true := by unfold PySem.W.kitOne; rw [if_pos (by decide)]
theorem val_bound : ∀ {cs : List Nat}, NumText.AllDigits cs → NumText.digitsVal cs < 10 ^ cs.length := by
 intro cs
 have go : ∀ (cs : List Nat) (acc : Nat), NumText.AllDigits cs → cs.foldl (fun acc c => acc * 10 + (c - 48)) acc < (acc + 1) * 10 ^ cs.length := by
  intro cs
  induction cs with
  | nil => intro acc _; simp
  | cons c r ih =>
   intro acc h
   have hc := h.head
   have := ih (acc * 10 + (c - 48)) h.tail
   rw [List.foldl_cons, List.length_cons, Nat.pow_succ]
   refine Nat.lt_of_lt_of_le this ?_
   have e : (acc + 1) * (10 ^ r.length * 10) = ((acc + 1) * 10) * 10 ^ r.length := by
    rw [Nat.mul_comm (10 ^ r.length) 10, Nat.mul_assoc]
   rw [e]
   exact Nat.mul_le_mul_right _ (by omega)
 intro h
 have := go cs 0 h
 simpa [NumText.digitsVal] using this
def figs (cs : List Nat) : List Nat := match cs with
 | [] => []
 | d :: r => if d = 45 then r else d :: r
def spRW (C : Addr) : Sp := fun vs H Q E => ∃ x : Str, vs = [.str x] ∧ Txk x ∧ (∀ n H', n.natAbs < 10 ^ 60 → Same H H' → (∀ m : Int, m.natAbs < 10 ^ 60 → x = tx m → n = m) → Q (.int n) H') ∧
 ((∀ m : Int, m.natAbs < 10 ^ 60 → x ≠ tx m) → ∀ H', Same H H' → E (.ref C) none H')
theorem starts_nil {x : Str} (h : x.cps.toList = []) : Txt.startswith x ⟨#[45]⟩ = false := by
 have hl : x.length = 0 := by rw [len_cps, h]; rfl
 unfold Txt.startswith
 have e1 : decide (0 + (⟨#[45]⟩ : Str).length ≤ x.length) = false := decide_eq_false (by rw [Ty.one_sign, hl]; omega)
 rw [e1, Bool.false_and]
theorem figs_tx (m : Int) : figs (tx m).cps.toList = dg m.natAbs := by
 rw [tx_cps]
 split
 ·rfl
 ·cases e : dg m.natAbs with
  | nil => rfl
  | cons d r =>
   have := dg_all m.natAbs d (by rw [e]; exact List.mem_cons_self)
   show (if d = 45 then r else d :: r) = d :: r
   rw [if_neg (by omega)]
theorem map_all (cs : List Nat) : ((cs.map fun c => decide (c ∈ (Str.ofString "0123456789").cps.toList)).all id) = true ↔ NumText.AllDigits cs := by
 rw [List.all_eq_true]
 constructor
 ·intro h c hc
  have := h _ (List.mem_map_of_mem hc)
  have m : c ∈ (Str.ofString "0123456789").cps.toList := of_decide_eq_true this
  have e : (Str.ofString "0123456789").cps.toList = [48, 49, 50, 51, 52, 53, 54, 55, 56, 57] := by decide +kernel
  rw [e] at m
  simp at m
  omega
 ·intro h b hb
  obtain ⟨c, hc, rfl⟩ := List.mem_map.mp hb
  exact decide_eq_true (figs_mem (h c hc))
theorem sc_ap : FnScope ["text", "figures"] ["text"] (defScope s_ap) := sq
theorem ok_ap {C : Addr} {tkF tkM : Tok} (D : Def K mg "read_whole" s_ap ["text"]) (m_len : mg "len" = none) (m_all : mg "all" = none) (m_int : mg "int" = none) (m_bz : mg "FIGURES" = some (.str "0123456789" tkF)) (m_ae : mg "MOST_FIGURES" = some (.int 60 tkM))
  (m_c8 : mg "NoText" = some (.ref C)) (q_c8 : PySem.W.excIn K C bmVE "ValueError.__new__" = true) : Fn P w K mg base (CXr P w) 1 "read_whole" ["text"] (spRW C) := by
 refine D.okX sc_ap (fun vs H Q E h => ?_) (fun f cdv A outer s H vs Q E hr h => ?_)
 ·obtain ⟨x, rfl, _⟩ := h
  rfl
 obtain ⟨x, rfl, hx, q, qe⟩ := h
 have hl := hx.len
 have hz : x.length ≤ sizeLine := Nat.le_trans hl (by decide)
 have sz : (1 : Nat) ≤ sizeLine := by decide
 have tail : ∃ t, PSs (cxr P w K mg base ["text", "figures"] "read_whole" (defScope s_ap) f cdv A outer s H E) ((defBody s_ap).drop 1) t ∧ ∀ g : Str, g.cps.toList = figs x.cps.toList → t { nx := fun _ H' => Q .non H', rt := Q } [some (.str x), some (.str g)] H := by
  refine ⟨_, (pss_cons (ps_if (pt_not (pt_chain op_le op_le pe_int (pe_callB call_len_str rfl m_len b_len (pac (pv 1) pa_nil)) (pe_glob (v := .int 60) rfl m_ae ⟨_, rfl⟩))) (pss_one (ps_raise PySem.F.excBase_ValueError m_c8 q_c8 hr.hd (pac pe_str pa_nil))) pss_nil) (pss_cons (ps_if (pt_not (pt_val (pe_callB (call_allB rfl) rfl m_all b_all (pac (pe_comp (tn := ["sign"]) (fr := []) (caps := []) rfl ⟨rfl, by decide +kernel, rfl, by decide +kernel, by decide +kernel, rfl, trivial, trivial⟩ (pi_str (pv 1)) (fun _ _ _ _ => (pg_name (i := 0) (show (["sign"] : List Str).Nodup from by decide +kernel) rfl (Or.inl rfl))) (fun _ _ _ _ => pf_nil) (fun _ _ _ _ => (pe_cmpR op_in_str (pv 0) (pe_glob (v := .str "0123456789") rfl m_bz ⟨_, rfl⟩) rfl))) pa_nil)))) (pss_one (ps_raise PySem.F.excBase_ValueError m_c8 q_c8 hr.hd (pac (pe_join (pj_cons pe_str (pj_cons (pe_rep (pv 0)) pj_nil))) pa_nil))) pss_nil) (pss_one (ps_ret (pe_callTy call_int_text rfl m_int b_int (pac (pv 0) pa_nil)))))), ?_⟩
  intro g hg
  have gl : g.length = (figs x.cps.toList).length := by rw [len_cps, hg]
  have gx : g.length ≤ 400 := by
   rw [gl]
   rw [len_cps] at hl
   cases e : x.cps.toList with
   | nil => simp [figs]
   | cons d r =>
    rw [e] at hl
    unfold figs
    simp only at hl ⊢
    split <;> (simp at hl ⊢; omega)
  have gz' : g.length ≤ sizeLine := Nat.le_trans gx (by decide)
  have no1 : ¬ ((1 : Int) ≤ (g.length : Int) ∧ (g.length : Int) ≤ 60) → ∀ m : Int, m.natAbs < 10 ^ 60 → x ≠ tx m := fun n m hm e => by
   rw [e, figs_tx] at gl
   have h1 := dg_len (by decide) hm
   have h2 : 1 ≤ (dg m.natAbs).length := by
    cases z : dg m.natAbs with
    | nil => exact absurd z (dg_ne _)
    | cons c r => simp
   exact n (by omega)
  refine ⟨_, rfl, g, rfl, gz', _, _, rfl, rfl, _, rfl, ?_⟩
  refine ite2 (fun c1 => ?_) (fun c1 => ?_)
  ·have c1' : (1 : Int) ≤ (g.length : Int) := of_decide_eq_true c1
   refine ⟨_, _, rfl, rfl, _, rfl, ?_⟩
   refine ite2 (fun c2 => ?_) (fun c2 => ?_)
   ·have c2' : ¬ (g.length : Int) ≤ 60 := of_decide_eq_false (by simpa using c2)
    exact ⟨sz, qe (no1 fun z => c2' z.2) H (Same.refl H)⟩
   ·have c2' : (g.length : Int) ≤ 60 := of_decide_eq_true (by simpa using c2)
    refine ⟨_, rfl, g, rfl, fun D nD => blk_of (cap := []) g.cps.size (fun i => .str ⟨#[g.cps.getD i 0]⟩) (fun i ys H' => ys = ((g.cps.toList.take i).map fun c => decide (c ∈ (Str.ofString "0123456789").cps.toList)).map V.bl ∧ Same H H') ⟨rfl, same_new nD _⟩ ?_ (fun ys H' _ => rfl) ?_ ?_⟩
    ·intro i ys H' hi _
     refine ⟨hi, fun x H'' y => ?_⟩
     obtain ⟨e1, c, ec, ex⟩ := y
     refine ⟨e1, ?_⟩
     have : g.cps.getD i 0 = c := by
      rw [Array.getD_eq_getD_getElem?, ec]
      rfl
     rw [this]
     exact ex
    ·rintro i ys H' R hi ⟨hy, s1⟩ hD k
     have hi' : i < g.cps.toList.length := by simpa using hi
     have eg : g.cps.getD i 0 = g.cps.toList[i] := by simp [Array.getD, hi]
     refine ⟨_, rfl, _, _, rfl, rfl, ?_⟩
     rw [in_one]
     have yl : ys.length ≤ i := by rw [hy, List.length_map, List.length_map, List.length_take]; omega
     refine k _ _ hD (Nat.lt_of_lt_of_le (show ys.length < 401 by have : g.cps.size = g.length := rfl; omega) (by decide)) ⟨?_, fun b o e => ?_⟩
     ·rw [hy, List.take_succ_eq_append_getElem hi', List.map_append, List.map_append, eg]
      rfl
     ·rw [upd_ne (ne_of_none e nD)]
      exact s1 _ _ e
    ·rintro ys H' ⟨hy, s1⟩ hD
     have ht : g.cps.toList.take g.cps.size = g.cps.toList := List.take_of_length_le (by simp)
     rw [ht] at hy
     refine ⟨D, g.cps.toList.map fun c => decide (c ∈ (Str.ofString "0123456789").cps.toList), rfl, by rw [← hy]; exact SqL.of hD, _, rfl, ?_⟩
     by_cases ad : NumText.AllDigits g.cps.toList
     ·rw [(map_all _).mpr ad]
      refine rd_itNT ?_
      rw [hg] at ad
      have ne : figs x.cps.toList ≠ [] := fun z => by rw [z] at gl; simp at gl; omega
      have fl : (figs x.cps.toList).length ≤ 60 := by omega
      have vb := Nat.lt_of_lt_of_le (val_bound ad) (Nat.pow_le_pow_right (show 0 < 10 by decide) fl)
      have x640 : x.length ≤ 640 := Nat.le_trans hl (by decide)
      have x4300 : x.length ≤ 4300 := Nat.le_trans hl (by decide)
      obtain ⟨n, hn, bn⟩ : ∃ n : Int, PySem.intText? x = some n ∧ n.natAbs < 10 ^ 60 := by
       cases e : x.cps.toList with
       | nil => rw [e] at ne; exact absurd rfl ne
       | cons d r =>
        rw [e] at ad ne vb
        by_cases hd : d = 45
        ·subst hd
         exact ⟨_, intText_neg e ad ne x4300, by rw [Int.natAbs_neg]; exact vb⟩
        ·have f1 : figs (d :: r) = d :: r := if_neg hd
         rw [f1] at ad ne vb
         exact ⟨_, intText_digits (by rw [e]; exact ad) (by rw [e]; exact ne) x4300, by rw [e]; exact vb⟩
      refine ⟨_, rfl, x, n, rfl, hn, x640, q n _ bn s1 fun m hm e => ?_⟩
      rw [e, tx_reads (Nat.lt_of_lt_of_le hm (Nat.pow_le_pow_right (by decide) (by decide)))] at hn
      exact (Option.some.inj hn).symm
     ·have : ((g.cps.toList.map fun c => decide (c ∈ (Str.ofString "0123456789").cps.toList)).all id) = false := Bool.eq_false_iff.mpr fun z => ad ((map_all _).mp z)
      rw [this]
      refine rd_itNF ?_
      refine ⟨Str.ofString "not all of these are figures: ", rfl, (by decide +kernel), ?_⟩
      refine ⟨_, rfl, x, rfl, hx, fun y hy => ⟨y, rfl, hy, ?_⟩⟩
      refine ⟨sz, qe (fun m hm e => ad ?_) H' s1⟩
      rw [hg, e, figs_tx]
      exact dg_all _
  ·have c1' : ¬ (1 : Int) ≤ (g.length : Int) := of_decide_eq_false (Bool.eq_false_iff.mpr c1)
   refine ⟨_, rfl, ?_⟩
   refine rd_itNF ?_
   exact ⟨sz, qe (no1 fun z => c1' z.1) H (Same.refl H)⟩
 obtain ⟨t1, p1, q1⟩ := tail
 refine ⟨_, pss_cons (ps_set (i := 1) sc_ap.nd rfl (Or.inl rfl) (pe_ifExp (pt_val (pe_bm PySem.F.plainAttrs_str PySem.F.slot_str_startswith PySem.F.type_str_startswith mt_startswith (pv 0) (pac pe_str pa_nil))) (pe_slice sl_str (pv 0) (po_some pe_int) po_none) (pv 0))) p1, ?_⟩
 refine ⟨_, rfl, rfl, x, ⟨#[45]⟩, rfl, rfl, _, rfl, ?_⟩
 cases e : x.cps.toList with
 | nil =>
  rw [starts_nil e]
  refine iteF ?_
  exact ⟨_, rfl, q1 x (by rw [e]; rfl)⟩
 | cons d r =>
  rw [starts_one e]
  refine ite2 (fun c => ?_) (fun c => ?_)
  ·have hd : d = 45 := of_decide_eq_true c
   refine ⟨_, rfl, 1, rfl, x, rfl, hz, ?_⟩
   refine q1 _ ?_
   rw [slice_one e, e]
   exact (if_pos hd).symm
  ·have hd : d ≠ 45 := of_decide_eq_false (Bool.eq_false_iff.mpr c)
   refine ⟨_, rfl, q1 _ ?_⟩
   rw [e]
   exact (if_neg hd).symm
structure Good (q : Int × Int) : Prop where
 pos : 0 < q.2
 low : Int.gcd q.1 q.2 = 1
 top : q.1.natAbs < 10 ^ 60
 bot : q.2.natAbs < 10 ^ 60
theorem small_log {n : Int} (h : n.natAbs < 10 ^ 60) : n.natAbs.log2 < 1900 := by
 by_cases z : n.natAbs = 0
 ·rw [z]; decide
 ·exact (Nat.log2_lt z).mpr (Nat.lt_of_lt_of_le h (by decide +kernel))
theorem small_bits {n : Int} (h : n.natAbs < 10 ^ 60) : intBits n ≤ 200 := intBits_le_iff.mpr (Nat.lt_of_lt_of_le h (by decide +kernel))
theorem good_low {t b : Int} (hb : b ≠ 0) (h1 : t.natAbs < 10 ^ 60) (h2 : b.natAbs < 10 ^ 60) : Good (low t b) :=
 ⟨low_pos hb, low_gcd hb, Nat.lt_of_le_of_lt (low_top_le hb) h1, Nat.lt_of_le_of_lt (low_bot_le hb) h2⟩
def spRR (C : Addr) : Sp := fun vs H Q E => (∃ x : Str, vs = [.str x] ∧ Txk x ∧ (∀ q, Good q → x = nt q → gives H Q q) ∧ ((∀ q, Good q → x ≠ nt q) → ∀ H', Same H H' → E (.ref C) none H')) ∨
 (∃ u : V, vs = [u] ∧ NoStr H u ∧ E (.ref C) none H)
theorem txk_sub {x y : Str} (h : Txk x) (l : y.length ≤ x.length) (s : ∀ c ∈ y.cps.toList, c ∈ x.cps.toList) : Txk y := ⟨Nat.le_trans l h.len, fun c hc => h.cod c (s c hc)⟩
theorem nt_inj {q r : Int × Int} (hq : Good q) (hr : Good r) (h : nt q = nt r) : q = r := by
 have key : ∀ {q r : Int × Int}, Good q → Good r → nt q = nt r → q.2 = 1 → q = r := fun {q r} gq gr h e => by
  by_cases e' : r.2 = 1
  ·rw [nt_one e, nt_one e'] at h
   have h1 := tx_reads (n := q.1) (Nat.lt_of_lt_of_le gq.top (Nat.pow_le_pow_right (by decide) (by decide)))
   rw [h, tx_reads (Nat.lt_of_lt_of_le gr.top (Nat.pow_le_pow_right (by decide) (by decide)))] at h1
   exact Prod.ext (Option.some.inj h1).symm (e.trans e'.symm)
  ·exfalso
   rw [nt_one e, nt_two e'] at h
   have : (47 : Nat) ∈ (tx r.1 ++ slash ++ tx r.2).cps.toList := by
    rw [cps_append, cps_append, slash_cps]
    simp
   rw [← h] at this
   exact tx_no (by decide) (by decide) this
 by_cases e : q.2 = 1
 ·exact key hq hr h e
 ·by_cases e' : r.2 = 1
  ·exact (key hr hq h.symm e').symm
  ·have p1 := part_at (a := tx q.1) (b := tx q.2) (tx_no (by decide) (by decide))
   have p2 := part_at (a := tx r.1) (b := tx r.2) (tx_no (by decide) (by decide))
   rw [nt_two e, nt_two e'] at h
   have h' : tx q.1 ++ (⟨#[47]⟩ : Str) ++ tx q.2 = tx r.1 ++ (⟨#[47]⟩ : Str) ++ tx r.2 := h
   rw [h', p2] at p1
   have a : tx r.1 = tx q.1 := congrArg Prod.fst p1
   have b : tx r.2 = tx q.2 := congrArg (fun z => z.2.2) p1
   have up : ∀ {n : Int}, n.natAbs < 10 ^ 60 → n.natAbs < 10 ^ 4000 := fun h => Nat.lt_of_lt_of_le h (Nat.pow_le_pow_right (by decide) (by decide))
   have a1 := tx_reads (up hq.top)
   rw [← a, tx_reads (up hr.top)] at a1
   have b1 := tx_reads (up hq.bot)
   rw [← b, tx_reads (up hr.bot)] at b1
   exact Prod.ext (Option.some.inj a1).symm (Option.some.inj b1).symm
theorem sc_ao : FnScope ["text", "parts", "top", "bottom", "one"] ["text"] (defScope s_ao) := sq
theorem ok_ao {C CN : Addr} (D : Def K mg "read_ratio" s_ao ["text"]) (m_isinstance : mg "isinstance" = none) (m_str : mg "str" = none) (m_c8 : mg "NoText" = some (.ref C)) (q_c8 : PySem.W.excIn K C bmVE "ValueError.__new__" = true)
  (G_ap : Fn P w K mg base (CXr P w) 1 "read_whole" ["text"] (spRW C))
  (G_bh : Fn P w K mg base (CXr P w) 34 "ratio_of" ["top", "bottom"] (spRatio CN)) (G_an : Fn P w K mg base (CXr P w) 1 "show_ratio" ["one"] (spShowK K)) : Fn P w K mg base (CXr P w) 35 "read_ratio" ["text"] (spRR C) := by
 refine D.okX sc_ao (fun vs H Q E h => ?_) (fun f cdv A outer s H vs Q E hr h => ?_)
 ·rcases h with ⟨x, rfl, _⟩ | ⟨u, rfl, _⟩ <;> rfl
 have px := pass_up (P := P) (w := w) (K := K) (mg := mg) (base := base) (N := ["text", "parts", "top", "bottom", "one"]) (qual := "read_ratio") (scope := defScope s_ao) (f := f) (cdv := cdv) (A := A) (outer := outer) (s0 := s) (H0 := H) (E := E)
 have sz : (1 : Nat) ≤ sizeLine := by decide
 rcases h with ⟨x, rfl, hx, q, qe⟩ | ⟨u, rfl, hu, qe⟩
 ·have hz : x.length ≤ sizeLine := Nat.le_trans hx.len (by decide)
  have tail : ∃ t, PSs (cxr P w K mg base ["text", "parts", "top", "bottom", "one"] "read_ratio" (defScope s_ao) f cdv A outer s H E) ((defBody s_ao).drop 4) t ∧ ∀ (H1 : Hp) (o : Option V) (n m : Int), Same H H1 → n.natAbs < 10 ^ 60 → m.natAbs < 10 ^ 60 → (∀ r, Good r → x = nt r → r = (n, m)) →
    t { nx := fun _ H' => Q .non H', rt := Q } [some (.str x), o, some (.int n), some (.int m), none] H1 := by
   refine ⟨_, (pss_cons (ps_if (pt_cmpR op_eq (pv 3) pe_int (nomark _)) (pss_one (ps_raise PySem.F.excBase_ValueError m_c8 q_c8 hr.hd (pac pe_str pa_nil))) pss_nil) (pss_cons (ps_set (i := 4) sc_ao.nd rfl (Or.inl rfl) (pe_fn G_bh hr.mo px (pac (pv 2) (pac (pv 3) pa_nil)))) (pss_cons (ps_if (pt_cmpR op_ne (pe_fn G_an hr.mo px (pac (pv 4) pa_nil)) (pv 0) (nomark _)) (pss_one (ps_raise PySem.F.excBase_ValueError m_c8 q_c8 hr.hd (pac (pe_join (pj_cons pe_str (pj_cons (pe_rep (pv 0)) pj_nil))) pa_nil))) pss_nil) (pss_one (ps_ret (pv 4)))))), ?_⟩
   intro H1 o n m s1 hn hm hr'
   refine ⟨_, rfl, rfl, _, rfl, ?_⟩
   refine ite2 (fun c => ?_) (fun c => ?_)
   ·have e : m = 0 := by simpa using of_decide_eq_true c
    refine ⟨sz, qe (fun r gr z => ?_) H1 s1⟩
    have e' := hr' r gr z
    have p := gr.pos
    rw [e', e] at p
    exact absurd (show (0 : Int) < 0 from p) (by decide)
   ·have e : m ≠ 0 := by
     have := of_decide_eq_false (Bool.eq_false_iff.mpr c)
     intro z
     exact this (by rw [z])
    have gl := good_low e hn hm
    refine ⟨_, rfl, _, rfl, .inl ⟨n, m, rfl, e, Nat.le_trans (small_bits hm) (by decide), fun p H2 s2 e2 => ?_⟩⟩
    refine ⟨_, rfl, _, low n m, rfl, ⟨p, rfl, SqT.of e2⟩, small_log gl.top, small_log gl.bot, _, rfl, rfl, _, rfl, ?_⟩
    by_cases ez : nt (low n m) = x
    ·refine iteNS (congrArg V.str ez) ?_
     exact ⟨_, rfl, q _ gl ez.symm p H2 (s1.trans s2) e2⟩
    ·rw [decide_eq_false (fun z => ez (V.str.inj z))]
     refine rd_itNF ?_
     refine ⟨Str.ofString "not as a number is written: ", rfl, (by decide +kernel), ?_⟩
     refine ⟨_, rfl, x, rfl, hx, fun y hy => ⟨y, rfl, hy, ?_⟩⟩
     refine ⟨sz, qe (fun r gr z => ez ?_) H2 (s1.trans s2)⟩
     have e' := hr' r gr z
     have e3 : low n m = r := by
      rw [e']
      have h1 := gr.pos
      have h2 := gr.low
      rw [e'] at h1 h2
      exact low_self h1 h2
     rw [e3]
     exact z.symm
  obtain ⟨t4, p4, q4⟩ := tail
  refine ⟨_, (pss_cons (ps_if (pt_not (pt_val (pe_callB call_isi rfl m_isinstance b_isinstance (pac (pv 0) (pac (pe_ty rfl m_str b_str) pa_nil))))) (pss_one (ps_raise PySem.F.excBase_ValueError m_c8 q_c8 hr.hd (pac pe_str pa_nil))) pss_nil) (pss_cons (ps_set (i := 1) sc_ao.nd rfl (Or.inl rfl) (pe_bm PySem.F.plainAttrs_str PySem.F.slot_str_partition PySem.F.type_str_partition mt_partition (pv 0) (pac pe_str pa_nil))) (pss_cons (ps_set (i := 2) sc_ao.nd rfl (Or.inl rfl) (pe_fn G_ap hr.mo px (pac (pe_tx (pv 1)) pa_nil))) (pss_cons (ps_set (i := 3) sc_ao.nd rfl (Or.inl rfl) (pe_ifExp (pt_cmpR op_eq (pe_tx (pv 1)) pe_str (nomark _)) (pe_fn G_ap hr.mo px (pac (pe_tx (pv 1)) pa_nil)) pe_int)) p4)))), ?_⟩
  refine ⟨_, rfl, _, _, _, true, rfl, rfl, .str x, k_ss, _, rfl, ?_⟩
  refine ite2 (fun c => nomatch c) (fun _ => ?_)
  refine ⟨_, rfl, rfl, x, ⟨#[47]⟩, rfl, rfl, rfl, hz, fun p np => ?_⟩
  rcases partition_whole x ⟨#[47]⟩ with ⟨e1, hn⟩ | ⟨i, e1, hi, hk⟩
  ·have no47 : 47 ∉ x.cps.toList := fun m => by obtain ⟨i, hi⟩ := (mem_iff_at x 47).mp m; exact hn i hi
   have one : ∀ r, Good r → x = nt r → r.2 = 1 ∧ x = tx r.1 := fun r gr z => by
    by_cases e : r.2 = 1
    ·exact ⟨e, by rw [z, nt_one e]⟩
    ·exfalso
     refine no47 ?_
     rw [z, nt_two e, cps_append, cps_append, slash_cps]
     simp
   rw [e1]
   have s1 := same_new np (.tup [.str x, .str Str.empty, .str Str.empty])
   have h1 : upd H p (.tup [.str x, .str Str.empty, .str Str.empty]) p = some (.tup [.str x, .str Str.empty, .str Str.empty]) := upd_same
   refine ⟨_, rfl, p, _, _, _, rfl, rfl, SqT.of h1, rfl, x, rfl, hx, fun n H2 hn2 s2 hm2 => ?_, fun nt' H2 s2 => qe (fun r gr z => nt' r.1 gr.top (one r gr z).2) H2 (s1.trans s2)⟩
   refine ⟨_, rfl, p, _, _, _, rfl, rfl, SqT.of (s2 _ _ h1), rfl, rfl, _, rfl, ?_⟩
   refine ite2 (fun c => absurd (of_decide_eq_true c) (by decide +kernel)) (fun _ => ?_)
   refine q4 H2 (some (.ref p)) n 1 (s1.trans s2) hn2 (by decide +kernel) fun r gr z => ?_
   obtain ⟨a, b⟩ := one r gr z
   exact Prod.ext (hm2 r.1 gr.top b).symm a
  ·rw [e1]
   have sub : ∀ (i j : Nat) (c : Nat), c ∈ (Builtin.Str.strSub x i j).cps.toList → c ∈ x.cps.toList := fun i j c hc => by
    have : (Builtin.Str.strSub x i j).cps.toList = (x.cps.toList.take j).drop i := by
     show (x.cps.extract i j).toList = _
     simp [List.extract_eq_drop_take', Array.toList_extract]
    rw [this] at hc
    exact List.mem_of_mem_take (List.mem_of_mem_drop hc)
   have subl : ∀ (i j : Nat), (Builtin.Str.strSub x i j).length ≤ x.length := fun i j => by
    show (x.cps.extract i j).size ≤ x.cps.size
    simp
    omega
   have ka := txk_sub hx (subl 0 i) (sub 0 i)
   have kb := txk_sub hx (subl (i + (⟨#[47]⟩ : Str).length) x.length) (sub (i + (⟨#[47]⟩ : Str).length) x.length)
   have two : ∀ r, Good r → x = nt r → Builtin.Str.strSub x 0 i = tx r.1 ∧ Builtin.Str.strSub x (i + (⟨#[47]⟩ : Str).length) x.length = tx r.2 := fun r gr z => by
    by_cases e : r.2 = 1
    ·exfalso
     have : (47 : Nat) ∈ x.cps.toList := (mem_iff_at x 47).mpr ⟨i, hi⟩
     rw [z, nt_one e] at this
     exact tx_no (by decide) (by decide) this
    ·have p1 := part_at (a := tx r.1) (b := tx r.2) (tx_no (by decide) (by decide))
     have z' : x = tx r.1 ++ (⟨#[47]⟩ : Str) ++ tx r.2 := by rw [z, nt_two e]; rfl
     rw [← z', e1] at p1
     exact ⟨congrArg Prod.fst p1, congrArg (fun z => z.2.2) p1⟩
   generalize Builtin.Str.strSub x 0 i = sa at ka two ⊢
   generalize Builtin.Str.strSub x (i + (⟨#[47]⟩ : Str).length) x.length = sb at kb two ⊢
   have s1 := same_new np (.tup [.str sa, .str ⟨#[47]⟩, .str sb])
   have h1 : upd H p (.tup [.str sa, .str ⟨#[47]⟩, .str sb]) p = some (.tup [.str sa, .str ⟨#[47]⟩, .str sb]) := upd_same
   refine ⟨_, rfl, p, _, _, _, rfl, rfl, SqT.of h1, rfl, sa, rfl, ka, fun n H2 hn2 s2 hm2 => ?_, fun nt' H2 s2 => qe (fun r gr z => nt' r.1 gr.top (two r gr z).1) H2 (s1.trans s2)⟩
   refine ⟨_, rfl, p, _, _, _, rfl, rfl, SqT.of (s2 _ _ h1), rfl, rfl, _, rfl, ?_⟩
   refine ite2 (fun _ => ?_) (fun c => absurd (decide_eq_true (by decide +kernel)) c)
   refine ⟨_, rfl, p, _, _, _, rfl, rfl, SqT.of (s2 _ _ h1), rfl, sb, rfl, kb, fun m H3 hn3 s3 hm3 => ?_, fun nt' H3 s3 => qe (fun r gr z => nt' r.2 gr.bot (two r gr z).2) H3 ((s1.trans s2).trans s3)⟩
   refine q4 H3 (some (.ref p)) n m ((s1.trans s2).trans s3) hn2 hn3 fun r gr z => ?_
   obtain ⟨a, b⟩ := two r gr z
   exact Prod.ext (hm2 r.1 gr.top a).symm (hm3 r.2 gr.bot b).symm
 ·refine ⟨_, (pss_cons (ps_if (pt_not (pt_val (pe_callB call_isi rfl m_isinstance b_isinstance (pac (pv 0) (pac (pe_ty rfl m_str b_str) pa_nil))))) (pss_one (ps_raise PySem.F.excBase_ValueError m_c8 q_c8 hr.hd (pac pe_str pa_nil))) pss_nil)
  (pss_cons (ps_set (i := 1) sc_ao.nd rfl (Or.inl rfl) (pe_bm PySem.F.plainAttrs_str PySem.F.slot_str_partition PySem.F.type_str_partition mt_partition (pv 0) (pac pe_str pa_nil)))
  (pss_cons (ps_set (i := 2) sc_ao.nd rfl (Or.inl rfl) (pe_fn G_ap hr.mo px (pac (pe_tx (pv 1)) pa_nil)))
  (pss_cons (ps_set (i := 3) sc_ao.nd rfl (Or.inl rfl) (pe_ifExp (pt_cmpR op_eq (pe_tx (pv 1)) pe_str (nomark _)) (pe_fn G_ap hr.mo px (pac (pe_tx (pv 1)) pa_nil)) pe_int))
  (pss_cons (ps_if (pt_cmpR op_eq (pv 3) pe_int (nomark _)) (pss_one (ps_raise PySem.F.excBase_ValueError m_c8 q_c8 hr.hd (pac pe_str pa_nil))) pss_nil)
  (pss_cons (ps_set (i := 4) sc_ao.nd rfl (Or.inl rfl) (pe_fn G_bh hr.mo px (pac (pv 2) (pac (pv 3) pa_nil))))
  (pss_cons (ps_if (pt_cmpR op_ne (pe_fn G_an hr.mo px (pac (pv 4) pa_nil)) (pv 0) (nomark _)) (pss_one (ps_raise PySem.F.excBase_ValueError m_c8 q_c8 hr.hd (pac (pe_join (pj_cons pe_str (pj_cons (pe_rep (pv 0)) pj_nil))) pa_nil))) pss_nil)
  (pss_one (ps_ret (pv 4)))))))))), ?_⟩
  obtain ⟨t, ty, kt⟩ := hu.ty (K := K)
  refine ⟨_, rfl, _, _, t, false, rfl, rfl, ty, kt, _, rfl, ?_⟩
  refine ite2 (fun _ => ?_) (fun c => absurd rfl c)
  exact ⟨sz, qe⟩
def spNum (K : Frag) : Sp := fun vs H Q _ => ∃ x : Str, vs = [.str x] ∧ Txk x ∧ (∀ r : Rat, Good (qr r) → x = txq r → ∀ v H', Same H H' → NmR K H' v r → Q v H') ∧ ((∀ r : Rat, Good (qr r) → x ≠ txq r) → ∀ H', Same H H' → Q .non H')
theorem sc_b5 : FnScope ["word"] ["word"] (defScope s_b5) := sq
theorem ok_b5 {C : Addr} (D : Def K mg "number_of" s_b5 ["word"]) (m_c8 : mg "NoText" = some (.ref C)) (e1 : PySem.W.exmOne K (.ref C) (.ref C) = some true) (hC : (PySem.W.clsIn K C).isSome = true)
  (G_ao : Fn P w K mg base (CXr P w) 35 "read_ratio" ["text"] (spRR C)) : Fn P w K mg base (CXr P w) 36 "number_of" ["word"] (spNum K) := by
 refine D.ok sc_b5 (fun vs H Q E h => ?_) (fun f cdv A outer s H vs Q E hr h => ?_)
 ·obtain ⟨x, rfl, _⟩ := h
  rfl
 obtain ⟨x, rfl, hx, q1, q2⟩ := h
 refine ⟨_, (pss_one (ps_try ⟨rfl, rfl⟩ (psx_ret (px_fn G_ao hr.mo (pac (pv 0) pa_nil))) (ph_no (ClsN.own m_c8) (fun a => (pss_one (ps_ret pe_non))) ph_nil))), ?_⟩
 refine ⟨_, rfl, .inl ⟨x, rfl, hx, fun q g e p H' s e2 => ?_, fun no H' s => ?_⟩⟩
 ·have eq := qr_of g.pos g.low
  refine q1 (vl q) (by rw [← eq]; exact g) (by rw [e]; unfold txq; rw [← eq]) _ H' s ⟨p, rfl, ?_⟩
  rw [← eq]
  exact SqT.of e2
 ·exact ⟨true, e1, q2 (fun r g e => no (qr r) g e) H' s⟩
def nameSign (c : Nat) : Bool := decide (c ∈ ("abcdefghijklmnopqrstuvwxyz" : Str).cps.toList) || decide (c ∈ ("0123456789" : Str).cps.toList)
def isName (x : Str) : Bool := !decide (V.str x = V.str "") && x.cps.toList.all nameSign
def spIsName : Sp := fun vs H Q _ => ∃ x : Str, vs = [.str x] ∧ x.length ≤ 400 ∧ ∀ H', Same H H' → Q (.bl (isName x)) H'
theorem sc_by : FnScope ["word"] ["word"] (defScope s_by) := sq
theorem ok_by (hM : Mute CX) {tkF tkL : Tok} (D : Def K mg "is_name" s_by ["word"]) (m_all : mg "all" = none) (m_bz : mg "FIGURES" = some (.str "0123456789" tkF)) (m_c1 : mg "LETTERS" = some (.str "abcdefghijklmnopqrstuvwxyz" tkL)) : Fn P w K mg base CX 1 "is_name" ["word"] spIsName := by
 refine D.ok sc_by (fun vs H Q E h => ?_) (fun f cdv A outer s H vs Q E hr h => ?_)
 ·obtain ⟨x, rfl, _⟩ := h
  rfl
 obtain ⟨x, rfl, hx, q⟩ := h
 have hx' : x.cps.size ≤ 400 := hx
 refine ⟨_, (pss_one (ps_ret (pe_and (pe_cmpR op_ne (pv 0) pe_str (nomark _)) (pe_one (pe_callB (call_allB rfl) rfl m_all b_all (pac (pe_comp (tn := ["sign"]) (fr := []) (caps := []) rfl ⟨rfl, by decide +kernel, rfl, by decide +kernel, by decide +kernel, rfl, trivial, trivial⟩ (pi_str (pv 0)) (fun _ _ _ _ => (pg_name (i := 0) (show (["sign"] : List Str).Nodup from by decide +kernel) rfl (Or.inl rfl))) (fun _ _ _ _ => pf_nil) (fun _ _ _ _ => (pe_or (pe_cmpR op_in_str (pv 0) (pe_glob (v := .str "abcdefghijklmnopqrstuvwxyz") rfl m_c1 ⟨_, rfl⟩) rfl) (pe_one (pe_cmpR op_in_str (pv 0) (pe_glob (v := .str "0123456789") rfl m_bz ⟨_, rfl⟩) rfl))))) pa_nil)))))), ?_⟩
 refine ⟨_, rfl, rfl, _, rfl, ?_⟩
 by_cases c : V.str x = V.str ""
 ·rw [decide_eq_true c]
  refine iteF ?_
  have := q H (Same.refl H)
  unfold isName at this
  rw [decide_eq_true c] at this
  exact this
 rw [decide_eq_false c]
 refine iteT ?_
 refine ⟨_, rfl, x, rfl, fun D nD => comp_str (x := x) (fun i v _ => ∃ c, x.cps[i]? = some c ∧ v = .bl (nameSign c)) nD (Nat.lt_of_le_of_lt hx' (by decide)) (fun _ _ _ _ _ _ _ h => h) (fun i c H2 R hc s2 k => ?_) (fun ys H2 ly hy s2 hD => ?_)⟩
 ·refine ⟨_, rfl, _, _, rfl, rfl, ?_⟩
  rw [in_one]
  by_cases c1 : c ∈ ("abcdefghijklmnopqrstuvwxyz" : Str).cps.toList
  ·rw [decide_eq_true c1]
   refine ⟨_, rfl, iteT (k _ H2 (Same.refl _) ⟨c, hc, ?_⟩)⟩
   unfold nameSign
   rw [decide_eq_true c1]
   rfl
  ·rw [decide_eq_false c1]
   refine ⟨_, rfl, iteF ⟨_, rfl, _, _, rfl, rfl, ?_⟩⟩
   rw [in_one]
   refine k _ H2 (Same.refl _) ⟨c, hc, ?_⟩
   unfold nameSign
   rw [decide_eq_false c1]
   rfl
 ·have ey : ys = (x.cps.toList.map nameSign).map V.bl := by
   refine List.ext_getElem? fun i => ?_
   rw [List.getElem?_map, List.getElem?_map]
   by_cases hi : i < ys.length
   ·obtain ⟨c, e1, e2⟩ := hy i ys[i] (gE hi)
    rw [gE hi, e2]
    have e3 : x.cps.toList[i]? = some c := by rw [Array.getElem?_toList]; exact e1
    rw [e3]
    rfl
   ·rw [List.getElem?_eq_none (by omega)]
    have e3 : x.cps.toList[i]? = none := List.getElem?_eq_none (by rw [Array.length_toList]; omega)
    rw [e3]
    rfl
  refine ⟨D, x.cps.toList.map nameSign, rfl, by rw [← ey]; exact SqL.of hD, ?_⟩
  have := q H2 s2
  unfold isName at this
  rw [decide_eq_false c] at this
  rw [List.all_map]
  exact this
inductive RV where
 | w (s : Str)
 | q (r : Rat)
def RvR (K : Frag) (H : Hp) (v : V) : RV → Prop
 | .w s => v = .str s
 | .q r => NmR K H v r
theorem RvR.sameT {K : Frag} {H H' : Hp} {v : V} {a : RV} (h : RvR K H v a) (s : SameT H H') : RvR K H' v a := by
 cases a with
 | w x => exact h
 | q r => exact NmR.sameT h s
def OvR (K : Frag) (H : Hp) (v : V) : Option RV → Prop
 | none => v = .non
 | some a => RvR K H v a
theorem OvR.sameT {K : Frag} {H H' : Hp} {v : V} {a : Option RV} (h : OvR K H v a) (s : SameT H H') : OvR K H' v a := by
 cases a with
 | none => exact h
 | some r => exact RvR.sameT h s
open Classical in
noncomputable def numOf (x : Str) : Option Rat := if h : ∃ r : Rat, Good (qr r) ∧ x = txq r then some h.choose else none
theorem numOf_txq {r : Rat} (g : Good (qr r)) : numOf (txq r) = some r := by
 unfold numOf
 have h : ∃ r' : Rat, Good (qr r') ∧ txq r = txq r' := ⟨r, g, rfl⟩
 rw [dif_pos h]
 have := h.choose_spec
 exact congrArg some (qr_inj (nt_inj g this.1 this.2)).symm
theorem numOf_no {x : Str} (h : ∀ r : Rat, Good (qr r) → x ≠ txq r) : numOf x = none := by
 unfold numOf
 rw [dif_neg]
 rintro ⟨r, g, e⟩
 exact h r g e
noncomputable def valOf (k x : Str) : Option RV :=
 if V.str k = V.str "NUMBER" then (numOf x).map RV.q else
 if V.str k = V.str "NAME" then (if (isName x && decide ((x.length : Int) ≤ 20)) = true then some (.w x) else none) else
 if V.str k = V.str "WORD" then (if isName x = true then some (.w x) else none) else
 if V.str x = V.str k then some (.w x) else none
def spVal (K : Frag) : Sp := fun vs H Q _ => ∃ k x : Str, vs = [.str k, .str x] ∧ Txk x ∧ V.str k ≠ V.str "MANY" ∧ ∀ v H', Same H H' → OvR K H' v (valOf k x) → Q v H'
theorem sc_bm : FnScope ["kind", "word"] ["kind", "word"] (defScope s_bm) := sq
theorem ok_bm (hM : Mute CX) {tkN : Tok} (D : Def K mg "value_of" s_bm ["kind", "word"]) (m_len : mg "len" = none) (m_af : mg "LONGEST_NAME" = some (.int 20 tkN)) (G_b5 : Fn P w K mg base CX 36 "number_of" ["word"] (spNum K)) (G_by : Fn P w K mg base CX 1 "is_name" ["word"] spIsName) : Fn P w K mg base CX 37 "value_of" ["kind", "word"] (spVal K) := by
 refine D.ok sc_bm (fun vs H Q E h => ?_) (fun f cdv A outer s H vs Q E hr h => ?_)
 ·obtain ⟨k, x, rfl, _⟩ := h
  rfl
 obtain ⟨k, x, rfl, hx, nm, q⟩ := h
 have px := passM (X := (cxOf (CXr P w) P w K mg base ["kind", "word"] "value_of" (defScope s_bm) f cdv A outer s H E)) hM
 have x4 := hx.len
 have xz : x.length ≤ sizeLine := Nat.le_trans x4 (by decide)
 refine ⟨_, (pss_cons (ps_if (pt_cmpR op_eq (pv 0) pe_str (nomark _)) (pss_one (ps_ret (pe_fn G_b5 hr.mo px (pac (pv 1) pa_nil)))) pss_nil)
  (pss_cons (ps_if (pt_cmpR op_eq (pv 0) pe_str (nomark _)) (pss_one (ps_never)) pss_nil)
  (pss_cons (ps_if (pt_cmpR op_eq (pv 0) pe_str (nomark _)) (pss_one (ps_ret (pe_ifExp (PW.pt (pw_and (pt_val (pe_fn G_by hr.mo px (pac (pv 1) pa_nil))) (pw_and1 (pt_cmpR op_le (pe_callB call_len_str rfl m_len b_len (pac (pv 1) pa_nil)) (pe_glob (v := .int 20) rfl m_af ⟨_, rfl⟩) (nomark _))))) (pv 1) pe_non))) pss_nil)
  (pss_cons (ps_if (pt_cmpR op_eq (pv 0) pe_str (nomark _)) (pss_one (ps_ret (pe_ifExp (pt_val (pe_fn G_by hr.mo px (pac (pv 1) pa_nil))) (pv 1) pe_non))) pss_nil)
  (pss_one (ps_ret (pe_ifExp (pt_cmpR op_eq (pv 1) (pv 0) (nomark _)) (pv 1) pe_non))))))), ?_⟩
 refine ⟨_, rfl, rfl, _, rfl, ?_⟩
 refine ite2 (fun c => ?_) (fun c => ?_)
 ·have c' := of_decide_eq_true c
  refine ⟨_, rfl, x, rfl, hx, fun r g e v H' s h => q v H' s ?_, fun no H' s => q _ H' s ?_⟩
  ·unfold valOf
   rw [if_pos c', e, numOf_txq g]
   exact h
  ·unfold valOf
   rw [if_pos c', numOf_no no]
   rfl
 have c1 := of_decide_eq_false (Bool.eq_false_iff.mpr c)
 refine ⟨_, rfl, rfl, _, rfl, ?_⟩
 refine ite2 (fun c => absurd (of_decide_eq_true c) nm) (fun _ => ?_)
 refine ⟨_, rfl, rfl, _, rfl, ?_⟩
 refine ite2 (fun c => ?_) (fun c => ?_)
 ·have c' := of_decide_eq_true c
  refine ⟨_, rfl, x, rfl, x4, fun H' s => ?_⟩
  have e : valOf k x = if (isName x && decide ((x.length : Int) ≤ 20)) = true then some (.w x) else none := by
   unfold valOf
   rw [if_neg c1, if_pos c']
  refine ⟨_, rfl, ?_⟩
  refine ite2 (fun n1 => ?_) (fun n1 => ?_)
  ·refine ⟨_, rfl, x, rfl, xz, _, _, rfl, rfl, _, rfl, ?_⟩
   refine ite2 (fun n2 => ?_) (fun n2 => ?_)
   ·refine ⟨_, rfl, q _ H' s ?_⟩
    rw [e, n1, n2]
    rfl
   ·refine q _ H' s ?_
    rw [e, Bool.eq_false_iff.mpr n2, Bool.and_false]
    rfl
  ·refine q _ H' s ?_
   rw [e, Bool.eq_false_iff.mpr n1]
   rfl
 have c2 := of_decide_eq_false (Bool.eq_false_iff.mpr c)
 refine ⟨_, rfl, rfl, _, rfl, ?_⟩
 refine ite2 (fun c => ?_) (fun c => ?_)
 ·have c' := of_decide_eq_true c
  refine ⟨_, rfl, x, rfl, x4, fun H' s => ?_⟩
  have e : valOf k x = if isName x = true then some (.w x) else none := by
   unfold valOf
   rw [if_neg c1, if_neg c2, if_pos c']
  refine ⟨_, rfl, ?_⟩
  refine ite2 (fun n1 => ?_) (fun n1 => ?_)
  ·refine ⟨_, rfl, q _ H' s ?_⟩
   rw [e, if_pos n1]
   rfl
  ·refine q _ H' s ?_
   rw [e, if_neg n1]
   rfl
 have c3 := of_decide_eq_false (Bool.eq_false_iff.mpr c)
 have e : valOf k x = if V.str x = V.str k then some (.w x) else none := by
  unfold valOf
  rw [if_neg c1, if_neg c2, if_neg c3]
 refine ⟨_, rfl, _, rfl, rfl, _, rfl, ?_⟩
 refine ite2 (fun c => ?_) (fun c => ?_)
 ·refine ⟨_, rfl, q _ H (Same.refl H) ?_⟩
  rw [e, if_pos (of_decide_eq_true c)]
  rfl
 ·refine q _ H (Same.refl H) ?_
  rw [e, if_neg (of_decide_eq_false (Bool.eq_false_iff.mpr c))]
  rfl
def allSome : List (Option RV) → Option (List RV)
 | [] => some []
 | none :: _ => none
 | some a :: t => (allSome t).map (a :: ·)
noncomputable def fit (ks ws : List Str) : Option (List RV) := if ks.length = ws.length then allSome (List.zipWith valOf ks ws) else none
theorem all_some {K : Frag} {H : Hp} : ∀ {us : List V} {os : List (Option RV)}, Paired (OvR K H) us os → (us.any (fun u => decide (u = V.non)) = true ∧ allSome os = none) ∨ (us.any (fun u => decide (u = V.non)) = false ∧ ∃ rs, allSome os = some rs ∧ Paired (RvR K H) us rs)
 | [], [], .nil => .inr ⟨rfl, [], rfl, .nil⟩
 | u :: us, o :: os, .cons h t => by
  rw [List.any_cons]
  cases o with
  | none =>
   have e : u = V.non := h
   rw [decide_eq_true e]
   exact .inl ⟨rfl, rfl⟩
  | some a =>
   have ne : u ≠ V.non := fun e => by
    rw [e] at h
    cases a with
    | w x => exact V.noConfusion (show V.non = V.str x from h)
    | q r =>
     obtain ⟨p, z, _⟩ := (show NmK K H V.non (qr r) from h)
     cases z
   rw [decide_eq_false ne, Bool.false_or]
   rcases all_some t with ⟨e1, e2⟩ | ⟨e1, rs, e2, e3⟩
   ·refine .inl ⟨e1, ?_⟩
    show (allSome os).map (a :: ·) = none
    rw [e2]
    rfl
   ·refine .inr ⟨e1, a :: rs, ?_, .cons h e3⟩
    show (allSome os).map (a :: ·) = some (a :: rs)
    rw [e2]
    rfl
def spFit (K : Frag) : Sp := fun vs H Q _ => ∃ (l1 l2 : Addr) (ks ws : List Str), vs = [.ref l1, .ref l2] ∧ H l1 = some (.lst (ks.map V.str)) ∧ H l2 = some (.lst (ws.map V.str)) ∧ ks.length ≤ 100 ∧ ws.length ≤ 100 ∧ (∀ x ∈ ws, Txk x) ∧ (ks.length = ws.length → ∀ k ∈ ks, V.str k ≠ V.str "MANY") ∧
 (fit ks ws = none → ∀ H', Same H H' → Q .non H') ∧ ∀ rs, fit ks ws = some rs → ∀ (l : Addr) (us : List V) (H' : Hp), Same H H' → H l = none → H' l = some (.lst us) → Paired (RvR K H') us rs → Q (.ref l) H'
theorem sc_c5 : FnScope ["kinds", "words", "values"] ["kinds", "words"] (defScope s_c5) := sq
theorem ok_c5 (hM : Mute CX) (D : Def K mg "fitted" s_c5 ["kinds", "words"]) (m_len : mg "len" = none) (m_zip : mg "zip" = none) (G_bm : Fn P w K mg base CX 37 "value_of" ["kind", "word"] (spVal K)) : Fn P w K mg base CX 38 "fitted" ["kinds", "words"] (spFit K) := by
 refine D.ok sc_c5 (fun vs H Q E h => ?_) (fun f cdv A outer s H vs Q E hr h => ?_)
 ·obtain ⟨l1, l2, ks, ws, rfl, _⟩ := h
  rfl
 obtain ⟨l1, l2, ks, ws, rfl, h1, h2, lk, lw, tk, nm, qn, qs⟩ := h
 refine ⟨_, (pss_cons (ps_if (pt_cmpR op_ne (pe_callB call_len_seq rfl m_len b_len (pac (pv 0) pa_nil)) (pe_callB call_len_seq rfl m_len b_len (pac (pv 1) pa_nil)) (nomark _)) (pss_one (ps_ret pe_non)) pss_nil)
  (pss_cons (ps_setC (i := 2) sc_c5.nd rfl (Or.inl rfl) (tn := ["kind", "word"]) (fr := []) (caps := []) rfl ⟨rfl, by decide +kernel, rfl, by decide +kernel, by decide +kernel, rfl, trivial, trivial⟩ (pi_zip rfl m_zip (pac (pv 0) (pac (pv 1) pa_nil))) (fun _ _ _ _ => (pg_tupK (K := K) (n := 2) rfl rfl (pgs_cons (pg_name (i := 0) (show (["kind", "word"] : List Str).Nodup from by decide +kernel) rfl (Or.inl rfl)) (pgs_cons (pg_name (i := 1) (show (["kind", "word"] : List Str).Nodup from by decide +kernel) rfl (Or.inl rfl)) pgs_nil)))) (fun _ _ _ _ => pf_nil) (fun _ _ _ _ => (pe_fn G_bm hr.mo (passB (by first | assumption | exact CXr.mute) rfl) (pac (pv 0) (pac (pv 1) pa_nil)))))
  (pss_one (ps_ret (pe_ifExp (pt_cmpR (op_inNone hr.units) pe_non (pv 2) rfl) pe_non (pv 2)))))), ?_⟩
 refine ⟨_, rfl, l1, _, rfl, .inl (SqL.of h1), _, rfl, l2, _, rfl, .inl (SqL.of h2), rfl, _, rfl, ?_⟩
 rw [List.length_map, List.length_map]
 refine ite2 (fun c => ?_) (fun c => ?_)
 ·have ne : ks.length ≠ ws.length := fun e => by rw [e] at c; simp at c
  exact qn (by unfold fit; rw [if_neg ne]) H (Same.refl H)
 have ee : ks.length = ws.length := by
  have := Bool.eq_false_iff.mpr c
  simp at this
  omega
 have ef : fit ks ws = allSome (List.zipWith valOf ks ws) := by unfold fit; rw [if_pos ee]
 refine ⟨_, rfl, _, rfl, l1, l2, rfl, ⟨_, SqL.of h1⟩, ⟨_, SqL.of h2⟩, fun D nD => comp_zip (K := K) (a := l1) (b := l2) (xs := ks.map V.str) (ys := ws.map V.str) (fun i v H' => ∃ k x, ks[i]? = some k ∧ ws[i]? = some x ∧ OvR K H' v (valOf k x)) nD (by rw [List.length_map]; exact Nat.lt_of_le_of_lt lk (by decide)) (by rw [List.length_map, List.length_map, ee]) (fun H' s => SqL.of (s _ _ h1)) (fun H' s => SqL.of (s _ _ h2)) (fun i v H2 H3 ys e k h => ?_) (fun i x y H2 R ex ey s2 k => ?_) (fun zs H2 lz hz s2 hD => ?_)⟩
 ·obtain ⟨k', x', a1, a2, a3⟩ := h
  refine ⟨k', x', a1, a2, a3.sameT fun b xs r => ?_⟩
  rcases r with r | ⟨o, r⟩
  ·exact .inl (k _ _ (fun z => by rw [z, e] at r; cases r) r)
  ·exact .inr ⟨o, k _ _ (fun z => by rw [z, e] at r; cases r) r⟩
 ·rw [List.getElem?_map] at ex ey
  obtain ⟨k', e1, rfl⟩ := Option.map_eq_some_iff.mp ex
  obtain ⟨x', e2, rfl⟩ := Option.map_eq_some_iff.mp ey
  exact ⟨_, rfl, _, rfl, k', x', rfl, tk x' (List.mem_of_getElem? e2), nm ee k' (List.mem_of_getElem? e1), fun v H' s' h => k v H' s' ⟨k', x', e1, e2, h⟩⟩
 ·rw [List.length_map] at lz
  have pr : Paired (OvR K H2) zs (List.zipWith valOf ks ws) := paired_of (by rw [lz, List.length_zipWith]; omega) fun i a b ea eb => by
   obtain ⟨k', x', a1, a2, a3⟩ := hz i a ea
   rw [List.getElem?_zipWith, a1, a2] at eb
   rw [← Option.some.inj eb]
   exact a3
  refine ⟨_, rfl, D, zs, rfl, rfl, SqL.of hD, fun u hu => ?_, _, rfl, ?_⟩
  ·obtain ⟨i, hi, ei⟩ := List.mem_iff_getElem.mp hu
   obtain ⟨k', x', a1, a2, a3⟩ := hz i u (by rw [gE hi, ei])
   cases e : valOf k' x' with
   | none =>
    rw [e] at a3
    have z : u = V.non := a3
    rw [z]
    exact .inl rfl
   | some a =>
    rw [e] at a3
    cases a with
    | w x =>
     have z : u = V.str x := a3
     rw [z]
     exact .inl rfl
    | q r =>
     obtain ⟨p, z, t⟩ := (show NmK K H2 u (qr r) from a3)
     exact .inr ⟨p, _, z, t⟩
  ·rcases all_some pr with ⟨e1, e2⟩ | ⟨e1, rs, e2, e3⟩
   ·rw [e1]
    refine iteT ?_
    exact qn (by rw [ef]; exact e2) H2 s2
   ·rw [e1]
    refine iteF ?_
    exact ⟨_, rfl, qs rs (by rw [ef]; exact e2) D zs H2 s2 nD hD e3⟩
def sign1 : Str := " "
noncomputable def kindsOf (f : Str) : List Str := Txt.split f " "
inductive RowRead (ws : List Str) : List Str → List RV → Prop where
 | here {f : Str} {fs : List Str} {rs : List RV} (n : (kindsOf f).length = ws.length → ∀ k ∈ kindsOf f, V.str k ≠ V.str "MANY") (h : fit (kindsOf f) ws = some rs) : RowRead ws (f :: fs) rs
 | next {f : Str} {fs : List Str} {rs : List RV} (n : (kindsOf f).length = ws.length → ∀ k ∈ kindsOf f, V.str k ≠ V.str "MANY") (h : fit (kindsOf f) ws = none) (t : RowRead ws fs rs) : RowRead ws (f :: fs) rs
def spRow (K : Frag) : Sp := fun vs H Q _ => ∃ (p : Addr) (fs : List Str) (x : Str) (rs : List RV), vs = [.ref p, .str x] ∧ SqT K H p (fs.map V.str) ∧ (∀ f ∈ fs, f.length ≤ 90) ∧ x.length + 2 ≤ sizeLine ∧ (Txt.split x " ").length ≤ 100 ∧ (∀ w ∈ Txt.split x " ", Txk w) ∧ RowRead (Txt.split x " ") fs rs ∧
 ∀ (l : Addr) (us : List V) (H' : Hp), Same H H' → H l = none → H' l = some (.lst us) → Paired (RvR K H') us rs → Q (.ref l) H'
theorem sc_bl : FnScope ["forms", "row", "words", "form", "values"] ["forms", "row"] (defScope s_bl) := sq
theorem ok_bl (hM : Mute CX) (D : Def K mg "read_row" s_bl ["forms", "row"]) (G_c5 : Fn P w K mg base CX 38 "fitted" ["kinds", "words"] (spFit K)) : Fn P w K mg base CX 39 "read_row" ["forms", "row"] (spRow K) := by
 refine D.ok sc_bl (fun vs H Q E h => ?_) (fun f cdv A outer s H vs Q E hr h => ?_)
 ·obtain ⟨p, fs, x, rs, rfl, _⟩ := h
  rfl
 obtain ⟨p, fs, x, rs, rfl, hp, fl, hz, lw, tk, rr, q⟩ := h
 have px := passM (X := (cxOf (CXr P w) P w K mg base ["forms", "row", "words", "form", "values"] "read_row" (defScope s_bl) f cdv A outer s H E)) hM
 have l1 : ((" " : Str).length == 0) = false := by decide +kernel
 refine ⟨_, (pss_cons (ps_set (i := 2) sc_bl.nd rfl (Or.inl rfl) (pe_bm PySem.F.plainAttrs_str PySem.F.slot_str_split PySem.F.type_str_split mt_split (pv 1) (pac pe_str pa_nil)))
  (pss_cons (ps_for PassesOwn.never rfl (pi_tup (pv 0)) (pg_name (i := 3) sc_bl.nd rfl (Or.inl rfl)) (pss_cons (ps_set (i := 4) sc_bl.nd rfl (Or.inl rfl) (pe_fn G_c5 hr.mo px (pac (pe_bm PySem.F.plainAttrs_str PySem.F.slot_str_split PySem.F.type_str_split mt_split (pv 3) (pac pe_str pa_nil)) (pac (pv 2) pa_nil))))
   (pss_one (ps_if (pt_cmpR op_notN (pv 4) pe_non (nomark _)) (pss_one (ps_ret (pv 4))) pss_nil))))
  (pss_one (ps_ret pe_non)))), ?_⟩
 refine ⟨_, rfl, rfl, x, " ", rfl, rfl, l1, hz, ?_⟩
 intro lW nW; generalize eX : upd _ lW _ = H1; have ⟨sW, eW⟩ := nw nW eX; clear eX
 generalize Txt.split x " " = ws at lw tk rr eW
 refine ⟨_, rfl, p, rfl, ⟨_, Ty.Same.seqT sW hp⟩, for_tup (K := K) (a := p) (xs := fs.map V.str) (fun i σ H' => ∃ (o3 o4 : Option V), σ = [some (.ref p), some (.str x), some (.ref lW), o3, o4] ∧ Same H H' ∧ H' lW = some (.lst (ws.map V.str)) ∧ RowRead ws (fs.drop i) rs) ⟨none, none, rfl, sW, eW, rr⟩ (fun i σ H' _ h => by
   obtain ⟨_, _, _, h, _⟩ := h
   exact Ty.Same.seqT h hp) ?_ ?_⟩
 ·rintro i z σ H2 hi ⟨o3, o4, rfl, s2, e2, r2⟩
  rw [List.getElem?_map] at hi
  obtain ⟨f', ef, rfl⟩ := Option.map_eq_some_iff.mp hi
  have il : i < fs.length := (List.getElem?_eq_some_iff.mp ef).1
  have ed : fs.drop i = f' :: fs.drop (i + 1) := by
   rw [List.drop_eq_getElem_cons il]
   rw [gE il] at ef
   rw [Option.some.inj ef]
  rw [ed] at r2
  have f90 := fl f' (List.mem_of_getElem? ef)
  refine ⟨_, rfl, rfl, f', " ", rfl, rfl, l1, Nat.le_trans (show f'.length + 2 ≤ 100 by omega) (by decide), ?_⟩
  intro lK nK; generalize eX : upd _ lK _ = H3; have ⟨sK, eK⟩ := nw nK eX; clear eX
  have kl : (kindsOf f').length ≤ 100 := by
   have := split_le f' " "
   unfold kindsOf
   omega
  refine ⟨_, rfl, lK, lW, kindsOf f', ws, rfl, eK, sK _ _ e2, kl, lw, tk, ?_, ?_, ?_⟩
  ·cases r2 with
   | here n h => exact n
   | next n h t => exact n
  ·intro fn H4 s4
   cases r2 with
   | here n h => rw [h] at fn; cases fn
   | next n h t =>
    refine ⟨_, rfl, rfl, _, rfl, ?_⟩
    refine ite2 (fun c => by simp at c) (fun _ => ?_)
    exact ⟨_, _, rfl, sm_tr s2 (sm_tr sK s4), s4 _ _ (sK _ _ e2), t⟩
  ·intro rs' fn l us H4 s4 n4 e4 p4
   cases r2 with
   | next n h t => rw [h] at fn; cases fn
   | here n h =>
    rw [h] at fn
    cases fn
    refine ⟨_, rfl, rfl, _, rfl, ?_⟩
    refine ite2 (fun _ => ?_) (fun c => by simp at c)
    exact ⟨_, rfl, q l us H4 (sm_tr s2 (sm_tr sK s4)) (none_back (sm_tr s2 sK) n4) e4 p4⟩
 ·rintro σ H2 ⟨o3, o4, rfl, s2, e2, r2⟩
  rw [List.length_map, List.drop_length] at r2
  cases r2
def holdV : List (Rat × Rat) → List RV
 | [] => []
 | [w] => [.w "roller", .q w.1, .q w.2]
 | _ => [.w "fixed"]
def valP (p : PinD) : List RV := [RV.w "pin", .w p.nm, .q p.sp.1, .q p.sp.2] ++ holdV p.ws
def valB (b : BarD) : List RV := [.w "bar", .w b.nm, .w b.one.nm, .w b.other.nm]
def wordsP (p : PinD) : List Str := [("pin" : Str), p.nm] ++ pairW p.sp ++ wordsW p.ws
def wordsB (b : BarD) : List Str := [("bar" : Str), b.nm, b.one.nm, b.other.nm]
structure NameOk (x : Str) : Prop where
 nm : isName x = true
 len : x.length ≤ 20
theorem sign_of {c : Nat} (h : nameSign c = true) : c < 1000 ∧ c ≠ 32 ∧ c ≠ 10 := by
 have k1 : ∀ c ∈ ("abcdefghijklmnopqrstuvwxyz" : Str).cps.toList, c < 1000 ∧ c ≠ 32 ∧ c ≠ 10 := by decide +kernel
 have k2 : ∀ c ∈ ("0123456789" : Str).cps.toList, c < 1000 ∧ c ≠ 32 ∧ c ≠ 10 := by decide +kernel
 unfold nameSign at h
 rw [Bool.or_eq_true] at h
 rcases h with h | h
 ·exact k1 c (of_decide_eq_true h)
 ·exact k2 c (of_decide_eq_true h)
theorem NameOk.signs {x : Str} (h : NameOk x) : ∀ c ∈ x.cps.toList, c < 1000 ∧ c ≠ 32 ∧ c ≠ 10 := fun c hc => by
 have := h.nm
 unfold isName at this
 rw [Bool.and_eq_true, List.all_eq_true] at this
 exact sign_of (this.2 c hc)
structure Wd (x : Str) : Prop where
 len : x.length ≤ 400
 cod : ∀ c ∈ x.cps.toList, c < 1000 ∧ c ≠ 32 ∧ c ≠ 10
theorem Wd.txk {x : Str} (h : Wd x) : Txk x := ⟨h.len, fun c hc => (h.cod c hc).1⟩
theorem Wd.no {x : Str} (h : Wd x) : 32 ∉ x.cps.toList ∧ 10 ∉ x.cps.toList := ⟨fun z => (h.cod _ z).2.1 rfl, fun z => (h.cod _ z).2.2 rfl⟩
theorem NameOk.wd {x : Str} (h : NameOk x) : Wd x := ⟨Nat.le_trans h.len (by decide), h.signs⟩
theorem tx_cod (n : Int) : ∀ c ∈ (tx n).cps.toList, c < 1000 ∧ c ≠ 32 ∧ c ≠ 10 := fun c hc => by
 have h1 : c = 45 ∨ (48 ≤ c ∧ c ≤ 57) := by
  by_cases e : c = 45
  ·exact .inl e
  ·refine .inr ?_
   by_cases z : c < 48 ∨ 57 < c
   ·exact absurd hc (tx_no e z)
   ·omega
 omega
theorem good_wd {r : Rat} (g : Good (qr r)) : Wd (txq r) := by
 have t1 := tx_len (n := (qr r).1) (k := 60) (by decide) g.top
 have t2 := tx_len (n := (qr r).2) (k := 60) (by decide) g.bot
 by_cases c : (qr r).2 = 1
 ·rw [show txq r = tx (qr r).1 from nt_one c]
  exact ⟨by omega, tx_cod _⟩
 ·rw [show txq r = tx (qr r).1 ++ slash ++ tx (qr r).2 from nt_two c]
  refine ⟨?_, fun d hd => ?_⟩
  ·rw [len_cps, cps_append, cps_append, List.length_append, List.length_append, slash_cps, ← len_cps]
   have e2 : (tx (qr r).2).cps.toList.length = (tx (qr r).2).length := (len_cps _).symm
   rw [e2]
   show (tx (qr r).1).length + 1 + (tx (qr r).2).length ≤ 400
   omega
  ·rw [cps_append, cps_append, List.mem_append, List.mem_append, slash_cps] at hd
   rcases hd with (h | h) | h
   ·exact tx_cod _ d h
   ·rw [List.mem_singleton] at h
    omega
   ·exact tx_cod _ d h
theorem sz_good {r : Rat} (h : Sz 100 r) : Good (qr r) := by
 have z : ∀ n : Int, intBits n ≤ 100 → n.natAbs < 10 ^ 60 := fun n hn => Nat.lt_of_lt_of_le (intBits_le_iff.mp hn) (by decide +kernel)
 exact ⟨qr_pos r, qr_gcd r, z _ h.top, z _ h.bot⟩
theorem wd_pin : Wd ("pin" : Str) := ⟨by decide +kernel, by decide +kernel⟩
theorem wd_bar : Wd ("bar" : Str) := ⟨by decide +kernel, by decide +kernel⟩
theorem wd_roller : Wd ("roller" : Str) := ⟨by decide +kernel, by decide +kernel⟩
theorem wd_fixed : Wd ("fixed" : Str) := ⟨by decide +kernel, by decide +kernel⟩
structure ReadF (pins : List PinD) (bars : List BarD) : Prop where
 g : GoodF pins bars
 n1 : ∀ p ∈ pins, NameOk p.nm
 n2 : ∀ b ∈ bars, NameOk b.nm
 ns : (pins.map (·.sp)).Nodup
 one : ∀ p ∈ pins, ∀ w, p.ws = [w] → ¬ (w.1 = 0 ∧ w.2 = 0)
 two : ∀ p ∈ pins, p.ws.length = 2 → p.ws = [(1, 0), (0, 1)]
theorem ReadF.short {pins : List PinD} {bars : List BarD} (h : ReadF pins bars) : ShortN pins bars := ⟨fun p hp => Nat.le_trans (h.n1 p hp).len (by decide), fun b hb => Nat.le_trans (h.n2 b hb).len (by decide)⟩
theorem wd_words {pins : List PinD} {bars : List BarD} (h : ReadF pins bars) {p : PinD} (hp : p ∈ pins) : ∀ x ∈ wordsP p, Wd x := by
 have z := h.g.sz p hp
 have lw := h.g.lw p hp
 have b : ∀ x ∈ [("pin" : Str), p.nm] ++ pairW p.sp, Wd x := fun x hx => by
  simp only [pairW, List.mem_append, List.mem_cons, List.not_mem_nil, or_false] at hx
  rcases hx with (rfl | rfl) | (rfl | rfl)
  ·exact wd_pin
  ·exact (h.n1 p hp).wd
  ·exact good_wd (sz_good z.1)
  ·exact good_wd (sz_good z.2.1)
 intro x hx
 unfold wordsP at hx
 rcases List.mem_append.mp hx with hx | hx
 ·exact b x hx
 match e : p.ws with
 | [] =>
  rw [e] at hx
  cases hx
 | [w] =>
  rw [e] at hx
  have zw := z.2.2 w (by rw [e]; simp)
  simp only [wordsW, pairW, List.mem_cons, List.not_mem_nil, or_false] at hx
  rcases hx with rfl | rfl | rfl
  ·exact wd_roller
  ·exact good_wd (sz_good (zw.1.up (by decide)))
  ·exact good_wd (sz_good (zw.2.up (by decide)))
 | _ :: _ :: _ =>
  rw [e] at hx
  simp only [wordsW, List.mem_cons, List.not_mem_nil, or_false] at hx
  rw [hx]
  exact wd_fixed
theorem wd_wordsB {pins : List PinD} {bars : List BarD} (h : ReadF pins bars) {b : BarD} (hb : b ∈ bars) : ∀ x ∈ wordsB b, Wd x := by
 obtain ⟨m1, m2, _⟩ := h.g.ends b hb
 intro x hx
 simp only [wordsB, List.mem_cons, List.not_mem_nil, or_false] at hx
 rcases hx with rfl | rfl | rfl | rfl
 ·exact wd_bar
 ·exact (h.n2 b hb).wd
 ·exact (h.n1 _ m1).wd
 ·exact (h.n1 _ m2).wd
theorem blank : (" " : Str) = ⟨#[32]⟩ := by decide +kernel
theorem newrow : ("\n" : Str) = ⟨#[10]⟩ := by decide +kernel
theorem words_back {ws : List Str} (ne : ws ≠ []) (h : ∀ x ∈ ws, Wd x) : Txt.split (Txt.join " " ws) " " = ws := by
 rw [blank]
 exact split_join ne fun w hw => (h w hw).no.1
theorem jn_no {c d : Nat} (n : d ≠ c) : ∀ ws : List (List Nat), (∀ w ∈ ws, d ∉ w) → d ∉ jn c ws
 | [], _ => fun z => nomatch z
 | [w], h => h w List.mem_cons_self
 | w :: v :: ws, h => fun z => by
  have z' : d ∈ w ++ c :: jn c (v :: ws) := z
  rw [List.mem_append, List.mem_cons] at z'
  rcases z' with z' | z' | z'
  ·exact h w List.mem_cons_self z'
  ·exact n z'
  ·exact jn_no n (v :: ws) (fun x hx => h x (List.mem_cons_of_mem _ hx)) z'
theorem row_no {ws : List Str} (h : ∀ x ∈ ws, Wd x) : 10 ∉ (Txt.join " " ws).cps.toList := by
 rw [blank, show Txt.join (⟨#[32]⟩ : Str) ws = Str.join ⟨#[32]⟩ ws from StrLaws.glued_eq_join _ _, join_jn]
 refine jn_no (by decide) _ fun w hw => ?_
 obtain ⟨x, hx, rfl⟩ := List.mem_map.mp hw
 exact (h x hx).no.2
def rowsF (pins : List PinD) (bars : List BarD) : List Str := pins.map rowP ++ bars.map rowB
theorem rows_no {pins : List PinD} {bars : List BarD} (h : ReadF pins bars) : ∀ x ∈ rowsF pins bars, 10 ∉ x.cps.toList := fun x hx => by
 rcases List.mem_append.mp hx with z | z
 ·obtain ⟨p, hp, rfl⟩ := List.mem_map.mp z
  exact row_no (wd_words h hp)
 ·obtain ⟨b, hb, rfl⟩ := List.mem_map.mp z
  exact row_no (wd_wordsB h hb)
theorem rows_back {pins : List PinD} {bars : List BarD} (h : ReadF pins bars) (ne : rowsF pins bars ≠ []) : Txt.split (textF pins bars) "\n" = rowsF pins bars := by
 unfold textF
 rw [newrow]
 exact split_join ne (rows_no h)
theorem split_nil : Txt.split ("" : Str) " " = [("" : Str)] := words_back (ws := [("" : Str)]) (by simp) (fun x hx => by
 rw [List.mem_singleton] at hx
 rw [hx]
 exact ⟨by decide +kernel, by decide +kernel⟩)
theorem text_ne {pins : List PinD} {bars : List BarD} (h : ReadF pins bars) (ne : rowsF pins bars ≠ []) : V.str (textF pins bars) ≠ V.str "" := fun z => by
 have e := V.str.inj z
 have h1 := rows_back h ne
 have h2 : Txt.split ("" : Str) "\n" = [("" : Str)] := by
  rw [newrow]
  exact split_join (ws := [("" : Str)]) (by simp) (fun x hx => by
   rw [List.mem_singleton] at hx
   rw [hx]
   decide +kernel)
 rw [e, h2] at h1
 have hx : ("" : Str) ∈ rowsF pins bars := by rw [← h1]; simp
 rcases List.mem_append.mp hx with z | z
 ·obtain ⟨p, hp, ep⟩ := List.mem_map.mp z
  have := words_back (by simp [wordsP]) (wd_words h hp)
  have e2 : Txt.join " " (wordsP p) = "" := ep
  rw [e2, split_nil] at this
  have := congrArg List.length this
  simp [wordsP, pairW] at this
 ·obtain ⟨b, hb, eb⟩ := List.mem_map.mp z
  have := words_back (by simp [wordsB]) (wd_wordsB h hb)
  have e2 : Txt.join " " (wordsB b) = "" := eb
  rw [e2, split_nil] at this
  have := congrArg List.length this
  simp [wordsB] at this
theorem ne_str {x y : Str} (h : x ≠ y) : V.str x ≠ V.str y := fun z => h (V.str.inj z)
theorem val_num {r : Rat} (g : Good (qr r)) : valOf "NUMBER" (txq r) = some (.q r) := by
 unfold valOf
 rw [if_pos rfl, numOf_txq g]
 rfl
theorem val_name {x : Str} (h : NameOk x) : valOf "NAME" x = some (.w x) := by
 unfold valOf
 rw [if_neg (ne_str (by decide +kernel)), if_pos rfl, h.nm, if_pos]
 have := h.len
 simp only [Bool.true_and, decide_eq_true_eq]
 omega
theorem val_same {k : Str} (h1 : k ≠ "NUMBER") (h2 : k ≠ "NAME") (h3 : k ≠ "WORD") : valOf k k = some (.w k) := by
 unfold valOf
 rw [if_neg (ne_str h1), if_neg (ne_str h2), if_neg (ne_str h3), if_pos rfl]
theorem val_not {k x : Str} (h1 : k ≠ "NUMBER") (h2 : k ≠ "NAME") (h3 : k ≠ "WORD") (n : x ≠ k) : valOf k x = none := by
 unfold valOf
 rw [if_neg (ne_str h1), if_neg (ne_str h2), if_neg (ne_str h3), if_neg (ne_str n)]
theorem kinds_of {f : Str} {ks : List Str} (e : Txt.join " " ks = f) (ne : ks ≠ []) (h : ∀ k ∈ ks, 32 ∉ k.cps.toList) : kindsOf f = ks := by
 unfold kindsOf
 rw [← e, blank]
 exact split_join ne h
theorem kinds1 : kindsOf "pin NAME NUMBER NUMBER" = (["pin", "NAME", "NUMBER", "NUMBER"] : List Str) := kinds_of (by decide +kernel) (by simp) (by decide +kernel)
theorem kinds2 : kindsOf "pin NAME NUMBER NUMBER fixed" = (["pin", "NAME", "NUMBER", "NUMBER", "fixed"] : List Str) := kinds_of (by decide +kernel) (by simp) (by decide +kernel)
theorem kinds3 : kindsOf "pin NAME NUMBER NUMBER roller NUMBER NUMBER" = (["pin", "NAME", "NUMBER", "NUMBER", "roller", "NUMBER", "NUMBER"] : List Str) := kinds_of (by decide +kernel) (by simp) (by decide +kernel)
theorem kinds4 : kindsOf "bar NAME NAME NAME" = (["bar", "NAME", "NAME", "NAME"] : List Str) := kinds_of (by decide +kernel) (by simp) (by decide +kernel)
theorem no_many {ks : List Str} (h : ∀ k ∈ ks, k ≠ "MANY") : ∀ k ∈ ks, V.str k ≠ V.str "MANY" := fun k hk => ne_str (h k hk)
def formsL : List Str := ["pin NAME NUMBER NUMBER", "pin NAME NUMBER NUMBER fixed", "pin NAME NUMBER NUMBER roller NUMBER NUMBER", "bar NAME NAME NAME", "piece NAME", "end", "lay NAME NAME NUMBER NUMBER", "lay NAME NAME NUMBER NUMBER MANY NUMBER NUMBER"]
theorem forms_len : ∀ f ∈ formsL, f.length ≤ 90 := by decide +kernel
theorem fit_len {ks ws : List Str} (h : ks.length ≠ ws.length) : fit ks ws = none := by
 unfold fit
 rw [if_neg h]
theorem fit_eq {ks ws : List Str} (h : ks.length = ws.length) : fit ks ws = allSome (List.zipWith valOf ks ws) := by
 unfold fit
 rw [if_pos h]
theorem v_pin : valOf ("pin" : Str) ("pin" : Str) = some (.w "pin") := val_same (by decide +kernel) (by decide +kernel) (by decide +kernel)
theorem v_bar : valOf "bar" "bar" = some (.w "bar") := val_same (by decide +kernel) (by decide +kernel) (by decide +kernel)
theorem v_roller : valOf "roller" "roller" = some (.w "roller") := val_same (by decide +kernel) (by decide +kernel) (by decide +kernel)
theorem v_fixed : valOf "fixed" "fixed" = some (.w "fixed") := val_same (by decide +kernel) (by decide +kernel) (by decide +kernel)
theorem nm1 : ∀ k ∈ (["pin", "NAME", "NUMBER", "NUMBER"] : List Str), V.str k ≠ V.str "MANY" := no_many (by decide +kernel)
theorem nm2 : ∀ k ∈ (["pin", "NAME", "NUMBER", "NUMBER", "fixed"] : List Str), V.str k ≠ V.str "MANY" := no_many (by decide +kernel)
theorem nm3 : ∀ k ∈ (["pin", "NAME", "NUMBER", "NUMBER", "roller", "NUMBER", "NUMBER"] : List Str), V.str k ≠ V.str "MANY" := no_many (by decide +kernel)
theorem nm4 : ∀ k ∈ (["bar", "NAME", "NAME", "NAME"] : List Str), V.str k ≠ V.str "MANY" := no_many (by decide +kernel)
theorem read_pin {pins : List PinD} {bars : List BarD} (h : ReadF pins bars) {p : PinD} (hp : p ∈ pins) : RowRead (wordsP p) formsL (valP p) := by
 have z := h.g.sz p hp
 have e1 := val_name (h.n1 p hp)
 have e2 := val_num (sz_good z.1)
 have e3 := val_num (sz_good z.2.1)
 unfold wordsP valP formsL
 match e : p.ws with
 | [] =>
  refine .here (fun _ => by rw [kinds1]; exact nm1) ?_
  rw [kinds1]
  refine (fit_eq (by rfl)).trans ?_
  show allSome [valOf "pin" "pin", valOf "NAME" p.nm, valOf "NUMBER" (txq p.sp.1), valOf "NUMBER" (txq p.sp.2)] = _
  rw [v_pin, e1, e2, e3]
  rfl
 | [w] =>
  have zw := z.2.2 w (by rw [e]; simp)
  refine .next (fun _ => by rw [kinds1]; exact nm1) (by rw [kinds1]; exact fit_len (by simp [wordsW, pairW])) ?_
  refine .next (fun _ => by rw [kinds2]; exact nm2) (by rw [kinds2]; exact fit_len (by simp [wordsW, pairW])) ?_
  refine .here (fun _ => by rw [kinds3]; exact nm3) ?_
  rw [kinds3]
  refine (fit_eq (by rfl)).trans ?_
  show allSome [valOf "pin" "pin", valOf "NAME" p.nm, valOf "NUMBER" (txq p.sp.1), valOf "NUMBER" (txq p.sp.2), valOf "roller" "roller", valOf "NUMBER" (txq w.1), valOf "NUMBER" (txq w.2)] = _
  rw [v_pin, e1, e2, e3, v_roller, val_num (sz_good (zw.1.up (by decide))), val_num (sz_good (zw.2.up (by decide)))]
  rfl
 | _ :: _ :: _ =>
  refine .next (fun _ => by rw [kinds1]; exact nm1) (by rw [kinds1]; exact fit_len (by simp [wordsW, pairW])) ?_
  refine .here (fun _ => by rw [kinds2]; exact nm2) ?_
  rw [kinds2]
  refine (fit_eq (by rfl)).trans ?_
  show allSome [valOf "pin" "pin", valOf "NAME" p.nm, valOf "NUMBER" (txq p.sp.1), valOf "NUMBER" (txq p.sp.2), valOf "fixed" "fixed"] = _
  rw [v_pin, e1, e2, e3, v_fixed]
  rfl
theorem read_bar {pins : List PinD} {bars : List BarD} (h : ReadF pins bars) {b : BarD} (hb : b ∈ bars) : RowRead (wordsB b) formsL (valB b) := by
 obtain ⟨m1, m2, _⟩ := h.g.ends b hb
 have e1 := val_name (h.n2 b hb)
 have e2 := val_name (h.n1 _ m1)
 have e3 := val_name (h.n1 _ m2)
 unfold wordsB valB formsL
 refine .next (fun _ => by rw [kinds1]; exact nm1) ?_ ?_
 ·rw [kinds1]
  refine (fit_eq (by rfl)).trans ?_
  show allSome [valOf "pin" "bar", valOf "NAME" b.nm, valOf "NUMBER" b.one.nm, valOf "NUMBER" b.other.nm] = none
  rw [val_not (by decide +kernel) (by decide +kernel) (by decide +kernel) (by decide +kernel)]
  rfl
 refine .next (fun _ => by rw [kinds2]; exact nm2) (by rw [kinds2]; exact fit_len (by simp)) ?_
 refine .next (fun _ => by rw [kinds3]; exact nm3) (by rw [kinds3]; exact fit_len (by simp)) ?_
 refine .here (fun _ => by rw [kinds4]; exact nm4) ?_
 rw [kinds4]
 refine (fit_eq (by rfl)).trans ?_
 show allSome [valOf "bar" "bar", valOf "NAME" b.nm, valOf "NAME" b.one.nm, valOf "NAME" b.other.nm] = _
 rw [v_bar, e1, e2, e3]
 rfl
abbrev shF (lo dp : Addr) : List (Str × V) := [("outside", .ref lo), ("pieces", .ref dp), ("current", .non)]
structure ShC (K : Frag) (C : Addr) : Prop where
 cls : Cls K C
 ou : NoAttr K C "outside"
 pi : NoAttr K C "pieces"
 cu : NoAttr K C "current"
def spShInit (K : Frag) (C : Addr) : Sp := fun vs H Q _ => ∃ (a dx : Addr), vs = [.ref a] ∧ H a = some (.ins C dx []) ∧
 ∀ (lo dp : Addr) (H' : Hp), KSame a H H' → H lo = none → H dp = none → H' a = some (.ins C dx (shF lo dp)) → H' lo = some (.lst []) → H' dp = some (.dK []) → Q .non H'
theorem putF_s1 {x : V} : putF "outside" x [] = ([("outside", x)] : List (Str × V)) := rfl
theorem putF_s2 {x y : V} : putF "pieces" y [("outside", x)] = ([("outside", x), ("pieces", y)] : List (Str × V)) := by
 simp only [putF]
 rw [if_neg (by decide)]
theorem putF_s3 {x y z : V} : putF "current" z [("outside", x), ("pieces", y)] = ([("outside", x), ("pieces", y), ("current", z)] : List (Str × V)) := by
 simp only [putF]
 rw [if_neg (by decide), if_neg (by decide)]
theorem sc_b2 : FnScope ["self"] ["self"] (defScope s_b2) := sq
theorem ok_b2 {f : Addr} {fd : FuncData} {C : Addr} (F : Fun K "__init__" "Sheet.__init__" s_b2 f fd) (fc : ShC K C) : FnOk P w K mg base (CXr P w) 1 f fd ["self"] (spShInit K C) := by
 refine fun_okF F sc_b2 (fun vs H Q E h => ?_) (fun cdv A outer s H vs Q E hr h => ?_)
 ·obtain ⟨a, dx, rfl, _⟩ := h
  rfl
 obtain ⟨a, dx, rfl, ha, q⟩ := h
 refine ⟨_, (pss_cons (ps_fld (pv 0) (pe_lst pa_nil) rfl)
  (pss_cons (ps_fld (pv 0) pe_dnewK rfl)
  (pss_one (ps_fld (pv 0) pe_non rfl)))), ?_⟩
 refine ⟨(by show 0 ≤ sizeLine; decide), ?_⟩
 intro lo nl
 have al : a ≠ lo := ne_of_none ha nl
 refine ⟨_, rfl, a, C, dx, _, rfl, (by rw [upd_ne al]; exact ha), fc.cls, fc.ou, (by show 0 < 1000; decide), ?_⟩
 rw [putF_s1]
 generalize e1 : upd (upd H lo (.lst [])) a (.ins C dx [("outside", .ref lo)]) = H1
 have o1 : H1 a = some (.ins C dx [("outside", .ref lo)]) := by rw [← e1, upd_same]
 have p1 : H1 lo = some (.lst []) := by rw [← e1, upd_ne (Ne.symm al), upd_same]
 have k1 : ∀ b o, b ≠ a → H b = some o → H1 b = some o := fun b o n e => by rw [← e1, upd_ne n, upd_ne (ne_of_none e nl)]; exact e
 intro dp np
 have ap : a ≠ dp := ne_of_none o1 np
 refine ⟨_, rfl, a, C, dx, _, rfl, (by rw [upd_ne ap]; exact o1), fc.cls, fc.pi, (by show 1 < 1000; decide), ?_⟩
 rw [putF_s2]
 generalize e2 : upd (upd H1 dp (.dK [])) a (.ins C dx [("outside", .ref lo), ("pieces", .ref dp)]) = H2
 have o2 : H2 a = some (.ins C dx [("outside", .ref lo), ("pieces", .ref dp)]) := by rw [← e2, upd_same]
 have w2 : H2 dp = some (.dK []) := by rw [← e2, upd_ne (Ne.symm ap), upd_same]
 have k2 : ∀ b o, b ≠ a → H1 b = some o → H2 b = some o := fun b o n e => by rw [← e2, upd_ne n, upd_ne (ne_of_none e np)]; exact e
 refine ⟨_, rfl, a, C, dx, _, rfl, o2, fc.cls, fc.cu, (by show 2 < 1000; decide), ?_⟩
 rw [putF_s3]
 have f1 : ∀ b, b ≠ a → H1 b = none → H b = none := fun b n e => by
  cases z : H b with
  | none => rfl
  | some o => rw [k1 b o n z] at e; cases e
 exact q lo dp _ (fun b o n e => by rw [upd_ne n]; exact k2 b o n (k1 b o n e)) nl (f1 _ (Ne.symm ap) np) upd_same (by rw [upd_ne (Ne.symm al)]; exact k2 _ _ (Ne.symm al) p1) (by rw [upd_ne (Ne.symm ap)]; exact w2)
def daOf : RV → Da
 | .w s => .v (.str s)
 | .q r => .t [.v (.int (qr r).1), .v (.int (qr r).2)]
theorem rv_is {H : Hp} {v : V} {a : RV} (h : RvR K H v a) : Is K H (daOf a) v := by
 cases a with
 | w s =>
  unfold daOf Is
  exact ⟨h, rfl⟩
 | q r => exact is_numF h
theorem rv_iss {H : Hp} : ∀ {us : List V} {rs : List RV}, Paired (RvR K H) us rs → Iss K H (rs.map daOf) us
 | [], [], .nil => by
  unfold Iss
  trivial
 | _ :: _, _ :: _, .cons h t => by
  show Iss K H (_ :: _) _
  unfold Iss
  exact ⟨rv_is h, rv_iss t⟩
theorem rv_isL {H : Hp} {l : Addr} {us : List V} {rs : List RV} (hl : SqL K H l us) (h : Paired (RvR K H) us rs) : Is K H (.l (rs.map daOf)) (.ref l) := by
 unfold Is
 exact ⟨l, us, rfl, hl, rv_iss h⟩
theorem dep_da (a : RV) : dep (daOf a) ≤ 1 := by
 cases a <;> simp [daOf, dep, deps]
theorem deps_da : ∀ rs : List RV, deps (rs.map daOf) ≤ 60
 | [] => Nat.zero_le _
 | a :: rs => by
  show max (dep (daOf a)) (deps (rs.map daOf)) ≤ 60
  have h1 := dep_da a
  have h2 := deps_da rs
  omega
theorem paired_dropn {α β : Type} {R : α → β → Prop} : ∀ (n : Nat) {l : List α} {m : List β}, Paired R l m → Paired R (l.drop n) (m.drop n)
 | 0, _, _, h => h
 | _ + 1, _, _, .nil => .nil
 | n + 1, _, _, .cons _ t => paired_dropn n t
theorem cut4 (xs : List V) : cutV xs (some 4) none = xs.drop 4 := by
 unfold cutV
 have h : HT.sIx xs.length 0 (some 4) = min 4 xs.length := by
  simp only [HT.sIx]
  split <;> omega
 have h2 : HT.sIx xs.length xs.length none = xs.length := rfl
 rw [h, h2]
 by_cases c : 4 ≤ xs.length
 ·rw [Nat.min_eq_left c, List.take_of_length_le]
  rw [List.length_drop]
  omega
 ·rw [Nat.min_eq_right (by omega), List.drop_of_length_le (Nat.le_refl _), List.drop_of_length_le (by omega)]
  exact List.take_nil
theorem at_0 {x : V} {r : List V} : atI (x :: r) 0 = some x := atI_nat (j := 0) rfl
def noHold : List RV := [.w "roller", .q 0, .q 0]
structure Stands (rs : List RV) : Prop where
 kind : ∃ r, rs = .w "pin" :: r ∨ rs = .w "bar" :: r
 al : alikes ((rs.drop 4).map daOf) (noHold.map daOf) = true
 no : eqDas ((rs.drop 4).map daOf) (noHold.map daOf) = false
theorem eq_w (x y : Str) : eqDa (daOf (.w x)) (daOf (.w y)) = decide (x = y) := by
 show eqDa (.v (.str x)) (.v (.str y)) = _
 unfold eqDa
 by_cases h : x = y <;> simp [eqV, h]
theorem eq_q (x y : Rat) : eqDa (daOf (.q x)) (daOf (.q y)) = decide (x = y) := by
 have e : eqDa (daOf (.q x)) (daOf (.q y)) = (eqV (.int (qr x).1) (.int (qr y).1) && (eqV (.int (qr x).2) (.int (qr y).2) && true)) := rfl
 rw [e]
 by_cases h : x = y
 ·subst h
  simp [eqV]
 ·rw [decide_eq_false h]
  by_cases h1 : (qr x).1 = (qr y).1
  ·have h2 : (qr x).2 ≠ (qr y).2 := fun z => h (qr_inj (Prod.ext h1 z))
   simp [eqV, h2]
  ·simp [eqV, h1]
theorem stands_pin {p : PinD} (one : ∀ w, p.ws = [w] → ¬ (w.1 = 0 ∧ w.2 = 0)) : Stands (valP p) := by
 refine ⟨⟨_, .inl rfl⟩, ?_, ?_⟩
 ·unfold valP
  match p.ws with
  | [] => rfl
  | [w] => rfl
  | _ :: _ :: _ => rfl
 ·unfold valP
  match e : p.ws with
  | [] => rfl
  | [w] =>
   show (eqDa (daOf (.w "roller")) (daOf (.w "roller")) && (eqDa (daOf (.q w.1)) (daOf (.q 0)) && (eqDa (daOf (.q w.2)) (daOf (.q 0)) && true))) = false
   have := one w e
   rw [eq_w, eq_q, eq_q]
   by_cases h1 : w.1 = 0
   ·have h2 : w.2 ≠ 0 := fun z => this ⟨h1, z⟩
    simp [h2]
   ·simp [h1]
  | _ :: _ :: _ =>
   show (eqDa (daOf (.w "fixed")) (daOf (.w "roller")) && _) = false
   rw [eq_w, decide_eq_false (by decide +kernel)]
   rfl
theorem stands_bar (b : BarD) : Stands (valB b) := ⟨⟨_, .inr rfl⟩, rfl, rfl⟩
theorem Stands.head {rs : List RV} (h : Stands rs) {H : Hp} {us : List V} (p : Paired (RvR K H) us rs) : ∃ k us', us = .str k :: us' ∧ V.str k ≠ V.str "piece" ∧ V.str k ≠ V.str "end" ∧ V.str k ≠ V.str "lay" := by
 obtain ⟨r, e⟩ := h.kind
 rcases e with rfl | rfl
 ·cases p with
  | cons h t => exact ⟨"pin", _, by rw [show _ = V.str "pin" from h], ne_str (by decide +kernel), ne_str (by decide +kernel), ne_str (by decide +kernel)⟩
 ·cases p with
  | cons h t => exact ⟨"bar", _, by rw [show _ = V.str "bar" from h], ne_str (by decide +kernel), ne_str (by decide +kernel), ne_str (by decide +kernel)⟩
def spStand (K : Frag) : Sp := fun vs H Q _ => ∃ (a l : Addr) (us : List V) (rs : List RV), vs = [.ref a, .ref l] ∧ H l = some (.lst us) ∧ Paired (RvR K H) us rs ∧ Stands rs ∧ ∀ H', Same H H' → Q (.bl true) H'
theorem sc_a7 : FnScope ["self", "values"] ["self", "values"] (defScope s_a7) := sq
theorem ok_a7 {f : Addr} {fd : FuncData} {aN : Addr} (F : Fun K "may_stand" "Sheet.may_stand" s_a7 f fd) (m_c7 : mg "NOUGHT" = some (.ref aN)) (hN : ∀ H, NmK K H (.ref aN) (0, 1)) : FnOk P w K mg base (CXr P w) 1 f fd ["self", "values"] (spStand K) := by
 refine fun_okF F sc_a7 (fun vs H Q E h => ?_) (fun cdv A outer s H vs Q E hr h => ?_)
 ·obtain ⟨a, l, us, rs, rfl, _⟩ := h
  rfl
 obtain ⟨a, l, us, rs, rfl, hl, pu, st, q⟩ := h
 obtain ⟨k, us', eu, n1, n2, n3⟩ := st.head pu
 have ix : atI us 0 = some (.str k) := by rw [eu]; exact at_0
 refine ⟨_, (pss_cons (ps_if (pt_cmpR op_eq (pe_lx (pv 1)) pe_str (nomark _)) (pss_one (ps_never)) pss_nil)
  (pss_cons (ps_if (pt_cmpR op_eq (pe_lx (pv 1)) pe_str (nomark _)) (pss_one (ps_never)) pss_nil)
  (pss_cons (ps_if (pt_cmpR op_eq (pe_lx (pv 1)) pe_str (nomark _)) (pss_one (ps_never)) pss_nil)
  (pss_one (ps_ret (pe_cmpR (op_neDa hr.units) (pe_slice sl_list (pv 1) (po_some pe_int) po_none) (pe_lst (pac pe_str (pac (pe_glob (v := .ref aN) rfl m_c7 rfl) (pac (pe_glob (v := .ref aN) rfl m_c7 rfl) pa_nil)))) (nomark _))))))), ?_⟩
 refine ⟨_, rfl, l, _, _, _, rfl, rfl, SqL.of hl, ix, rfl, _, rfl, ?_⟩
 refine ite2 (fun c => absurd (of_decide_eq_true c) n1) (fun _ => ?_)
 refine ⟨_, rfl, l, _, _, _, rfl, rfl, SqL.of hl, ix, rfl, _, rfl, ?_⟩
 refine ite2 (fun c => absurd (of_decide_eq_true c) n2) (fun _ => ?_)
 refine ⟨_, rfl, l, _, _, _, rfl, rfl, SqL.of hl, ix, rfl, _, rfl, ?_⟩
 refine ite2 (fun c => absurd (of_decide_eq_true c) n3) (fun _ => ?_)
 refine ⟨_, rfl, 4, rfl, l, _, rfl, SqL.of hl, ?_⟩
 rw [cut4]
 intro l1 m1; generalize eX : upd _ l1 _ = H1; have ⟨s1, e1⟩ := nw m1 eX; clear eX
 refine ⟨(by show 3 ≤ sizeLine; decide), ?_⟩
 intro l2 m2; generalize eX : upd _ l2 _ = H2; have ⟨s2, e2⟩ := nw m2 eX; clear eX
 have s12 := sm_tr s1 s2
 have p1 : Paired (RvR K H2) (us.drop 4) (rs.drop 4) := paired_dropn 4 (Paired.mapP pu fun _ _ z => z.sameT (.of s12))
 have p2 : Paired (RvR K H2) [V.str "roller", .ref aN, .ref aN] noHold := .cons rfl (.cons (by show NmK K H2 _ (qr 0); rw [qr_nought]; exact hN H2) (.cons (by show NmK K H2 _ (qr 0); rw [qr_nought]; exact hN H2) .nil))
 refine ⟨_, _, .inr ⟨rv_isL (SqL.of (s2 _ _ e1)) p1, rv_isL (SqL.of e2) p2⟩, st.al, deps_da _, ?_⟩
 rw [st.no]
 exact q H2 s12
def spKeep (K : Frag) (C : Addr) : Sp := fun vs H Q _ => ∃ (a dx lo dp l : Addr) (xs us : List V) (k : Str), vs = [.ref a, .ref l] ∧ H a = some (.ins C dx (shF lo dp)) ∧ H lo = some (.lst xs) ∧ xs.length ≤ 1000 ∧ H l = some (.lst us) ∧ atI us 0 = some (.str k) ∧ V.str k ≠ V.str "piece" ∧ V.str k ≠ V.str "end" ∧
 Q .non (upd H lo (.lst (xs ++ [.ref l])))
theorem sh_o {lo dp : Addr} : List.lookup ("outside" : Str) (shF lo dp) = some (.ref lo) := rfl
theorem sh_p {lo dp : Addr} : List.lookup ("pieces" : Str) (shF lo dp) = some (.ref dp) := by
 have h : (("pieces" : Str) == "outside") = false := by decide +kernel
 simp [List.lookup, h]
theorem sh_c {lo dp : Addr} : List.lookup ("current" : Str) (shF lo dp) = some .non := by
 have h : (("current" : Str) == "outside") = false := by decide +kernel
 have h2 : (("current" : Str) == "pieces") = false := by decide +kernel
 simp [List.lookup, h, h2]
theorem sc_b3 : FnScope ["self", "values"] ["self", "values"] (defScope s_b3) := sq
theorem ok_b3 {f : Addr} {fd : FuncData} {C : Addr} (F : Fun K "keep" "Sheet.keep" s_b3 f fd) (fc : ShC K C) : FnOk P w K mg base (CXr P w) 1 f fd ["self", "values"] (spKeep K C) := by
 refine fun_okF F sc_b3 (fun vs H Q E h => ?_) (fun cdv A outer s H vs Q E hr h => ?_)
 ·obtain ⟨a, dx, lo, dp, l, xs, us, k, rfl, _⟩ := h
  rfl
 obtain ⟨a, dx, lo, dp, l, xs, us, k, rfl, ha, hlo, lx, hl, ix, n1, n2, q⟩ := h
 refine ⟨_, (pss_one (ps_if (pt_cmpR op_eq (pe_lx (pv 1)) pe_str (nomark _)) (pss_cons (ps_never)
   (pss_one (ps_never))) (pss_one (ps_if (pt_cmpR op_eq (pe_lx (pv 1)) pe_str (nomark _)) (pss_one (ps_never)) (pss_one (ps_if (pt_cmpR op_isN (pe_fld (pv 0) rfl) pe_non (nomark _)) (pss_one (ps_expr (pe_bm PySem.F.plainAttrs_list PySem.F.slot_list_append PySem.F.type_list_append mt_append (pe_fld (pv 0) rfl) (pac (pv 1) pa_nil)))) (pss_one (ps_never)))))))), ?_⟩
 refine ⟨_, rfl, l, _, _, _, rfl, rfl, SqL.of hl, ix, rfl, _, rfl, ?_⟩
 refine ite2 (fun c => absurd (of_decide_eq_true c) n1) (fun _ => ?_)
 refine ⟨_, rfl, l, _, _, _, rfl, rfl, SqL.of hl, ix, rfl, _, rfl, ?_⟩
 refine ite2 (fun c => absurd (of_decide_eq_true c) n2) (fun _ => ?_)
 refine ⟨_, rfl, a, C, dx, _, _, rfl, ha, fc.cls, fc.cu, sh_c, rfl, _, rfl, ?_⟩
 refine ite2 (fun _ => ?_) (fun c => absurd (by decide) c)
 refine ⟨_, rfl, a, C, dx, _, _, rfl, ha, fc.cls, fc.ou, sh_o, .inl ⟨rfl, _, SqL.of hlo⟩, _, rfl, ?_⟩
 exact ⟨lo, _, _, rfl, rfl, hlo, Nat.lt_of_le_of_lt lx (by decide), q⟩
abbrev grF (fr : Addr) (vp : V) (n : Int) : List (Str × V) := [("frame", .ref fr), ("pieces", vp), ("done", .int n)]
structure GrC (K : Frag) (C : Addr) : Prop where
 cls : Cls K C
 fr : NoAttr K C "frame"
 pi : NoAttr K C "pieces"
 dn : NoAttr K C "done"
theorem gr_f {fr : Addr} {vp : V} {n : Int} : List.lookup ("frame" : Str) (grF fr vp n) = some (.ref fr) := rfl
theorem gr_d {fr : Addr} {vp : V} {n : Int} : List.lookup ("done" : Str) (grF fr vp n) = some (.int n) := by
 have h : (("done" : Str) == "frame") = false := by decide +kernel
 have h2 : (("done" : Str) == "pieces") = false := by decide +kernel
 simp [List.lookup, h, h2]
theorem putF_g1 {x : V} : putF "frame" x [] = ([("frame", x)] : List (Str × V)) := rfl
theorem putF_g2 {x y : V} : putF "pieces" y [("frame", x)] = ([("frame", x), ("pieces", y)] : List (Str × V)) := by
 simp only [putF]
 rw [if_neg (by decide)]
theorem putF_g3 {x y z : V} : putF "done" z [("frame", x), ("pieces", y)] = ([("frame", x), ("pieces", y), ("done", z)] : List (Str × V)) := by
 simp only [putF]
 rw [if_neg (by decide), if_neg (by decide)]
theorem putF_g4 {fr : Addr} {vp : V} {n m : Int} : putF "done" (.int m) (grF fr vp n) = grF fr vp m := by
 simp only [putF, grF]
 rw [if_neg (by decide), if_neg (by decide), if_pos (by decide)]
theorem fr_upd1 {H : Hp} {C a dx pP pW pB b : Addr} {ps : List (Str × Pt)} {bs : List (Str × Str × Str)} {kP kW kB : List (Key × V)} {C' d' : Addr} {fs fs' : List (Str × V)} (R : FrR K H C a dx pP pW pB ps bs kP kW kB) (e : H b = some (.ins C' d' fs)) (n : a ≠ b) : FrR K (upd H b (.ins C' d' fs')) C a dx pP pW pB ps bs kP kW kB := by
 have s : SameT H (upd H b (.ins C' d' fs')) := fun c xs r => by
  rcases r with r | ⟨o, r⟩
  ·exact .inl (by rw [upd_ne (fun z => by rw [z, e] at r; cases r)]; exact r)
  ·exact .inr ⟨o, by rw [upd_ne (fun z => by rw [z, e] at r; cases r)]; exact r⟩
 exact ⟨by rw [upd_ne n]; exact R.obj, by rw [upd_ne (fun z => by have h := R.pl; rw [z, e] at h; cases h)]; exact R.pl, by rw [upd_ne (fun z => by have h := R.wy; rw [z, e] at h; cases h)]; exact R.wy, by rw [upd_ne (fun z => by have h := R.br; rw [z, e] at h; cases h)]; exact R.br, R.ne1, R.ne2, R.ne3, Paired.mapP R.rp fun _ _ h => ⟨h.1, h.2.sameT s⟩, Paired.mapP R.rb fun _ _ h => ⟨h.1, by obtain ⟨p, e, k⟩ := h.2; exact ⟨p, e, s _ _ k⟩⟩⟩
def spGInit (K : Frag) (C CF : Addr) : Sp := fun vs H Q _ => ∃ (a dx : Addr) (vp : V), vs = [.ref a, vp] ∧ H a = some (.ins C dx []) ∧
 ∀ (fr dxf pP pW pB : Addr) (H' : Hp), KSame a H H' → H fr = none → H pP = none → H pW = none → H pB = none → FrR K H' CF fr dxf pP pW pB [] [] [] [] [] → H' a = some (.ins C dx (grF fr vp 0)) → Q .non H'
theorem sc_al : FnScope ["self", "pieces"] ["self", "pieces"] (defScope s_al) := sq
theorem ok_al {f : Addr} {fd : FuncData} {C CF fI : Addr} {fdI : FuncData} (F : Fun K "__init__" "Ground.__init__" s_al f fd) (gc : GrC K C) (M_ch : Mk K CF fI) (m_ch : mg "Frame" = some (.ref CF)) (G_aw : FnOk P w K mg base (CXr P w) 1 fI fdI ["self"] (spFInit K CF)) (b_aw : Binds K fdI ["self"] []) : FnOk P w K mg base (CXr P w) 3 f fd ["self", "pieces"] (spGInit K C CF) := by
 refine fun_okF F sc_al (fun vs H Q E h => ?_) (fun cdv A outer s H vs Q E hr h => ?_)
 ·obtain ⟨a, dx, vp, rfl, _⟩ := h
  rfl
 obtain ⟨a, dx, vp, rfl, ha, q⟩ := h
 refine ⟨_, (pss_cons (ps_fld (pv 0) (pe_make0 M_ch G_aw hr.mo rfl m_ch b_aw .nil pX) rfl)
  (pss_cons (ps_fld (pv 0) (pv 1) rfl)
  (pss_one (ps_fld (pv 0) pe_int rfl)))), ?_⟩
 intro fr dxf nf ndf nfd
 have sF : Same H (upd (upd H dxf (.own fr)) fr (.ins CF dxf [])) := fun b o e => by rw [upd_ne (ne_of_none e nf), upd_ne (ne_of_none e ndf)]; exact e
 refine ⟨fr, dxf, rfl, upd_same, fun pP pW pB H1 k1 nP nW nB R1 => ⟨rfl, ?_⟩⟩
 have s1 : Same H H1 := fun b o e => k1 b o (ne_of_none e nf) (sF _ _ e)
 have nP := none_back sF nP
 have nW := none_back sF nW
 have nB := none_back sF nB
 have o1 := s1 _ _ ha
 have af : fr ≠ a := fun z => by rw [z, ha] at nf; cases nf
 refine ⟨_, rfl, a, C, dx, _, rfl, o1, gc.cls, gc.fr, (by show 0 < 1000; decide), ?_⟩
 rw [putF_g1]
 refine ⟨_, rfl, _, rfl, a, C, dx, _, rfl, upd_same, gc.cls, gc.pi, (by show 1 < 1000; decide), ?_⟩
 rw [putF_g2]
 refine ⟨_, rfl, a, C, dx, _, rfl, upd_same, gc.cls, gc.dn, (by show 2 < 1000; decide), ?_⟩
 rw [putF_g3]
 exact q fr dxf pP pW pB _ (fun b o n e => by rw [upd_ne n, upd_ne n, upd_ne n]; exact s1 _ _ e) nf nP nW nB (fr_upd1 (fr_upd1 (fr_upd1 R1 o1 af) upd_same af) upd_same af) upd_same
def spCount (K : Frag) (C : Addr) : Sp := fun vs H Q _ => ∃ (a dx fr : Addr) (vp : V) (n : Int), vs = [.ref a] ∧ H a = some (.ins C dx (grF fr vp n)) ∧ n < 500 ∧ Q .non (upd H a (.ins C dx (grF fr vp (n + 1))))
theorem sc_a0 : FnScope ["self"] ["self"] (defScope s_a0) := sq
theorem ok_a0 {f : Addr} {fd : FuncData} {C : Addr} {tkR : Tok} (F : Fun K "count_row" "Ground.count_row" s_a0 f fd) (gc : GrC K C) (m_bc : mg "MOST_ROWS" = some (.int 500 tkR)) : FnOk P w K mg base (CXr P w) 1 f fd ["self"] (spCount K C) := by
 refine fun_okF F sc_a0 (fun vs H Q E h => ?_) (fun cdv A outer s H vs Q E hr h => ?_)
 ·obtain ⟨a, dx, fr, vp, n, rfl, _⟩ := h
  rfl
 obtain ⟨a, dx, fr, vp, n, rfl, ha, hn, q⟩ := h
 refine ⟨_, (pss_cons (ps_if (pt_cmpR op_ge (pe_fld (pv 0) rfl) (pe_glob (v := .int 500) rfl m_bc ⟨_, rfl⟩) (nomark _)) (pss_one (ps_never)) pss_nil)
  (pss_one (ps_fldaug (pv 0) pe_int in_add))), ?_⟩
 refine ⟨_, rfl, a, C, dx, _, _, rfl, ha, gc.cls, gc.dn, gr_d, _, _, rfl, rfl, _, rfl, ?_⟩
 refine ite2 (fun c => ?_) (fun _ => ?_)
 ·have c' : (500 : Int) ≤ n := of_decide_eq_true c
  omega
 refine ⟨_, rfl, a, C, dx, _, _, rfl, ha, gc.cls, gc.dn, gr_d, _, _, rfl, rfl, dx, _, ha, (by show 3 < 1000; decide), ?_⟩
 rw [putF_g4]
 exact q
abbrev lyF (x : Str) (v : V) (o : Addr) : List (Str × V) := [("prefix", .str x), ("spot", v), ("own", .ref o)]
structure LyC (K : Frag) (C : Addr) : Prop where
 cls : Cls K C
 pf : NoAttr K C "prefix"
 st : NoAttr K C "spot"
 ow : NoAttr K C "own"
theorem ly_p {x : Str} {v : V} {o : Addr} : List.lookup ("prefix" : Str) (lyF x v o) = some (.str x) := rfl
theorem ly_s {x : Str} {v : V} {o : Addr} : List.lookup ("spot" : Str) (lyF x v o) = some v := by
 have h : (("spot" : Str) == "prefix") = false := by decide +kernel
 simp [List.lookup, h]
theorem ly_o {x : Str} {v : V} {o : Addr} : List.lookup ("own" : Str) (lyF x v o) = some (.ref o) := by
 have h : (("own" : Str) == "prefix") = false := by decide +kernel
 have h2 : (("own" : Str) == "spot") = false := by decide +kernel
 simp [List.lookup, h, h2]
theorem putF_l1 {x : V} : putF "prefix" x [] = ([("prefix", x)] : List (Str × V)) := rfl
theorem putF_l2 {x y : V} : putF "spot" y [("prefix", x)] = ([("prefix", x), ("spot", y)] : List (Str × V)) := by
 simp only [putF]
 rw [if_neg (by decide)]
theorem putF_l3 {x y z : V} : putF "own" z [("prefix", x), ("spot", y)] = ([("prefix", x), ("spot", y), ("own", z)] : List (Str × V)) := by
 simp only [putF]
 rw [if_neg (by decide), if_neg (by decide)]
def spLyInit (K : Frag) (C : Addr) : Sp := fun vs H Q _ => ∃ (a dx : Addr) (x : Str) (v : V), vs = [.ref a, .str x, v] ∧ H a = some (.ins C dx []) ∧
 ∀ (o : Addr) (H' : Hp), KSame a H H' → H o = none → H' a = some (.ins C dx (lyF x v o)) → H' o = some (.dK []) → Q .non H'
theorem sc_am : FnScope ["self", "prefix", "spot"] ["self", "prefix", "spot"] (defScope s_am) := sq
theorem ok_am {f : Addr} {fd : FuncData} {C : Addr} (F : Fun K "__init__" "Laying.__init__" s_am f fd) (lc : LyC K C) : FnOk P w K mg base (CXr P w) 1 f fd ["self", "prefix", "spot"] (spLyInit K C) := by
 refine fun_okF F sc_am (fun vs H Q E h => ?_) (fun cdv A outer s H vs Q E hr h => ?_)
 ·obtain ⟨a, dx, x, v, rfl, _⟩ := h
  rfl
 obtain ⟨a, dx, x, v, rfl, ha, q⟩ := h
 refine ⟨_, (pss_cons (ps_fld (pv 0) (pv 1) rfl)
  (pss_cons (ps_fld (pv 0) (pv 2) rfl)
  (pss_one (ps_fld (pv 0) pe_dnewK rfl)))), ?_⟩
 refine ⟨_, rfl, _, rfl, a, C, dx, _, rfl, ha, lc.cls, lc.pf, (by show 0 < 1000; decide), ?_⟩
 rw [putF_l1]
 refine ⟨_, rfl, _, rfl, a, C, dx, _, rfl, upd_same, lc.cls, lc.st, (by show 1 < 1000; decide), ?_⟩
 rw [putF_l2]
 intro o no
 rw [show upd (upd H a (.ins C dx [("prefix", .str x)])) a (.ins C dx [("prefix", .str x), ("spot", v)]) = upd H a (.ins C dx [("prefix", .str x), ("spot", v)]) from by funext b; unfold upd; split <;> rfl] at no ⊢
 have ao : a ≠ o := ne_of_none upd_same no
 have no' : H o = none := by rw [upd_ne (Ne.symm ao)] at no; exact no
 refine ⟨_, rfl, a, C, dx, _, rfl, (by rw [upd_ne ao]; exact upd_same), lc.cls, lc.ow, (by show 2 < 1000; decide), ?_⟩
 rw [putF_l3]
 exact q o _ (fun b o' n e => by rw [upd_ne n, upd_ne (ne_of_none e no'), upd_ne n]; exact e) no' upd_same (by rw [upd_ne (Ne.symm ao), upd_same])
def spFull (K : Frag) (C : Addr) : Sp := fun vs H Q _ => ∃ (a dx o : Addr) (x y : Str) (v : V), vs = [.ref a, .str y] ∧ H a = some (.ins C dx (lyF x v o)) ∧ x.length ≤ 1000 ∧ y.length ≤ 1000 ∧ Q (.str (x ++ y)) H
theorem sc_a1 : FnScope ["self", "name"] ["self", "name"] (defScope s_a1) := sq
theorem ok_a1 {f : Addr} {fd : FuncData} {C : Addr} (F : Fun K "full_name" "Laying.full_name" s_a1 f fd) (lc : LyC K C) : FnOk P w K mg base (CXr P w) 1 f fd ["self", "name"] (spFull K C) := by
 refine fun_okF F sc_a1 (fun vs H Q E h => ?_) (fun cdv A outer s H vs Q E hr h => ?_)
 ·obtain ⟨a, dx, o, x, y, v, rfl, _⟩ := h
  rfl
 obtain ⟨a, dx, o, x, y, v, rfl, ha, lx, ly, q⟩ := h
 refine ⟨_, (pss_one (ps_ret (pe_op op_add_str (pe_fld (pv 0) rfl) (pv 1)))), ?_⟩
 exact ⟨_, rfl, a, C, dx, _, _, rfl, ha, lc.cls, lc.pf, ly_p, _, rfl, x, y, rfl, rfl, Nat.le_trans (Nat.add_le_add lx ly) (by decide), q⟩
def spNew (K : Frag) (C : Addr) : Sp := fun vs H Q _ => ∃ (a dx o : Addr) (x y : Str) (v : V) (kvs : List (Key × V)), vs = [.ref a, .str y] ∧ H a = some (.ins C dx (lyF x v o)) ∧ H o = some (.dK kvs) ∧ valV kvs (.inr y) = none ∧ Q .non H
theorem sc_a2 : FnScope ["self", "name"] ["self", "name"] (defScope s_a2) := sq
theorem ok_a2 {f : Addr} {fd : FuncData} {C : Addr} (F : Fun K "check_new" "Laying.check_new" s_a2 f fd) (lc : LyC K C) : FnOk P w K mg base (CXr P w) 2 f fd ["self", "name"] (spNew K C) := by
 refine fun_okF F sc_a2 (fun vs H Q E h => ?_) (fun cdv A outer s H vs Q E hr h => ?_)
 ·obtain ⟨a, dx, o, x, y, v, kvs, rfl, _⟩ := h
  rfl
 obtain ⟨a, dx, o, x, y, v, kvs, rfl, ha, ho, nv, q⟩ := h
 refine ⟨_, (pss_one (ps_if (pt_cmp (pc_din (hu_of hr) (pv 1) (pe_fld (pv 0) rfl))) (pss_one (ps_never)) pss_nil)), ?_⟩
 refine ⟨_, rfl, _, rfl, a, C, dx, _, _, rfl, ha, lc.cls, lc.ow, ly_o, o, _, rfl, DGet.k (k := .inr y) ho, _, rfl, ?_⟩
 rw [nv]
 exact iteF q
def spNamePin (K : Frag) (C : Addr) : Sp := fun vs H Q _ => ∃ (a dx o : Addr) (x y : Str) (v u : V) (kvs : List (Key × V)), vs = [.ref a, .str y, u] ∧ H a = some (.ins C dx (lyF x v o)) ∧ H o = some (.dK kvs) ∧ kvs.length ≤ 1000 ∧ valV kvs (.inr y) = none ∧ Q .non (upd H o (.dK (kvs ++ [(.inr y, u)])))
theorem sc_a6 : FnScope ["self", "name", "pin"] ["self", "name", "pin"] (defScope s_a6) := sq
theorem ok_a6 {f : Addr} {fd : FuncData} {C : Addr} (F : Fun K "name_pin" "Laying.name_pin" s_a6 f fd) (lc : LyC K C) (MN : MtdOk P w K mg base (CXr P w) 2 C "check_new" ["self", "name"] (spNew K C)) : FnOk P w K mg base (CXr P w) 3 f fd ["self", "name", "pin"] (spNamePin K C) := by
 refine fun_okF F sc_a6 (fun vs H Q E h => ?_) (fun cdv A outer s H vs Q E hr h => ?_)
 ·obtain ⟨a, dx, o, x, y, v, u, kvs, rfl, _⟩ := h
  rfl
 obtain ⟨a, dx, o, x, y, v, u, kvs, rfl, ha, ho, lk, nv, q⟩ := h
 refine ⟨_, (pss_cons (ps_expr (pe_mtd (k := 2) (pv 0) hr.mo (pY P w) (pac (pv 1) pa_nil)))
  (pss_one (ps_dput (hu_of hr) (pe_fld (pv 0) rfl) (pv 1) (pv 2) rfl))), ?_⟩
 refine ⟨_, rfl, a, C, dx, _, _, _, rfl, ha, (by rfl), MN, _, rfl, a, dx, o, x, y, v, kvs, rfl, ha, ho, nv, ?_⟩
 refine ⟨_, rfl, _, rfl, a, C, dx, _, _, rfl, ha, lc.cls, lc.ow, ly_o, _, rfl, o, _, rfl, DPut.k (k := .inr y) ho (Nat.lt_of_le_of_lt lk (by decide)), ?_⟩
 rw [putK_new _ nv]
 exact q
def spOwn (K : Frag) (C : Addr) : Sp := fun vs H Q _ => ∃ (a dx o : Addr) (x y : Str) (v u : V) (kvs : List (Key × V)), vs = [.ref a, .str y] ∧ H a = some (.ins C dx (lyF x v o)) ∧ H o = some (.dK kvs) ∧ valV kvs (.inr y) = some u ∧ Q u H
theorem sc_a9 : FnScope ["self", "name"] ["self", "name"] (defScope s_a9) := sq
theorem ok_a9 {f : Addr} {fd : FuncData} {C : Addr} (F : Fun K "own_pin" "Laying.own_pin" s_a9 f fd) (lc : LyC K C) : FnOk P w K mg base (CXr P w) 1 f fd ["self", "name"] (spOwn K C) := by
 refine fun_okF F sc_a9 (fun vs H Q E h => ?_) (fun cdv A outer s H vs Q E hr h => ?_)
 ·obtain ⟨a, dx, o, x, y, v, u, kvs, rfl, _⟩ := h
  rfl
 obtain ⟨a, dx, o, x, y, v, u, kvs, rfl, ha, ho, nv, q⟩ := h
 refine ⟨_, (pss_cons (ps_if (pt_cmp (pc_dnotin (hu_of hr) (pv 1) (pe_fld (pv 0) rfl))) (pss_one (ps_never)) pss_nil)
  (pss_one (ps_ret (pe_dget (hu_of hr) (pe_fld (pv 0) rfl) (pv 1) (fun _ _ => rfl))))), ?_⟩
 refine ⟨_, rfl, _, rfl, a, C, dx, _, _, rfl, ha, lc.cls, lc.ow, ly_o, o, _, rfl, DGet.k (k := .inr y) ho, _, rfl, ?_⟩
 rw [nv]
 refine iteF ?_
 refine ⟨_, rfl, a, C, dx, _, _, rfl, ha, lc.cls, lc.ow, ly_o, _, rfl, o, u, rfl, ?_, q⟩
 rw [← nv]
 exact DGet.k (k := .inr y) ho
def spPinAt (K : Frag) (C : Addr) : Sp := fun vs H Q _ => ∃ (a dx pP pW pB : Addr) (ps : List (Str × Pt)) (bs : List (Str × Str × Str)) (kP kW kB : List (Key × V)) (v : V) (p : Pt), vs = [.ref a, v] ∧ FrR K H C a dx pP pW pB ps bs kP kW kB ∧ (ps.map (·.1)).Nodup ∧ Spot K H v p ∧ (∀ z ∈ ps, z.2 ≠ p) ∧ ∀ H', Same H H' → Q .non H'
theorem sc_c4 : FnScope ["F", "spot", "pin"] ["F", "spot"] (defScope s_c4) := sq
theorem ok_c4 {C : Addr} (D : Def K mg "pin_at" s_c4 ["F", "spot"]) (MPn : MtdOk P w K mg base (CXr P w) 1 C "pins" ["self"] (spPins K C)) (MPl : MtdOk P w K mg base (CXr P w) 2 C "place" ["self", "pin"] (spPlace K C)) : Fn P w K mg base (CXr P w) 4 "pin_at" ["F", "spot"] (spPinAt K C) := by
 refine D.ok sc_c4 (fun vs H Q E h => ?_) (fun f cdv A outer s H vs Q E hr h => ?_)
 ·obtain ⟨a, dx, pP, pW, pB, ps, bs, kP, kW, kB, v, p, rfl, _⟩ := h
  rfl
 obtain ⟨a, dx, pP, pW, pB, ps, bs, kP, kW, kB, v, p, rfl, R, nd, hv, hs, q⟩ := h
 refine ⟨_, (pss_cons (ps_for PassesOwn.never rfl (pi_list (pe_mtd0 (k := 1) (pv 0) hr.mo (pY P w))) (pg_name (i := 2) sc_c4.nd rfl (Or.inl rfl)) (pss_one (ps_if (pt_cmpR (op_eqDa hr.units) (pe_mtd (k := 2) (pv 0) hr.mo (pY P w) (pac (pv 2) pa_nil)) (pv 1) (nomark _)) (pss_one (ps_ret (pv 2))) pss_nil)))
  (pss_one (ps_ret pe_non))), ?_⟩
 refine ⟨_, rfl, a, C, dx, _, _, _, rfl, R.obj, rfl, MPn, a, dx, pP, pW, pB, ps, bs, kP, kW, kB, rfl, R, fun l H1 s1 nl el => ?_⟩
 refine ⟨l, rfl, ⟨_, SqL.of el⟩, for_list (K := K) (a := l) (xs := (ps.map (·.1)).map V.str) (fun i σ H' => ∃ (o2 : Option V), σ = [some (.ref a), some v, o2] ∧ Same H H' ∧ H' l = some (.lst ((ps.map (·.1)).map V.str))) ⟨none, rfl, s1, el⟩ (fun i σ H' _ h => by
   obtain ⟨_, _, _, h⟩ := h
   exact SqL.of h) ?_ ?_⟩
 ·rintro i z σ H2 hi ⟨o2, rfl, s2, l2⟩
  rw [List.getElem?_map, List.getElem?_map] at hi
  obtain ⟨x, hx, rfl⟩ := Option.map_eq_some_iff.mp hi
  obtain ⟨y, ey, rfl⟩ := Option.map_eq_some_iff.mp hx
  have my : y ∈ ps := List.mem_of_getElem? ey
  have R2 := R.same s2
  refine ⟨_, rfl, a, C, dx, _, _, _, rfl, R2.obj, rfl, MPl, _, rfl, a, dx, pP, pW, pB, ps, bs, kP, kW, kB, y.1, y.2, rfl, R2, nd, my, fun u hu => ?_⟩
  refine ⟨_, rfl, spotD y.2, spotD p, .inl ⟨hu.is, (hv.sameT (.of s2)).is⟩, alike_spots _ _, dep_spots _, ?_⟩
  rw [eq_spots]
  refine ⟨_, rfl, ?_⟩
  refine ite2 (fun c => absurd (of_decide_eq_true c) (hs y my)) (fun _ => ?_)
  exact ⟨_, rfl, s2, l2⟩
 ·rintro σ H2 ⟨o2, rfl, s2, l2⟩
  exact q H2 s2
theorem alikes_nil (ds : List Da) : alikes ds [] = true := by
 cases ds <;> rfl
theorem no_waysR (v : V) : List.lookup ("ways" : Str) [(("way" : Str), v)] = none := by
 have h : (("ways" : Str) == "way") = false := by decide +kernel
 simp [List.lookup, h]
def spHoldFrom (P : Program) (w : World) (K : Frag) (mg : Str → Option Value) (base : Heap) : Sp := fun vs H Q _ => ∃ (l : Addr) (us : List V) (ws : List (Rat × Rat)), vs = [.ref l] ∧ H l = some (.lst us) ∧ Paired (RvR K H) us (holdV ws) ∧ ws.length ≤ 2 ∧ (∀ w, ws = [w] → ¬ (w.1 = 0 ∧ w.2 = 0)) ∧ (ws.length = 2 → ws = [(1, 0), (0, 1)]) ∧ ∀ (hv : V) (H' : Hp), Same H H' → HoldY P w K mg base H' hv ws → Q hv H'
theorem sc_b4 : FnScope ["values"] ["values"] (defScope s_b4) := sq
theorem ok_b4 {CR CF fR : Addr} {fdR : FuncData} (D : Def K mg "hold_from" s_b4 ["values"]) (m_len : mg "len" = none)
  (m_ca : mg "Roller" = some (.ref CR)) (m_ci : mg "Fixed" = some (.ref CF)) (M_ci : Mk0 K CF) (M_ca : Mk K CR fR) (G_aj : FnOk P w K mg base (CXr P w) 1 fR fdR ["self", "x", "y"] (spRInit K CR)) (b_aj : Binds K fdR ["self", "x", "y"] [])
  (wR : MtdOk P w K mg base (CXr P w) 2 CR "ways" ["self"] (spRWays K CR)) (wF : MtdOk P w K mg base (CXr P w) 2 CF "ways" ["self"] (spFixed K)) : Fn P w K mg base (CXr P w) 4 "hold_from" ["values"] (spHoldFrom P w K mg base) := by
 refine D.ok sc_b4 (fun vs H Q E h => ?_) (fun f cdv A outer s H vs Q E hr h => ?_)
 ·obtain ⟨l, us, ws, rfl, _⟩ := h
  rfl
 obtain ⟨l, us, ws, rfl, hl, pu, lw, n0, n2, q⟩ := h
 refine ⟨_, (pss_cons (ps_if (pt_cmpR (op_eqDa hr.units) (pv 0) (pe_lst pa_nil) (nomark _)) (pss_one (ps_ret pe_non)) pss_nil)
  (pss_one (ps_ret (pe_ifExp (pt_cmpR op_eq (pe_callB call_len_seq rfl m_len b_len (pac (pv 0) pa_nil)) pe_int (nomark _)) (pe_mk0 M_ci rfl m_ci) (pe_make M_ca G_aj hr.mo rfl m_ca b_aj .nil pX (pac (pe_lx (pv 0)) (pac (pe_lx (pv 0)) pa_nil))))))), ?_⟩
 refine ⟨_, rfl, (by show 0 ≤ sizeLine; decide), ?_⟩
 intro l1 m1; generalize eX : upd _ l1 _ = H1; have ⟨s1, e1⟩ := nw m1 eX; clear eX
 have pu1 : Paired (RvR K H1) us (holdV ws) := Paired.mapP pu fun _ _ z => z.sameT (.of s1)
 have hl1 := s1 _ _ hl
 refine ⟨_, [], .inr ⟨rv_isL (SqL.of hl1) pu1, rv_isL (rs := []) (SqL.of e1) .nil⟩, alikes_nil _, deps_da _, _, rfl, ?_⟩
 match ws, lw, n0, n2, us, pu1 with
 | [], _, _, _, [], _ =>
  refine ite2 (fun _ => ?_) (fun c => absurd rfl c)
  exact q _ H1 s1 (.inl ⟨rfl, rfl⟩)
 | [w'], _, n0, _, [u1, u2, u3], .cons h1 (.cons h2 (.cons h3 .nil)) =>
  refine ite2 (fun c => nomatch c) (fun _ => ?_)
  refine ⟨_, rfl, l, _, rfl, .inl (SqL.of hl1), rfl, _, rfl, ?_⟩
  refine ite2 (fun c => by simp at c) (fun _ => ?_)
  refine ⟨_, rfl, l, _, _, _, rfl, rfl, SqL.of hl1, rfl, _, rfl, l, _, _, _, rfl, rfl, SqL.of hl1, rfl, ?_⟩
  intro h1' d1 nh1 nd1 ne1
  have s4 : Same H1 (upd (upd H1 d1 (.own h1')) h1' (.ins CR d1 [])) := fun b o e => by rw [upd_ne (ne_of_none e nh1), upd_ne (ne_of_none e nd1)]; exact e
  have e4 : (upd (upd H1 d1 (.own h1')) h1' (.ins CR d1 [])) h1' = some (.ins CR d1 []) := upd_same
  generalize upd (upd H1 d1 (.own h1')) h1' (.ins CR d1 []) = H4 at s4 e4 ⊢
  have hm1 : NmR K H4 u2 w'.1 := NmR.same h2 s4
  have hm2 : NmR K H4 u3 w'.2 := NmR.same h3 s4
  refine ⟨h1', d1, u2, u3, w'.1, w'.2, rfl, e4, hm1, hm2, n0 w' rfl, fun p5 n5 => ⟨rfl, ?_⟩⟩
  have hne : p5 ≠ h1' := fun z => by rw [z, e4] at n5; cases n5
  have s5 : Same H1 (upd (upd H4 p5 (.tup [u2, u3])) h1' (.ins CR d1 [("way", .ref p5)])) := fun b o e => by
   have z : b ≠ h1' := fun z => by rw [z, nh1] at e; cases e
   rw [upd_ne z]
   exact same_new n5 _ _ _ (s4 _ _ e)
  have e5 : (upd (upd H4 p5 (.tup [u2, u3])) h1' (.ins CR d1 [("way", .ref p5)])) h1' = some (.ins CR d1 [("way", .ref p5)]) := upd_same
  have t5 : (upd (upd H4 p5 (.tup [u2, u3])) h1' (.ins CR d1 [("way", .ref p5)])) p5 = some (.tup [u2, u3]) := by rw [upd_ne hne, upd_same]
  generalize upd (upd H4 p5 (.tup [u2, u3])) h1' (.ins CR d1 [("way", .ref p5)]) = H5 at s5 e5 t5 ⊢
  have hway : PtR K H5 (.ref p5) w' := ⟨p5, u2, u3, rfl, SqT.of t5, NmR.same h2 s5, NmR.same h3 s5⟩
  exact q _ H5 (sm_tr s1 s5) (.inr ⟨h1', CR, d1, _, ["self"], spRWays K CR, rfl, e5, no_waysR _, wR, fun H6 e6 t6 Q' an => ⟨h1', d1, p5, w', rfl, e6, hway.sameT t6, an⟩⟩)
 | [w1, w2], _, _, n2, [u1], _ =>
  refine ite2 (fun c => nomatch c) (fun _ => ?_)
  refine ⟨_, rfl, l, _, rfl, .inl (SqL.of hl1), rfl, _, rfl, ?_⟩
  refine ite2 (fun _ => ?_) (fun c => absurd rfl c)
  intro h1' d1 nh1 nd1 ne1
  have s4 : Same H1 (upd (upd H1 d1 (.own h1')) h1' (.ins CF d1 [])) := fun b o e => by rw [upd_ne (ne_of_none e nh1), upd_ne (ne_of_none e nd1)]; exact e
  have e4 : (upd (upd H1 d1 (.own h1')) h1' (.ins CF d1 [])) h1' = some (.ins CF d1 []) := upd_same
  generalize upd (upd H1 d1 (.own h1')) h1' (.ins CF d1 []) = H4 at s4 e4 ⊢
  have hw := n2 rfl
  exact q _ H4 (sm_tr s1 s4) (.inr ⟨h1', CF, d1, [], ["self"], spFixed K, rfl, e4, rfl, wF, fun H6 _ _ Q' an => ⟨h1', rfl, by rw [hw] at an; exact an⟩⟩)
theorem fr_updD {H : Hp} {C a dx pP pW pB b : Addr} {ps : List (Str × Pt)} {bs : List (Str × Str × Str)} {kP kW kB kvs : List (Key × V)} {o : HO} (R : FrR K H C a dx pP pW pB ps bs kP kW kB) (e : H b = some (.dK kvs)) (n1 : b ≠ pP) (n2 : b ≠ pW) (n3 : b ≠ pB) : FrR K (upd H b o) C a dx pP pW pB ps bs kP kW kB := by
 have s : SameT H (upd H b o) := .dict e
 exact ⟨by rw [upd_ne (fun z => by have h := R.obj; rw [z, e] at h; cases h)]; exact R.obj, by rw [upd_ne (Ne.symm n1)]; exact R.pl, by rw [upd_ne (Ne.symm n2)]; exact R.wy, by rw [upd_ne (Ne.symm n3)]; exact R.br, R.ne1, R.ne2, R.ne3, Paired.mapP R.rp fun _ _ h => ⟨h.1, h.2.sameT s⟩, Paired.mapP R.rb fun _ _ h => ⟨h.1, by obtain ⟨p, e, k⟩ := h.2; exact ⟨p, e, s _ _ k⟩⟩⟩
def atP (c s : Rat × Rat) : Rat × Rat := (c.1 + s.1, c.2 + s.2)
structure LayR (K : Frag) (H : Hp) (CG CL CF ga gd fr la ld o dxf pP pW pB : Addr) (vp sv : V) (n : Int) (x : Str) (c : Rat × Rat) (own : List (Key × V)) (ps : List (Str × Pt)) (bs : List (Str × Str × Str)) (kP kW kB : List (Key × V)) (pw : List (Str × List (Rat × Rat))) : Prop where
 hga : H ga = some (.ins CG gd (grF fr vp n))
 hla : H la = some (.ins CL ld (lyF x sv o))
 hsv : PtR K H sv c
 z1 : Sz 100000 c.1
 z2 : Sz 100000 c.2
 hown : H o = some (.dK own)
 R : FrR K H CF fr dxf pP pW pB ps bs kP kW kB
 W : WyR K H pw kW
 ew : pw.map (·.1) = ps.map (·.1)
 nd : (ps.map (·.1)).Nodup
 o1 : o ≠ pP
 o2 : o ≠ pW
 o3 : o ≠ pB
 gl : ga ≠ la
 lx : x.length ≤ 1000
theorem LayR.same {H H' : Hp} {CG CL CF ga gd fr la ld o dxf pP pW pB : Addr} {vp sv : V} {n : Int} {x : Str} {c : Rat × Rat} {own : List (Key × V)} {ps : List (Str × Pt)} {bs : List (Str × Str × Str)} {kP kW kB : List (Key × V)} {pw : List (Str × List (Rat × Rat))} (h : LayR K H CG CL CF ga gd fr la ld o dxf pP pW pB vp sv n x c own ps bs kP kW kB pw) (s : Same H H') : LayR K H' CG CL CF ga gd fr la ld o dxf pP pW pB vp sv n x c own ps bs kP kW kB pw :=
 { h with hga := s _ _ h.hga, hla := s _ _ h.hla, hsv := h.hsv.same s, hown := s _ _ h.hown, R := h.R.same s, W := h.W.same s }
def spLayPin (K : Frag) (CG CL CF : Addr) : Sp := fun vs H Q _ => ∃ (ga gd fr la ld o dxf pP pW pB l : Addr) (vp sv : V) (n : Int) (x : Str) (c : Rat × Rat) (own : List (Key × V)) (ps : List (Str × Pt)) (bs : List (Str × Str × Str)) (kP kW kB : List (Key × V)) (pw : List (Str × List (Rat × Rat))) (us : List V) (p : PinD),
 vs = [.ref ga, .ref la, .ref l] ∧ LayR K H CG CL CF ga gd fr la ld o dxf pP pW pB vp sv n x c own ps bs kP kW kB pw ∧ own.length ≤ 1000 ∧ valV own (.inr p.nm) = none ∧ H l = some (.lst us) ∧ Paired (RvR K H) us (valP p) ∧ p.nm.length ≤ 1000 ∧ Sz 100000 p.sp.1 ∧ Sz 100000 p.sp.2 ∧ (x ++ p.nm) ∉ ps.map (·.1) ∧ (∀ z ∈ ps, z.2 ≠ ptQ (atP c p.sp)) ∧ ps.length < 24 ∧ p.ws.length ≤ 2 ∧ (∀ w, p.ws = [w] → ¬ (w.1 = 0 ∧ w.2 = 0)) ∧ (p.ws.length = 2 → p.ws = [(1, 0), (0, 1)]) ∧
 ∀ (H' : Hp) (kP' kW' : List (Key × V)), (∀ b o', b ≠ pP → b ≠ pW → b ≠ o → H b = some o' → H' b = some o') → LayR K H' CG CL CF ga gd fr la ld o dxf pP pW pB vp sv n x c (own ++ [(.inr p.nm, .str (x ++ p.nm))]) (ps ++ [(x ++ p.nm, ptQ (atP c p.sp))]) bs kP' kW' kB (pw ++ [(x ++ p.nm, p.ws)]) → Q .non H'
theorem paired_len4 {H : Hp} {us : List V} {p : PinD} (h : Paired (RvR K H) us (valP p)) : ∃ u2 u3 ur, us = .str "pin" :: .str p.nm :: u2 :: u3 :: ur ∧ NmR K H u2 p.sp.1 ∧ NmR K H u3 p.sp.2 ∧ Paired (RvR K H) ur (holdV p.ws) := by
 have h' : Paired (RvR K H) us (RV.w "pin" :: .w p.nm :: .q p.sp.1 :: .q p.sp.2 :: holdV p.ws) := h
 cases h' with
 | cons a1 t =>
  cases t with
  | cons a2 t =>
   cases t with
   | cons a3 t =>
    cases t with
    | cons a4 t => exact ⟨_, _, _, by rw [show _ = V.str "pin" from a1, show _ = V.str p.nm from a2], a3, a4, t⟩
theorem sc_bw : FnScope ["ground", "laying", "row", "spot", "pin"] ["ground", "laying", "row"] (defScope s_bw) := sq
theorem ok_bw {CG CL CF : Addr} (D : Def K mg "lay_pin" s_bw ["ground", "laying", "row"]) (gc : GrC K CG) (lc : LyC K CL) (G_bj : Fn P w K mg base (CXr P w) 35 "pair_sum" ["one", "other"] (spPair K fun a b => a + b))
  (MN : MtdOk P w K mg base (CXr P w) 2 CL "check_new" ["self", "name"] (spNew K CL)) (MF : MtdOk P w K mg base (CXr P w) 1 CL "full_name" ["self", "name"] (spFull K CL)) (MP : MtdOk P w K mg base (CXr P w) 3 CL "name_pin" ["self", "name", "pin"] (spNamePin K CL))
  (G_c4 : Fn P w K mg base (CXr P w) 4 "pin_at" ["F", "spot"] (spPinAt K CF)) (G_b4 : Fn P w K mg base (CXr P w) 4 "hold_from" ["values"] (spHoldFrom P w K mg base)) (MPp : MtdOk P w K mg base (CXr P w) 3 CF "put_pin" ["self", "name", "x", "y", "hold"] (spPutPinW P w K mg base CF)) :
  Fn P w K mg base (CXr P w) 37 "lay_pin" ["ground", "laying", "row"] (spLayPin K CG CL CF) := by
 refine D.ok sc_bw (fun vs H Q E h => ?_) (fun f cdv A outer s H vs Q E hr h => ?_)
 ·obtain ⟨ga, gd, fr, la, ld, o, dxf, pP, pW, pB, l, vp, sv, n, x, c, own, ps, bs, kP, kW, kB, pw, us, p, rfl, _⟩ := h
  rfl
 obtain ⟨ga, gd, fr, la, ld, o, dxf, pP, pW, pB, l, vp, sv, n, x, c, own, ps, bs, kP, kW, kB, pw, us, p, rfl, L, lo, no, hl, pu, ln, z1, z2, nn, ns, l24, lw, one, two, q⟩ := h
 obtain ⟨u2, u3, ur, eu, h2, h3, hr'⟩ := paired_len4 pu
 have i1 : atI us 1 = some (.str p.nm) := by rw [eu]; exact atI_nat (j := 1) rfl
 have i2 : atI us 2 = some u2 := by rw [eu]; exact atI_nat (j := 2) rfl
 have i3 : atI us 3 = some u3 := by rw [eu]; exact atI_nat (j := 3) rfl
 have e4 : us.drop 4 = ur := by rw [eu]; rfl
 refine ⟨_, (pss_cons (ps_expr (pe_mtd (k := 2) (pv 1) hr.mo (pY P w) (pac (pe_lx (pv 2)) pa_nil)))
  (pss_cons (ps_set (i := 3) sc_bw.nd rfl (Or.inl rfl) (pe_fn G_bj hr.mo (pY P w) (pac (pe_fld (pv 1) rfl) (pac (pe_tup (pac (pe_lx (pv 2)) (pac (pe_lx (pv 2)) pa_nil))) pa_nil))))
  (pss_cons (ps_set (i := 4) sc_bw.nd rfl (Or.inl rfl) (pe_fn G_c4 hr.mo (pY P w) (pac (pe_fld (pv 0) rfl) (pac (pv 3) pa_nil))))
  (pss_cons (ps_if (pt_cmpR op_isN (pv 4) pe_non (nomark _)) (pss_cons (ps_set (i := 4) sc_bw.nd rfl (Or.inl rfl) (pe_mtd (k := 1) (pv 1) hr.mo (pY P w) (pac (pe_lx (pv 2)) pa_nil)))
   (pss_one (ps_expr (pe_mtd (k := 3) (pe_fld (pv 0) rfl) hr.mo (pY P w) (pac (pv 4) (pac (pe_tx (pv 3)) (pac (pe_tx (pv 3)) (pac (pe_fn G_b4 hr.mo (pY P w) (pac (pe_slice sl_list (pv 2) (po_some pe_int) po_none) pa_nil)) pa_nil)))))))) pss_nil)
  (pss_one (ps_expr (pe_mtd (k := 3) (pv 1) hr.mo (pY P w) (pac (pe_lx (pv 2)) (pac (pv 4) pa_nil))))))))), ?_⟩
 refine ⟨_, rfl, la, CL, ld, _, _, _, rfl, L.hla, rfl, MN, _, rfl, l, _, _, _, rfl, rfl, SqL.of hl, i1, la, ld, o, x, p.nm, sv, own, rfl, L.hla, L.hown, no, ?_⟩
 refine ⟨_, rfl, la, CL, ld, _, _, rfl, L.hla, lc.cls, lc.st, ly_s, _, rfl, l, _, _, _, rfl, rfl, SqL.of hl, i2, _, rfl, l, _, _, _, rfl, rfl, SqL.of hl, i3, (by show 2 ≤ sizeLine; decide), ?_⟩
 intro t1 nt1; generalize eX : upd _ t1 _ = H1; have ⟨s1, et1⟩ := nw nt1 eX; clear eX
 have L1 := L.same s1
 refine ⟨sv, .ref t1, c, p.sp, rfl, L1.hsv, ⟨t1, u2, u3, rfl, SqT.of et1, h2.same s1, h3.same s1⟩, L.z1, L.z2, z1, z2, fun v2 H2 s2 hv2 => ?_⟩
 have hv2' : PtR K H2 v2 (atP c p.sp) := hv2
 have s02 := sm_tr s1 s2
 have L2 := L.same s02
 refine ⟨_, rfl, ga, CG, gd, _, _, rfl, L2.hga, gc.cls, gc.fr, gr_f, _, rfl, fr, dxf, pP, pW, pB, ps, bs, kP, kW, kB, v2, ptQ (atP c p.sp), rfl, L2.R, L.nd, hv2', ns, fun H3 s3 => ?_⟩
 have s03 := sm_tr s02 s3
 have L3 := L.same s03
 have hl3 := s03 _ _ hl
 refine ⟨_, rfl, rfl, _, rfl, ?_⟩
 refine ite2 (fun _ => ?_) (fun c => absurd (by decide) c)
 refine ⟨_, rfl, la, CL, ld, _, _, _, rfl, L3.hla, rfl, MF, _, rfl, l, _, _, _, rfl, rfl, SqL.of hl3, i1, la, ld, o, x, p.nm, sv, rfl, L3.hla, L.lx, ln, ?_⟩
 obtain ⟨sa, y1, y2, rfl, hsq, hn1, hn2⟩ := hv2'.same s3
 refine ⟨_, rfl, ga, CG, gd, _, _, rfl, L3.hga, gc.cls, gc.fr, gr_f, fr, CF, dxf, _, _, _, rfl, L3.R.obj, rfl, MPp, _, rfl, _, rfl, sa, _, _, _, rfl, rfl, hsq, at0, _, rfl, sa, _, _, _, rfl, rfl, hsq, at1, _, rfl, 4, rfl, l, _, rfl, SqL.of hl3, ?_⟩
 rw [cut4, e4]
 intro l4 n4; generalize eX : upd _ l4 _ = H4; have ⟨s4, el4⟩ := nw n4 eX; clear eX
 refine ⟨l4, ur, p.ws, rfl, el4, Paired.mapP hr' fun _ _ z => z.sameT (.of (sm_tr s03 s4)), lw, one, two, fun hv H5 s5 hH => ?_⟩
 have s35 := sm_tr s4 s5
 have s05 := sm_tr s03 s35
 have L5 := L.same s05
 dsimp only [tNil]
 refine ⟨fr, dxf, pP, pW, pB, ps, bs, kP, kW, kB, pw, x ++ p.nm, y1, y2, hv, ptQ (atP c p.sp), p.ws, rfl, L5.R, L5.W, L.ew, hn1.same s35, hn2.same s35, nn, ns, l24, hH, fun H6 kP' kW' k6 R6 W6 => ?_⟩
 have k06 : ∀ b o', b ≠ pP → b ≠ pW → H b = some o' → H6 b = some o' := fun b o' n1 n2 e => k6 b o' n1 n2 (s05 _ _ e)
 have nP : ∀ {b : Addr} {o' : HO}, H b = some o' → (∀ kvs, o' ≠ .dK kvs) → b ≠ pP ∧ b ≠ pW := fun {b o'} e hn => ⟨fun z => by rw [z, L.R.pl] at e; exact hn _ (Option.some.inj e).symm, fun z => by rw [z, L.R.wy] at e; exact hn _ (Option.some.inj e).symm⟩
 have la6 := k06 _ _ (nP L.hla (fun _ z => nomatch z)).1 (nP L.hla (fun _ z => nomatch z)).2 L.hla
 have ga6 := k06 _ _ (nP L.hga (fun _ z => nomatch z)).1 (nP L.hga (fun _ z => nomatch z)).2 L.hga
 have l6 := k06 _ _ (nP hl (fun _ z => nomatch z)).1 (nP hl (fun _ z => nomatch z)).2 hl
 have o6 := k06 _ _ L.o1 L.o2 L.hown
 refine ⟨_, rfl, la, CL, ld, _, _, _, rfl, la6, rfl, MP, _, rfl, l, _, _, _, rfl, rfl, SqL.of l6, i1, _, rfl, la, ld, o, x, p.nm, sv, .str (x ++ p.nm), own, rfl, la6, o6, lo, no, ?_⟩
 have t06 : SameT H H6 := fun b xs r => by
  rcases r with r | ⟨o', r⟩
  ·exact .inl (k06 _ _ (nP r (fun _ z => nomatch z)).1 (nP r (fun _ z => nomatch z)).2 r)
  ·exact .inr ⟨o', k06 _ _ (nP r (fun _ z => nomatch z)).1 (nP r (fun _ z => nomatch z)).2 r⟩
 have t67 : SameT H6 (upd H6 o (.dK (own ++ [(.inr p.nm, .str (x ++ p.nm))]))) := .dict o6
 refine q _ kP' kW' (fun b o' n1 n2 n3 e => by rw [upd_ne n3]; exact k06 b o' n1 n2 e) ⟨?_, ?_, (L.hsv.sameT t06).sameT t67, L.z1, L.z2, upd_same, fr_updD R6 o6 L.o1 L.o2 L.o3, W6.dict o6, ?_, ?_, L.o1, L.o2, L.o3, L.gl, L.lx⟩
 ·rw [upd_ne (fun z => by have h := L.hga; rw [z, L.hown] at h; cases h)]
  exact ga6
 ·rw [upd_ne (fun z => by have h := L.hla; rw [z, L.hown] at h; cases h)]
  exact la6
 ·rw [List.map_append, List.map_append, L.ew]
  rfl
 ·rw [List.map_append, List.nodup_append]
  refine ⟨L.nd, by simp, fun a ha b hb e => nn ?_⟩
  have hb' : b = x ++ p.nm := by simpa using hb
  rw [← hb', ← e]
  exact ha
theorem paired_bar4 {H : Hp} {us : List V} {b : BarD} (h : Paired (RvR K H) us (valB b)) : us = [.str "bar", .str b.nm, .str b.one.nm, .str b.other.nm] := by
 have h' : Paired (RvR K H) us [RV.w "bar", .w b.nm, .w b.one.nm, .w b.other.nm] := h
 cases h' with
 | cons a1 t =>
  cases t with
  | cons a2 t =>
   cases t with
   | cons a3 t =>
    cases t with
    | cons a4 t =>
     cases t
     rw [show _ = V.str "bar" from a1, show _ = V.str b.nm from a2, show _ = V.str b.one.nm from a3, show _ = V.str b.other.nm from a4]
def spLayBar (K : Frag) (CG CL CF : Addr) : Sp := fun vs H Q _ => ∃ (ga gd fr la ld o dxf pP pW pB l : Addr) (vp sv : V) (n : Int) (x : Str) (c : Rat × Rat) (own : List (Key × V)) (ps : List (Str × Pt)) (bs : List (Str × Str × Str)) (kP kW kB : List (Key × V)) (pw : List (Str × List (Rat × Rat))) (us : List V) (b : BarD) (y1 y2 : Str),
 vs = [.ref ga, .ref la, .ref l] ∧ LayR K H CG CL CF ga gd fr la ld o dxf pP pW pB vp sv n x c own ps bs kP kW kB pw ∧ H l = some (.lst us) ∧ Paired (RvR K H) us (valB b) ∧ b.nm.length ≤ 1000 ∧ valV own (.inr b.one.nm) = some (.str y1) ∧ valV own (.inr b.other.nm) = some (.str y2) ∧ (x ++ b.nm) ∉ bs.map (·.1) ∧ y1 ∈ ps.map (·.1) ∧ y2 ∈ ps.map (·.1) ∧ y1 ≠ y2 ∧ bs.length < 60 ∧
 ∀ (H' : Hp) (kB' : List (Key × V)), KSame pB H H' → LayR K H' CG CL CF ga gd fr la ld o dxf pP pW pB vp sv n x c own ps (bs ++ [(x ++ b.nm, y1, y2)]) kP kW kB' pw → Q .non H'
theorem sc_bx : FnScope ["ground", "laying", "row", "one", "other"] ["ground", "laying", "row"] (defScope s_bx) := sq
theorem ok_bx {CG CL CF : Addr} (D : Def K mg "lay_bar" s_bx ["ground", "laying", "row"]) (gc : GrC K CG) (lc : LyC K CL)
  (MO : MtdOk P w K mg base (CXr P w) 1 CL "own_pin" ["self", "name"] (spOwn K CL)) (MF : MtdOk P w K mg base (CXr P w) 1 CL "full_name" ["self", "name"] (spFull K CL)) (MPb : MtdOk P w K mg base (CXr P w) 3 CF "put_bar" ["self", "name", "one", "other"] (spPutBar K CF)) :
  Fn P w K mg base (CXr P w) 37 "lay_bar" ["ground", "laying", "row"] (spLayBar K CG CL CF) := by
 refine D.ok sc_bx (fun vs H Q E h => ?_) (fun f cdv A outer s H vs Q E hr h => ?_)
 ·obtain ⟨ga, gd, fr, la, ld, o, dxf, pP, pW, pB, l, vp, sv, n, x, c, own, ps, bs, kP, kW, kB, pw, us, b, y1, y2, rfl, _⟩ := h
  rfl
 obtain ⟨ga, gd, fr, la, ld, o, dxf, pP, pW, pB, l, vp, sv, n, x, c, own, ps, bs, kP, kW, kB, pw, us, b, y1, y2, rfl, L, hl, pu, ln, v1, v2, nn, m1, m2, ne, l60, q⟩ := h
 have eu := paired_bar4 pu
 have i1 : atI us 1 = some (.str b.nm) := by rw [eu]; exact atI_nat (j := 1) rfl
 have i2 : atI us 2 = some (.str b.one.nm) := by rw [eu]; exact atI_nat (j := 2) rfl
 have i3 : atI us 3 = some (.str b.other.nm) := by rw [eu]; exact atI_nat (j := 3) rfl
 refine ⟨_, (pss_cons (ps_set (i := 3) sc_bx.nd rfl (Or.inl rfl) (pe_mtd (k := 1) (pv 1) hr.mo (pY P w) (pac (pe_lx (pv 2)) pa_nil)))
  (pss_cons (ps_set (i := 4) sc_bx.nd rfl (Or.inl rfl) (pe_mtd (k := 1) (pv 1) hr.mo (pY P w) (pac (pe_lx (pv 2)) pa_nil)))
  (pss_one (ps_expr (pe_mtd (k := 3) (pe_fld (pv 0) rfl) hr.mo (pY P w) (pac (pe_mtd (k := 1) (pv 1) hr.mo (pY P w) (pac (pe_lx (pv 2)) pa_nil)) (pac (pv 3) (pac (pv 4) pa_nil)))))))), ?_⟩
 refine ⟨_, rfl, la, CL, ld, _, _, _, rfl, L.hla, rfl, MO, _, rfl, l, _, _, _, rfl, rfl, SqL.of hl, i2, la, ld, o, x, b.one.nm, sv, .str y1, own, rfl, L.hla, L.hown, v1, ?_⟩
 refine ⟨_, rfl, la, CL, ld, _, _, _, rfl, L.hla, rfl, MO, _, rfl, l, _, _, _, rfl, rfl, SqL.of hl, i3, la, ld, o, x, b.other.nm, sv, .str y2, own, rfl, L.hla, L.hown, v2, ?_⟩
 refine ⟨_, rfl, ga, CG, gd, _, _, rfl, L.hga, gc.cls, gc.fr, gr_f, fr, CF, dxf, _, _, _, rfl, L.R.obj, rfl, MPb, _, rfl, la, CL, ld, _, _, _, rfl, L.hla, rfl, MF, _, rfl, l, _, _, _, rfl, rfl, SqL.of hl, i1, la, ld, o, x, b.nm, sv, rfl, L.hla, L.lx, ln, _, rfl, _, rfl, ?_⟩
 refine ⟨fr, dxf, pP, pW, pB, ps, bs, kP, kW, kB, x ++ b.nm, y1, y2, rfl, L.R, nn, m1, m2, ne, l60, fun H' kB' k' R' => ?_⟩
 have nB : ∀ {b : Addr} {o' : HO}, H b = some o' → (∀ kvs, o' ≠ .dK kvs) → b ≠ pB := fun {b o'} e hn z => by rw [z, L.R.br] at e; exact hn _ (Option.some.inj e).symm
 have t' : SameT H H' := fun b xs r => by
  rcases r with r | ⟨o', r⟩
  ·exact .inl (k' _ _ (nB r (fun _ z => nomatch z)) r)
  ·exact .inr ⟨o', k' _ _ (nB r (fun _ z => nomatch z)) r⟩
 refine q H' kB' k' { L with hga := k' _ _ (nB L.hga (fun _ z => nomatch z)) L.hga, hla := k' _ _ (nB L.hla (fun _ z => nomatch z)) L.hla, hsv := L.hsv.sameT t', hown := k' _ _ L.o3 L.hown, R := R', W := ?_ }
 refine Paired.mapP L.W fun p' kv z => ⟨z.1, ?_⟩
 obtain ⟨l', us', z1, z2, z3⟩ := z.2
 exact ⟨l', us', z1, k' _ _ (nB z2 (fun _ z => nomatch z)) z2, z3.sameT t'⟩
def ownOf (ps : List PinD) : List (Key × V) := ps.map fun p => (.inr p.nm, .str p.nm)
theorem own_val {ps : List PinD} {p : PinD} (h : p ∈ ps) : valV (ownOf ps) (.inr p.nm) = some (.str p.nm) := by
 obtain ⟨v, e⟩ := valV_some (kvs := ownOf ps) (k := .inr p.nm) (by unfold ownOf; rw [List.map_map]; exact List.mem_map.mpr ⟨p, h, rfl⟩)
 obtain ⟨p', _, e'⟩ := List.mem_map.mp (valV_mem e)
 obtain ⟨e1, e2⟩ := Prod.mk.inj e'
 rw [e, ← e2, Sum.inr.inj e1]
theorem own_no {ps : List PinD} {x : Str} (h : ∀ p ∈ ps, p.nm ≠ x) : valV (ownOf ps) (.inr x) = none := valV_none (by
 unfold ownOf
 rw [List.map_map]
 intro z
 obtain ⟨p, hp, e⟩ := List.mem_map.mp z
 exact h p hp (Sum.inr.inj e))
theorem no_app (x : Str) : ("" : Str) ++ x = x := str_ext (by rw [cps_append]; rfl)
theorem at_zero (s : Rat × Rat) : atP (0, 0) s = s := by
 unfold atP
 rw [Rat.zero_add, Rat.zero_add]
theorem sz_nought : Sz 100000 (0 : Rat) := ⟨by rw [qr_nought]; decide, by rw [qr_nought]; decide⟩
def RowR (K : Frag) (H : Hp) (u : V) (rs : List RV) : Prop := ∃ l us, u = .ref l ∧ H l = some (.lst us) ∧ Paired (RvR K H) us rs
def valsF (pins : List PinD) (bars : List BarD) : List (List RV) := pins.map valP ++ bars.map valB
theorem lay_count {H : Hp} {CG CL CF ga gd fr la ld o dxf pP pW pB : Addr} {vp sv : V} {n m : Int} {x : Str} {c : Rat × Rat} {own : List (Key × V)} {ps : List (Str × Pt)} {bs : List (Str × Str × Str)} {kP kW kB : List (Key × V)} {pw : List (Str × List (Rat × Rat))} (h : LayR K H CG CL CF ga gd fr la ld o dxf pP pW pB vp sv n x c own ps bs kP kW kB pw) : LayR K (upd H ga (.ins CG gd (grF fr vp m))) CG CL CF ga gd fr la ld o dxf pP pW pB vp sv m x c own ps bs kP kW kB pw := by
 have s : SameT H (upd H ga (.ins CG gd (grF fr vp m))) := fun c xs r => by
  rcases r with r | ⟨o, r⟩
  ·exact .inl (by rw [upd_ne (fun z => by rw [z, h.hga] at r; cases r)]; exact r)
  ·exact .inr ⟨o, by rw [upd_ne (fun z => by rw [z, h.hga] at r; cases r)]; exact r⟩
 have nf : fr ≠ ga := fun z => by
  have e := h.R.obj
  rw [z, h.hga] at e
  have e2 := (HO.ins.inj (Option.some.inj e)).2.2
  have e3 := congrArg Prod.fst (List.cons.inj e2).1
  exact absurd (show ("frame" : Str) = "pin_places" from e3) (by decide +kernel)
 refine { h with hga := upd_same, hla := by rw [upd_ne (Ne.symm h.gl)]; exact h.hla, hsv := h.hsv.sameT s, hown := ?_, R := fr_upd1 h.R h.hga nf, W := ?_ }
 ·rw [upd_ne (fun z => by have e := h.hown; rw [z, h.hga] at e; cases e)]
  exact h.hown
 ·refine Paired.mapP h.W fun p' kv z => ⟨z.1, ?_⟩
  obtain ⟨l', us', z1, z2, z3⟩ := z.2
  exact ⟨l', us', z1, by rw [upd_ne (fun z => by rw [z, h.hga] at z2; cases z2)]; exact z2, z3.sameT s⟩
def spLayRows (K : Frag) (CG CF : Addr) : Sp := fun vs H Q _ => ∃ (ga gd fr dxf pP pW pB rA : Addr) (vp sv : V) (rus : List V) (pins : List PinD) (bars : List BarD), vs = [.ref ga, .ref rA, .str "", sv] ∧ H ga = some (.ins CG gd (grF fr vp 0)) ∧ FrR K H CF fr dxf pP pW pB [] [] [] [] [] ∧ PtR K H sv (0, 0) ∧ H rA = some (.lst rus) ∧ Paired (RowR K H) rus (valsF pins bars) ∧ ReadF pins bars ∧
 ∀ (u : V) (H' : Hp) (kP kW kB : List (Key × V)) (n : Int), (∀ b o', b ≠ pP → b ≠ pW → b ≠ pB → b ≠ ga → H b = some o' → H' b = some o') → H' ga = some (.ins CG gd (grF fr vp n)) → FrR K H' CF fr dxf pP pW pB (pins.map fun p => (p.nm, ptQ p.sp)) (bars.map fun b => (b.nm, b.one.nm, b.other.nm)) kP kW kB → WyR K H' (pins.map fun p => (p.nm, p.ws)) kW → Q u H'
theorem sc_bk : FnScope ["ground", "rows", "prefix", "spot", "laying", "row"] ["ground", "rows", "prefix", "spot"] (defScope s_bk) := sq
theorem ok_bk {CG CL CF fL : Addr} {fdL : FuncData} (D : Def K mg "lay_rows" s_bk ["ground", "rows", "prefix", "spot"]) (M_cc : Mk K CL fL) (m_cc : mg "Laying" = some (.ref CL)) (G_am : FnOk P w K mg base (CXr P w) 1 fL fdL ["self", "prefix", "spot"] (spLyInit K CL)) (b_am : Binds K fdL ["self", "prefix", "spot"] [])
  (MC : MtdOk P w K mg base (CXr P w) 1 CG "count_row" ["self"] (spCount K CG)) (G_bw : Fn P w K mg base (CXr P w) 37 "lay_pin" ["ground", "laying", "row"] (spLayPin K CG CL CF)) (G_bx : Fn P w K mg base (CXr P w) 37 "lay_bar" ["ground", "laying", "row"] (spLayBar K CG CL CF)) :
  Fn P w K mg base (CXr P w) 38 "lay_rows" ["ground", "rows", "prefix", "spot"] (spLayRows K CG CF) := by
 refine D.ok sc_bk (fun vs H Q E h => ?_) (fun f cdv A outer s H vs Q E hr h => ?_)
 ·obtain ⟨ga, gd, fr, dxf, pP, pW, pB, rA, vp, sv, rus, pins, bars, rfl, _⟩ := h
  rfl
 obtain ⟨ga, gd, fr, dxf, pP, pW, pB, rA, vp, sv, rus, pins, bars, rfl, hga, R, hsv, hrA, pr, rf, q⟩ := h
 have g := rf.g
 have lr : rus.length = pins.length + bars.length := by
  have := Paired.length pr
  rw [this]
  unfold valsF
  rw [List.length_append, List.length_map, List.length_map]
 have lp := g.lp
 have lb := g.lb
 refine ⟨_, (pss_cons (ps_set (i := 4) sc_bk.nd rfl (Or.inl rfl) (pe_make M_cc G_am hr.mo rfl m_cc b_am .nil (pY P w) (pac (pv 2) (pac (pv 3) pa_nil))))
  (pss_cons (ps_for PassesOwn.never rfl (pi_list (pv 1)) (pg_name (i := 5) sc_bk.nd rfl (Or.inl rfl)) (pss_cons (ps_expr (pe_mtd0 (k := 1) (pv 0) hr.mo (pY P w)))
   (pss_one (ps_if (pt_cmpR op_eq (pe_lx (pv 5)) pe_str (nomark _)) (pss_one (ps_expr (pe_fn G_bw hr.mo (pY P w) (pac (pv 0) (pac (pv 4) (pac (pv 5) pa_nil)))))) (pss_one (ps_if (pt_cmpR op_eq (pe_lx (pv 5)) pe_str (nomark _)) (pss_one (ps_expr (pe_fn G_bx hr.mo (pY P w) (pac (pv 0) (pac (pv 4) (pac (pv 5) pa_nil)))))) (pss_one (ps_never))))))))
  (pss_one (ps_ret (pv 4))))), ?_⟩
 refine ⟨_, rfl, _, rfl, ?_⟩
 intro la ld nla nld nel
 have sL : Same H (upd (upd H ld (.own la)) la (.ins CL ld [])) := fun b o e => by rw [upd_ne (ne_of_none e nla), upd_ne (ne_of_none e nld)]; exact e
 refine ⟨la, ld, "", sv, rfl, upd_same, fun o H1 k1 no hla1 ho1 => ⟨rfl, ?_⟩⟩
 have no := none_back sL no
 have s1 : Same H H1 := fun b o e => k1 b o (ne_of_none e nla) (sL _ _ e)
 have L1 : LayR K H1 CG CL CF ga gd fr la ld o dxf pP pW pB vp sv 0 "" (0, 0) [] [] [] [] [] [] [] := ⟨s1 _ _ hga, hla1, hsv.same s1, sz_nought, sz_nought, ho1, R.same s1, .nil, rfl, .nil, fun z => (by rw [z, R.pl] at no; cases no), fun z => (by rw [z, R.wy] at no; cases no), fun z => (by rw [z, R.br] at no; cases no), ne_of_none hga nla, by decide +kernel⟩
 let KP : Hp → Prop := fun H' => ∀ b o', b ≠ pP → b ≠ pW → b ≠ pB → b ≠ ga → H b = some o' → H' b = some o'
 have nD : ∀ {b : Addr} {o' : HO}, H b = some o' → (∀ kvs, o' ≠ .dK kvs) → (∀ c d fs, o' ≠ .ins c d fs) → b ≠ pP ∧ b ≠ pW ∧ b ≠ pB ∧ b ≠ ga := fun {b o'} e hn hi => ⟨fun z => by rw [z, R.pl] at e; exact hn _ (Option.some.inj e).symm, fun z => by rw [z, R.wy] at e; exact hn _ (Option.some.inj e).symm, fun z => by rw [z, R.br] at e; exact hn _ (Option.some.inj e).symm, fun z => by rw [z, hga] at e; exact hi _ _ _ (Option.some.inj e).symm⟩
 have keepL : ∀ {H' : Hp} {b : Addr} {xs : List V}, KP H' → H b = some (.lst xs) → H' b = some (.lst xs) := fun {H' b xs} k e => by
  obtain ⟨a1, a2, a3, a4⟩ := nD e (fun _ z => nomatch z) (fun _ _ _ z => nomatch z)
  exact k _ _ a1 a2 a3 a4 e
 have keepT : ∀ {H' : Hp}, KP H' → SameT H H' := fun {H'} k b xs r => by
  rcases r with r | ⟨o', r⟩
  ·obtain ⟨a1, a2, a3, a4⟩ := nD r (fun _ z => nomatch z) (fun _ _ _ z => nomatch z)
   exact .inl (k _ _ a1 a2 a3 a4 r)
  ·obtain ⟨a1, a2, a3, a4⟩ := nD r (fun _ z => nomatch z) (fun _ _ _ z => nomatch z)
   exact .inr ⟨o', k _ _ a1 a2 a3 a4 r⟩
 refine ⟨_, rfl, rA, rfl, ⟨_, SqL.of (s1 _ _ hrA)⟩, for_list (K := K) (a := rA) (xs := rus) (fun i σ H' => ∃ (o5 : Option V) (kP kW kB : List (Key × V)), σ = [some (.ref ga), some (.ref rA), some (.str ""), some sv, some (.ref la), o5] ∧ KP H' ∧ LayR K H' CG CL CF ga gd fr la ld o dxf pP pW pB vp sv (i : Int) "" (0, 0) (ownOf (pins.take i)) ((pins.take i).map fun p => (p.nm, ptQ p.sp)) ((bars.take (i - pins.length)).map fun b => (b.nm, b.one.nm, b.other.nm)) kP kW kB ((pins.take i).map fun p => (p.nm, p.ws))) ⟨none, [], [], [], rfl, fun b o' _ _ _ _ e => s1 _ _ e, ?_⟩ (fun i σ H' _ h => by
   obtain ⟨_, _, _, _, _, k, _⟩ := h
   exact SqL.of (keepL k hrA)) ?_ ?_⟩
 ·rw [Nat.zero_sub, List.take_zero, List.take_zero]
  exact L1
 ·rintro i u σ H2 hu ⟨o5, kP, kW, kB, rfl, k2, L2⟩
  obtain ⟨rs, ers, hrow⟩ := paired_get pr hu
  obtain ⟨l, us, rfl, hl, pu⟩ := hrow
  have il : i < rus.length := (List.getElem?_eq_some_iff.mp hu).1
  refine ⟨_, rfl, ga, CG, gd, _, _, _, rfl, L2.hga, rfl, MC, ga, gd, fr, vp, _, rfl, L2.hga, by omega, ?_⟩
  have L3 := lay_count (m := ((i : Int) + 1)) L2
  have k3 : KP (upd H2 ga (.ins CG gd (grF fr vp ((i : Int) + 1)))) := fun b o' n1 n2 n3 n4 e => by rw [upd_ne n4]; exact k2 b o' n1 n2 n3 n4 e
  generalize upd H2 ga (.ins CG gd (grF fr vp ((i : Int) + 1))) = H3 at L3 k3 ⊢
  have hl3 := keepL k3 hl
  have pu3 : Paired (RvR K H3) us rs := Paired.mapP pu fun _ _ z => z.sameT (keepT k3)
  by_cases ip : i < pins.length
  ·have ers' : (pins.map valP)[i]? = some rs := by
    unfold valsF at ers
    rw [List.getElem?_append_left (by rw [List.length_map]; exact ip)] at ers
    exact ers
   rw [List.getElem?_map] at ers'
   obtain ⟨p, ep, rfl⟩ := Option.map_eq_some_iff.mp ers'
   have mp : p ∈ pins := List.mem_of_getElem? ep
   have tk := take_snoc ep
   have z := g.sz p mp
   obtain ⟨u2, u3, ur, eu, _⟩ := paired_len4 pu3
   have i0 : atI us 0 = some (.str "pin") := by rw [eu]; exact at_0
   refine ⟨_, rfl, l, _, _, _, rfl, rfl, SqL.of hl3, i0, rfl, _, rfl, ?_⟩
   refine ite2 (fun _ => ?_) (fun c => absurd (decide_eq_true rfl) c)
   have ex := no_app p.nm
   have ez := at_zero p.sp
   refine ⟨_, rfl, _, rfl, _, rfl, ga, gd, fr, la, ld, o, dxf, pP, pW, pB, l, vp, sv, _, "", (0, 0), _, _, _, kP, kW, kB, _, us, p, rfl, L3, ?_, own_no (fun p' hp' => take_new (nm := PinD.nm) g.np ep hp'), hl3, pu3, Nat.le_trans (rf.n1 p mp).len (by decide), z.1.up (by decide), z.2.1.up (by decide), ?_, ?_, ?_, g.lw p mp, rf.one p mp, rf.two p mp, fun H' kP' kW' k' L' => ?_⟩
   ·unfold ownOf
    rw [List.length_map, List.length_take]
    omega
   ·rw [ex, List.map_map]
    intro z
    obtain ⟨p', hp', e'⟩ := List.mem_map.mp z
    exact take_new (nm := PinD.nm) g.np ep hp' e'
   ·rw [ez]
    intro z hz e
    obtain ⟨p', hp', e'⟩ := List.mem_map.mp hz
    rw [← e'] at e
    have e1 := congrArg Prod.fst e
    have e2 := congrArg Prod.snd e
    have e3 : p'.sp = p.sp := Prod.ext (qr_inj e1) (qr_inj e2)
    obtain ⟨j, hj, ej⟩ := List.mem_iff_getElem.mp hp'
    rw [List.getElem_take] at ej
    rw [List.length_take] at hj
    have q1 : (pins.map (·.sp))[j]? = some p.sp := by rw [List.getElem?_map, gE (by omega), ej, ← e3]; rfl
    have q2 : (pins.map (·.sp))[i]? = some p.sp := by rw [List.getElem?_map, ep]; rfl
    have := (List.getElem?_inj (by rw [List.length_map]; omega) rf.ns).mp (q1.trans q2.symm)
    omega
   ·rw [List.length_map, List.length_take]
    omega
   ·rw [ex, ez] at L'
    refine ⟨_, kP', kW', kB, rfl, fun b o' n1 n2 n3 n4 e => k' b o' n1 n2 (fun z => by rw [z, no] at e; cases e) (k3 b o' n1 n2 n3 n4 e), ?_⟩
    rw [tk, show i + 1 - pins.length = i - pins.length by omega]
    unfold ownOf at L' ⊢
    rw [List.map_append, List.map_append, List.map_append]
    exact L'
  ·have ij : i - pins.length < bars.length := by omega
   have ers' : (bars.map valB)[i - pins.length]? = some rs := by
    unfold valsF at ers
    rw [List.getElem?_append_right (by rw [List.length_map]; omega), List.length_map] at ers
    exact ers
   rw [List.getElem?_map] at ers'
   obtain ⟨b, eb, rfl⟩ := Option.map_eq_some_iff.mp ers'
   have mb : b ∈ bars := List.mem_of_getElem? eb
   have tk := take_snoc eb
   obtain ⟨m1, m2, m3⟩ := g.ends b mb
   have eu := paired_bar4 pu3
   have i0 : atI us 0 = some (.str "bar") := by rw [eu]; exact at_0
   refine ⟨_, rfl, l, _, _, _, rfl, rfl, SqL.of hl3, i0, rfl, _, rfl, ?_⟩
   refine ite2 (fun c => absurd (of_decide_eq_true c) (ne_str (by decide +kernel))) (fun _ => ?_)
   refine ⟨_, rfl, l, _, _, _, rfl, rfl, SqL.of hl3, i0, rfl, _, rfl, ?_⟩
   refine ite2 (fun _ => ?_) (fun c => absurd (decide_eq_true rfl) c)
   have ex := no_app b.nm
   have tp : pins.take i = pins := List.take_of_length_le (by omega)
   have tp' : pins.take (i + 1) = pins := List.take_of_length_le (by omega)
   rw [tp] at L3
   refine ⟨_, rfl, _, rfl, _, rfl, ga, gd, fr, la, ld, o, dxf, pP, pW, pB, l, vp, sv, _, "", (0, 0), _, _, _, kP, kW, kB, _, us, b, b.one.nm, b.other.nm, rfl, L3, hl3, pu3, Nat.le_trans (rf.n2 b mb).len (by decide), own_val m1, own_val m2, ?_, ?_, ?_, m3, ?_, fun H' kB' k' L' => ?_⟩
   ·rw [ex, List.map_map]
    intro z
    obtain ⟨b', hb', e'⟩ := List.mem_map.mp z
    exact take_new (nm := BarD.nm) g.nb eb hb' e'
   ·rw [List.map_map]
    exact List.mem_map.mpr ⟨_, m1, rfl⟩
   ·rw [List.map_map]
    exact List.mem_map.mpr ⟨_, m2, rfl⟩
   ·rw [List.length_map, List.length_take]
    omega
   ·rw [ex] at L'
    refine ⟨_, kP, kW, kB', rfl, fun b o' n1 n2 n3 n4 e => k' b o' n3 (k3 b o' n1 n2 n3 n4 e), ?_⟩
    rw [show i + 1 - pins.length = i - pins.length + 1 by omega, tk, tp', List.map_append]
    exact L'
 ·rintro σ H2 ⟨o5, kP, kW, kB, rfl, k2, L2⟩
  have e1 : pins.take rus.length = pins := List.take_of_length_le (by omega)
  have e2 : bars.take (rus.length - pins.length) = bars := List.take_of_length_le (by omega)
  rw [e1, e2] at L2
  exact ⟨_, rfl, q _ H2 kP kW kB _ k2 L2.hga L2.R L2.W⟩
def spLaid (K : Frag) (CF : Addr) : Sp := fun vs H Q _ => ∃ (rA : Addr) (vp : V) (rus : List V) (pins : List PinD) (bars : List BarD), vs = [.ref rA, vp] ∧ H rA = some (.lst rus) ∧ Paired (RowR K H) rus (valsF pins bars) ∧ ReadF pins bars ∧ ∀ (a : Addr) (H' : Hp), Same H H' → FrA K H' CF a pins bars → Q (.ref a) H'
theorem RowR.same {H H' : Hp} {u : V} {rs : List RV} (h : RowR K H u rs) (s : Same H H') : RowR K H' u rs := by
 obtain ⟨l, us, e, hl, pu⟩ := h
 exact ⟨l, us, e, s _ _ hl, Paired.mapP pu fun _ _ z => z.sameT (.of s)⟩
theorem sc_aq : FnScope ["rows", "pieces", "ground"] ["rows", "pieces"] (defScope s_aq) := sq
theorem ok_aq {CG CF fG aM : Addr} {fdG : FuncData} (D : Def K mg "laid_frame" s_aq ["rows", "pieces"]) (gc : GrC K CG) (M_cb : Mk K CG fG) (m_cb : mg "Ground" = some (.ref CG)) (G_al : FnOk P w K mg base (CXr P w) 3 fG fdG ["self", "pieces"] (spGInit K CG CF)) (b_al : Binds K fdG ["self", "pieces"] [])
  (m_c0 : mg "NO_MOVE" = some (.ref aM)) (hM' : ∀ H, PtR K H (.ref aM) (0, 0)) (G_bk : Fn P w K mg base (CXr P w) 38 "lay_rows" ["ground", "rows", "prefix", "spot"] (spLayRows K CG CF)) :
  Fn P w K mg base (CXr P w) 39 "laid_frame" ["rows", "pieces"] (spLaid K CF) := by
 refine D.ok sc_aq (fun vs H Q E h => ?_) (fun f cdv A outer s H vs Q E hr h => ?_)
 ·obtain ⟨rA, vp, rus, pins, bars, rfl, _⟩ := h
  rfl
 obtain ⟨rA, vp, rus, pins, bars, rfl, hrA, pr, rf, q⟩ := h
 refine ⟨_, (pss_cons (ps_set (i := 2) sc_aq.nd rfl (Or.inl rfl) (pe_make M_cb G_al hr.mo rfl m_cb b_al .nil pX (pac (pv 1) pa_nil)))
  (pss_cons (ps_expr (pe_fn G_bk hr.mo pX (pac (pv 2) (pac (pv 0) (pac pe_str (pac (pe_glob (v := .ref aM) rfl m_c0 rfl) pa_nil))))))
  (pss_one (ps_ret (pe_fld (pv 2) rfl))))), ?_⟩
 refine ⟨_, rfl, ?_⟩
 intro ga gd nga ngd neg
 have sG : Same H (upd (upd H gd (.own ga)) ga (.ins CG gd [])) := fun b o e => by rw [upd_ne (ne_of_none e nga), upd_ne (ne_of_none e ngd)]; exact e
 refine ⟨ga, gd, vp, rfl, upd_same, fun fr dxf pP pW pB H1 k1 nf nP nW nB R1 hg1 => ⟨rfl, ?_⟩⟩
 have nf := none_back sG nf
 have nP := none_back sG nP
 have nW := none_back sG nW
 have nB := none_back sG nB
 have s1 : Same H H1 := fun b o e => k1 b o (ne_of_none e nga) (sG _ _ e)
 refine ⟨_, rfl, _, rfl, ga, gd, fr, dxf, pP, pW, pB, rA, vp, .ref aM, rus, pins, bars, rfl, hg1, R1, hM' H1, s1 _ _ hrA, Paired.mapP pr fun _ _ z => z.same s1, rf, fun u H2 kP kW kB n k2 hg2 R2 W2 => ?_⟩
 refine ⟨_, rfl, ga, CG, gd, _, _, rfl, hg2, gc.cls, gc.fr, gr_f, q fr H2 (fun b o e => k2 b o (ne_of_none e nP) (ne_of_none e nW) (ne_of_none e nB) (ne_of_none e nga) (s1 _ _ e)) ⟨⟨dxf, pP, pW, pB, kP, kW, kB, R2, W2⟩⟩⟩
def RowA (K : Frag) (H : Hp) (lo : Addr) (u : V) (rs : List RV) : Prop := ∃ l us, u = .ref l ∧ l ≠ lo ∧ H l = some (.lst us) ∧ Paired (RvR K H) us rs
def spRead (K : Frag) (CF : Addr) : Sp := fun vs H Q _ => ∃ (pins : List PinD) (bars : List BarD), vs = [.str (textF pins bars)] ∧ ReadF pins bars ∧ ∀ (a : Addr) (H' : Hp), Same H H' → FrA K H' CF a pins bars → Q (.ref a) H'
theorem rows_len {pins : List PinD} {bars : List BarD} (h : ReadF pins bars) : (rowsF pins bars).length ≤ 14 ∧ (textF pins bars).length + 2 ≤ sizeLine := by
 have lp := h.g.lp
 have lb := h.g.lb
 have l1 : (rowsF pins bars).length = pins.length + bars.length := by
  unfold rowsF
  rw [List.length_append, List.length_map, List.length_map]
 refine ⟨by omega, ?_⟩
 have j := join_len "\n" (rowsF pins bars)
 have ln : ("\n" : Str).length = 1 := by decide +kernel
 have sm := sum_le (ws := rowsF pins bars) (k := 20100) (fun w hw => by
  rcases List.mem_append.mp hw with z | z
  ·obtain ⟨p, hp, rfl⟩ := List.mem_map.mp z
   exact rowP_len h.g h.short hp
  ·obtain ⟨b, hb, rfl⟩ := List.mem_map.mp z
   exact (rowB_len h.g h.short hb).2)
 have e : textF pins bars = Txt.join "\n" (rowsF pins bars) := rfl
 rw [e]
 rw [ln] at j
 refine Nat.le_trans (m := 300000) ?_ (by decide)
 have : (rowsF pins bars).length * 20100 ≤ 14 * 20100 := Nat.mul_le_mul_right _ (by omega)
 omega
theorem row_read {pins : List PinD} {bars : List BarD} (h : ReadF pins bars) {i : Nat} {x : Str} (e : (rowsF pins bars)[i]? = some x) : ∃ rs, (valsF pins bars)[i]? = some rs ∧ Stands rs ∧ x.length + 2 ≤ sizeLine ∧ (Txt.split x " ").length ≤ 100 ∧ (∀ w ∈ Txt.split x " ", Txk w) ∧ RowRead (Txt.split x " ") formsL rs := by
 unfold rowsF at e
 unfold valsF
 by_cases ip : i < pins.length
 ·rw [List.getElem?_append_left (by rw [List.length_map]; exact ip), List.getElem?_map] at e
  obtain ⟨p, ep, rfl⟩ := Option.map_eq_some_iff.mp e
  have mp : p ∈ pins := List.mem_of_getElem? ep
  have sp : Txt.split (rowP p) " " = wordsP p := words_back (by simp [wordsP]) (wd_words h mp)
  refine ⟨valP p, by rw [List.getElem?_append_left (by rw [List.length_map]; exact ip), List.getElem?_map, ep]; rfl, stands_pin (h.one p mp), Nat.le_trans (Nat.add_le_add_right (rowP_len h.g h.short mp) 2) (by decide), ?_, ?_, ?_⟩
  ·rw [sp]
   exact Nat.le_trans (words_len h.g h.short mp).1 (by decide)
  ·rw [sp]
   exact fun w hw => (wd_words h mp w hw).txk
  ·rw [sp]
   exact read_pin h mp
 ·rw [List.getElem?_append_right (by rw [List.length_map]; omega), List.getElem?_map, List.length_map] at e
  obtain ⟨b, eb, rfl⟩ := Option.map_eq_some_iff.mp e
  have mb : b ∈ bars := List.mem_of_getElem? eb
  have sp : Txt.split (rowB b) " " = wordsB b := words_back (by simp [wordsB]) (wd_wordsB h mb)
  refine ⟨valB b, by rw [List.getElem?_append_right (by rw [List.length_map]; omega), List.getElem?_map, List.length_map, eb]; rfl, stands_bar b, Nat.le_trans (Nat.add_le_add_right (rowB_len h.g h.short mb).2 2) (by decide), ?_, ?_, ?_⟩
  ·rw [sp]
   show 4 ≤ 100
   decide
  ·rw [sp]
   exact fun w hw => (wd_wordsB h mb w hw).txk
  ·rw [sp]
   exact read_bar h mb
theorem sc_ar : FnScope ["text", "rows", "sheet", "at", "row", "values"] ["text"] (defScope s_ar) := sq
theorem ok_ar {CS CF fS aF : Addr} {fdS : FuncData} (D : Def K mg "read_frame" s_ar ["text"]) (m_isinstance : mg "isinstance" = none) (m_str : mg "str" = none) (m_enumerate : mg "enumerate" = none) (sc : ShC K CS) (M_cj : Mk K CS fS) (m_cj : mg "Sheet" = some (.ref CS)) (G_b2 : FnOk P w K mg base (CXr P w) 1 fS fdS ["self"] (spShInit K CS)) (b_b2 : Binds K fdS ["self"] [])
  (MS : MtdOk P w K mg base (CXr P w) 1 CS "may_stand" ["self", "values"] (spStand K)) (MK : MtdOk P w K mg base (CXr P w) 1 CS "keep" ["self", "values"] (spKeep K CS))
  (m_cd : mg "FORMS" = some (.ref aF)) (hF : ∀ H, SqT K H aF (formsL.map V.str)) (G_bl : Fn P w K mg base (CXr P w) 39 "read_row" ["forms", "row"] (spRow K)) (G_aq : Fn P w K mg base (CXr P w) 39 "laid_frame" ["rows", "pieces"] (spLaid K CF)) :
  Fn P w K mg base (CXr P w) 40 "read_frame" ["text"] (spRead K CF) := by
 refine D.ok sc_ar (fun vs H Q E h => ?_) (fun f cdv A outer s H vs Q E hr h => ?_)
 ·obtain ⟨pins, bars, rfl, _⟩ := h
  rfl
 obtain ⟨pins, bars, rfl, rf, q⟩ := h
 obtain ⟨l14, lz⟩ := rows_len rf
 have lv : (rowsF pins bars).length = (valsF pins bars).length := by
  unfold rowsF valsF
  rw [List.length_append, List.length_append, List.length_map, List.length_map, List.length_map, List.length_map]
 have ln : (("\n" : Str).length == 0) = false := by decide +kernel
 have tail : ∃ t, PSs ((cxOf (CXr P w) P w K mg base ["text", "rows", "sheet", "at", "row", "values"] "read_frame" (defScope s_ar) f cdv A outer s H E)).nox ((defBody s_ar).drop 2) t ∧ ∀ (lR : Addr) (H1 : Hp), Same H H1 → H lR = none → H1 lR = some (.lst ((rowsF pins bars).map V.str)) →
   t { nx := fun _ H' => Q .non H', rt := Q } [some (.str (textF pins bars)), some (.ref lR), none, none, none, none] H1 := by
  refine ⟨_, (pss_cons (ps_set (i := 2) sc_ar.nd rfl (Or.inl rfl) (pe_make0 M_cj G_b2 hr.mo rfl m_cj b_b2 .nil (pY P w))) (pss_cons (ps_for PassesOwn.never rfl (pi_enum rfl m_enumerate (pac (pv 1) pa_nil)) (pg_tup rfl (pgs_cons (pg_name (i := 3) sc_ar.nd rfl (Or.inl rfl)) (pgs_cons (pg_name (i := 4) sc_ar.nd rfl (Or.inl rfl)) pgs_nil))) (pss_cons (ps_set (i := 5) sc_ar.nd rfl (Or.inl rfl) (pe_fn G_bl hr.mo (pY P w) (pac (pe_glob (v := .ref aF) rfl m_cd rfl) (pac (pv 4) pa_nil))))
   (pss_cons (ps_if (PW.pt (pw_or (pt_cmpR op_isN (pv 5) pe_non (nomark _)) (pw_or1 (pt_not (pt_val (pe_mtd (k := 1) (pv 2) hr.mo (pY P w) (pac (pv 5) pa_nil))))))) (pss_one (ps_never)) pss_nil)
   (pss_one (ps_expr (pe_mtd (k := 1) (pv 2) hr.mo (pY P w) (pac (pv 5) pa_nil))))))) (pss_cons (ps_if (pt_cmp (pc_notN (pe_fld (pv 2) rfl))) (pss_one (ps_never)) pss_nil) (pss_one (ps_ret (pe_fn G_aq hr.mo (pY P w) (pac (pe_fld (pv 2) rfl) (pac (pe_fld (pv 2) rfl) pa_nil)))))))), ?_⟩
  intro lR H1 s1 nR eR
  intro sa sd nsa nsd nes
  have sS : Same H1 (upd (upd H1 sd (.own sa)) sa (.ins CS sd [])) := fun b o e => by rw [upd_ne (ne_of_none e nsa), upd_ne (ne_of_none e nsd)]; exact e
  refine ⟨sa, sd, rfl, upd_same, fun lo dp H2 k2 nlo ndp ha2 hlo2 hdp2 => ⟨rfl, ?_⟩⟩
  have nlo := none_back sS nlo
  have ndp := none_back sS ndp
  have s2 : Same H1 H2 := fun b o e => k2 b o (ne_of_none e nsa) (sS _ _ e)
  have nloH := none_back s1 nlo
  have nsaH := none_back s1 nsa
  have lRo : lR ≠ lo := fun z => by rw [← z, eR] at nlo; cases nlo
  refine ⟨_, rfl, lR, rfl, ⟨_, SqL.of (s2 _ _ eR)⟩, for_enum (K := K) (a := lR) (xs := (rowsF pins bars).map V.str) (fun i σ H' => ∃ (o3 o4 o5 : Option V) (xs : List V), σ = [some (.str (textF pins bars)), some (.ref lR), some (.ref sa), o3, o4, o5] ∧ Same H H' ∧ H' lR = some (.lst ((rowsF pins bars).map V.str)) ∧ H' sa = some (.ins CS sd (shF lo dp)) ∧ H' lo = some (.lst xs) ∧ Paired (RowA K H' lo) xs ((valsF pins bars).take i)) ⟨none, none, none, [], rfl, sm_tr s1 s2, s2 _ _ eR, ha2, hlo2, .nil⟩ (fun i σ H' _ h => by
    obtain ⟨_, _, _, _, _, _, h, _⟩ := h
    exact SqL.of h) ?_ ?_⟩
  ·rintro i z σ H3 p hi ⟨o3, o4, o5, xs, rfl, s3, l3, a3, lo3, p3⟩ np
   rw [List.getElem?_map] at hi
   obtain ⟨x, ex, rfl⟩ := Option.map_eq_some_iff.mp hi
   obtain ⟨rs, ers, st, xz, xl, xt, rr⟩ := row_read rf ex
   have il : i < (rowsF pins bars).length := (List.getElem?_eq_some_iff.mp ex).1
   have s4 := same_new np (.tup [.int (i : Int), .str x])
   have e4 : (upd H3 p (.tup [.int (i : Int), .str x])) p = some (.tup [.int (i : Int), .str x]) := upd_same
   generalize upd H3 p (.tup [.int (i : Int), .str x]) = H4 at s4 e4 ⊢
   refine ⟨p, _, rfl, SqT.of e4, rfl, _, _, rfl, _, _, rfl, rfl, ?_⟩
   refine ⟨_, rfl, aF, formsL, x, rs, rfl, hF H4, forms_len, xz, xl, xt, rr, fun l us H5 s5 nl el pr => ?_⟩
   have s35 := sm_tr s4 s5
   have lo5 := s35 _ _ lo3
   have llo : l ≠ lo := fun z => by rw [z, s4 _ _ lo3] at nl; cases nl
   refine ⟨_, rfl, rfl, _, rfl, ?_⟩
   refine ite2 (fun c => absurd (of_decide_eq_true c) (fun z => nomatch z)) (fun _ => ?_)
   refine ⟨_, rfl, sa, CS, sd, _, _, _, rfl, s35 _ _ a3, rfl, MS, _, rfl, sa, l, us, rs, rfl, el, pr, st, fun H6 s6 => ⟨_, rfl, ?_⟩⟩
   refine ite2 (fun c => nomatch c) (fun _ => ?_)
   have s36 := sm_tr s35 s6
   obtain ⟨k, us', eu, n1, n2, n3⟩ := st.head pr
   have lx : xs.length ≤ 1000 := by
    have := Paired.length p3
    rw [this, List.length_take]
    omega
   refine ⟨_, rfl, sa, CS, sd, _, _, _, rfl, s36 _ _ a3, rfl, MK, _, rfl, sa, sd, lo, dp, l, xs, us, k, rfl, s36 _ _ a3, s36 _ _ lo3, lx, s6 _ _ el, by rw [eu]; exact at_0, n1, n2, ?_⟩
   have t7 : SameT H6 (upd H6 lo (.lst (xs ++ [.ref l]))) := .list (s36 _ _ lo3)
   refine ⟨_, _, _, xs ++ [.ref l], rfl, fun b o e => ?_, ?_, ?_, upd_same, ?_⟩
   ·rw [upd_ne (ne_of_none e nloH)]
    exact s36 _ _ (s3 _ _ e)
   ·rw [upd_ne lRo]
    exact s36 _ _ l3
   ·rw [upd_ne (fun z => by rw [z, lo3] at a3; cases a3)]
    exact s36 _ _ a3
   ·rw [take_snoc ers]
    refine Paired.snoc (Paired.mapP p3 fun u rs' z => ?_) ⟨l, us, rfl, llo, by rw [upd_ne llo]; exact s6 _ _ el, Paired.mapP pr fun _ _ z => (z.sameT (.of s6)).sameT t7⟩
    obtain ⟨l', us', h1, h2, h3, h4⟩ := z
    exact ⟨l', us', h1, h2, by rw [upd_ne h2]; exact s36 _ _ h3, Paired.mapP h4 fun _ _ z => (z.sameT (.of s36)).sameT t7⟩
  ·rintro σ H3 ⟨o3, o4, o5, xs, rfl, s3, l3, a3, lo3, p3⟩
   rw [List.length_map, List.take_of_length_le (by omega)] at p3
   refine ⟨_, rfl, sa, CS, sd, _, _, rfl, a3, sc.cls, sc.cu, sh_c, _, rfl, ?_⟩
   refine ite2 (fun c => by simp at c) (fun _ => ?_)
   refine ⟨_, rfl, sa, CS, sd, _, _, rfl, a3, sc.cls, sc.ou, sh_o, _, rfl, sa, CS, sd, _, _, rfl, a3, sc.cls, sc.pi, sh_p, lo, _, xs, pins, bars, rfl, lo3, Paired.mapP p3 fun u rs z => ?_, rf, fun a H' s' fa => q a H' (sm_tr s3 s') fa⟩
   obtain ⟨l', us', h1, _, h3, h4⟩ := z
   exact ⟨l', us', h1, h3, h4⟩
 obtain ⟨t4, p4, q4⟩ := tail
 refine ⟨_, (pss_cons (ps_if (pt_not (pt_val (pe_callB call_isi rfl m_isinstance b_isinstance (pac (pv 0) (pac (pe_ty rfl m_str b_str) pa_nil))))) (pss_one (ps_never)) pss_nil) (pss_cons (ps_set (i := 1) sc_ar.nd rfl (Or.inl rfl) (pe_ifExp (pt_cmpR op_eq (pv 0) pe_str (nomark _)) (pe_lst pa_nil) (pe_bm PySem.F.plainAttrs_str PySem.F.slot_str_split PySem.F.type_str_split mt_split (pv 0) (pac pe_str pa_nil)))) p4)), ?_⟩
 refine ⟨_, rfl, _, _, _, true, rfl, rfl, .str _, k_ss, _, rfl, ?_⟩
 refine ite2 (fun c => nomatch c) (fun _ => ?_)
 refine ⟨_, rfl, rfl, _, rfl, ?_⟩
 by_cases er : rowsF pins bars = []
 ·have et : textF pins bars = "" := by
   have e : textF pins bars = Txt.join "\n" (rowsF pins bars) := rfl
   rw [e, er]
   decide +kernel
  refine ite2 (fun _ => ?_) (fun c => absurd (decide_eq_true (by rw [et])) c)
  refine ⟨(by show 0 ≤ sizeLine; decide), ?_⟩
  intro lR nR; generalize eX : upd _ lR _ = H1; have ⟨sR, eR⟩ := nw nR eX; clear eX
  exact q4 lR H1 sR nR (by rw [er]; exact eR)
 ·refine ite2 (fun c => absurd (of_decide_eq_true c) (text_ne rf er)) (fun _ => ?_)
  refine ⟨_, rfl, rfl, _, "\n", rfl, rfl, ln, lz, ?_⟩
  intro lR nR; generalize eX : upd _ lR _ = H1; have ⟨sR, eR⟩ := nw nR eX; clear eX
  exact q4 lR H1 sR nR (by rw [← rows_back rf er]; exact eR)
theorem sz_zero {k : Nat} (h : 1 ≤ k) : Sz k 0 := by
 have := sz_int (i := 0) (k := k) (by simpa using Nat.two_pow_pos k) h
 simpa using this
theorem fmod_in {x m : Int} (h : 0 < m) : 0 ≤ x.fmod m ∧ x.fmod m < m := ⟨Int.fmod_nonneg_of_pos x h, Int.fmod_lt_of_pos x h⟩
def spCell (K : Frag) : Sp := fun vs H Q _ => ∃ (a : Addr) (ns : List Int) (k : Int), vs = [.ref a, .int k] ∧ SqL K H a (ns.map V.int) ∧ (∀ i ∈ ns, intBits i ≤ 1048576) ∧ 0 ≤ k ∧ k ≤ 100 ∧ ∀ v, intBits v ≤ 1048576 → Q (.int v) H
theorem sc_ag : FnScope ["_law_script", "_law_k"] ["_law_script", "_law_k"] (defScope s_ag) := sq
theorem ok_ag (D : Def K mg "_law_cell_at" s_ag ["_law_script", "_law_k"]) (m_len : mg "len" = none) : Fn P w K mg base CX 1 "_law_cell_at" ["_law_script", "_law_k"] (spCell K) := by
 refine D.ok sc_ag (fun vs H Q E h => ?_) (fun f cdv A outer s H vs Q E hr h => ?_)
 ·obtain ⟨a, ns, k, rfl, _⟩ := h
  rfl
 obtain ⟨a, ns, k, rfl, hS, hb, h0, h1, q⟩ := h
 refine ⟨_, (pss_cons (ps_if (pt_cmpR op_lt (pv 1) (pe_callB call_len_seq rfl m_len b_len (pac (pv 0) pa_nil)) (nomark _)) (pss_one (ps_ret (pe_ix ix_list (pv 0) (pv 1) (fun _ _ => rfl)))) pss_nil)
  (pss_one (ps_ret (pe_op op_modB (pe_op op_mulB (pe_op op_modB (pe_op op_mulB (pe_op op_add (pv 1) pe_int) (pe_op op_pow pe_int pe_int)) pe_int) (pe_op op_add (pv 1) pe_int)) pe_int)))), ?_⟩
 have hl : (ns.map V.int).length = ns.length := List.length_map _
 refine ⟨_, rfl, _, rfl, a, _, rfl, .inl hS, _, _, rfl, rfl, _, rfl, ?_⟩
 refine ite2 (fun c => ?_) (fun c => ?_)
 ·have c' : k < (((ns.map V.int).length : Nat) : Int) := of_decide_eq_true c
  rw [hl] at c'
  have hk : k.toNat < ns.length := by omega
  have ek : k = ((k.toNat : Nat) : Int) := by omega
  have e : atI (ns.map V.int) k = some (.int ns[k.toNat]) := by
   have z : atI (ns.map V.int) ((k.toNat : Nat) : Int) = some (.int ns[k.toNat]) := atI_nat (by rw [List.getElem?_map, gE hk]; rfl)
   rw [← ek] at z
   exact z
  exact ⟨_, rfl, _, rfl, a, _, k, _, rfl, rfl, hS, e, q _ (hb _ (List.getElem_mem hk))⟩
 ·have b1 : intBits (k + 7) ≤ 64 := intBits_le_64 (by omega) (by omega)
  have b2 : intBits (k + 3) ≤ 64 := intBits_le_64 (by omega) (by omega)
  have e1 := fmod_in (x := (k + 7) * 48271 ^ (2 : Int).toNat) (m := 2147483647) (by decide)
  have b3 : intBits (((k + 7) * 48271 ^ (2 : Int).toNat).fmod 2147483647) ≤ 64 := intBits_le_64 (by omega) (by omega)
  have e2 := fmod_in (x := ((k + 7) * 48271 ^ (2 : Int).toNat).fmod 2147483647 * (k + 3)) (m := 2147483587) (by decide)
  have b4 : intBits ((((k + 7) * 48271 ^ (2 : Int).toNat).fmod 2147483647 * (k + 3)).fmod 2147483587) ≤ 64 := intBits_le_64 (by omega) (by omega)
  have c : ∀ {i j : Int}, intBits i ≤ 64 → intBits j ≤ 64 → CMulB i j := fun a b => ⟨Nat.le_trans a (by decide), Nat.le_trans b (by decide)⟩
  refine ⟨_, rfl, _, _, rfl, rfl, _, _, rfl, rfl, ⟨by decide, by decide, by decide⟩, _, _, rfl, rfl, c b1 (by decide +kernel), _, _, rfl, rfl, nz (by decide), ?_⟩
  exact ⟨_, rfl, _, _, rfl, rfl, _, _, rfl, rfl, c b3 b2, _, _, rfl, rfl, nz (by decide), q _ (Nat.le_trans b4 (by decide))⟩
theorem fdiv_natAbs {a : Int} {m : Int} (h : 1 ≤ m) : (a.fdiv m).natAbs ≤ a.natAbs := by
 rw [Int.fdiv_eq_ediv_of_nonneg _ (by omega)]
 have h1 := Int.mul_ediv_add_emod a m
 have h2 := Int.emod_nonneg a (show m ≠ 0 by omega)
 have h3 := Int.emod_lt_of_pos a (show 0 < m by omega)
 by_cases c : 0 ≤ a
 ·have := Int.ediv_nonneg c (show 0 ≤ m by omega)
  have h4 := Int.ediv_le_self m c
  omega
 ·have h5 : a / m < 0 := Int.ediv_neg_of_neg_of_pos (by omega) (by omega)
  have h6 : a ≤ a / m := Int.le_ediv_of_mul_le (by omega) (by
   have := Int.mul_le_mul_of_nonpos_left (a := a) (b := m) (c := 1) (by omega) h
   omega)
  omega
theorem bits_fdiv {a m : Int} {k : Nat} (h : 1 ≤ m) (b : intBits a ≤ k) : intBits (a.fdiv m) ≤ k := intBits_le_of_natAbs (fdiv_natAbs h) b
def spPart : Sp := fun vs H Q _ => ∃ c k : Int, vs = [.int c, .int k] ∧ intBits c ≤ 2000000 ∧ 0 ≤ k ∧ k < 9 ∧ ∀ (r : Int) (H' : Hp), 0 ≤ r → r < 1000000000000000000 → Same H H' → Q (.int r) H'
theorem sc_bn : FnScope ["_law_cell", "_law_k", "_law_mixed", "_law_j"] ["_law_cell", "_law_k"] (defScope s_bn) := sq
theorem ok_bn (D : Def K mg "_law_part" s_bn ["_law_cell", "_law_k"]) (m_range : mg "range" = none) : Fn P w K mg base CX 1 "_law_part" ["_law_cell", "_law_k"] spPart := by
 refine D.ok sc_bn (fun vs H Q E h => ?_) (fun f cdv A outer s H vs Q E hr h => ?_)
 ·obtain ⟨c, k, rfl, _⟩ := h
  rfl
 obtain ⟨c, k, rfl, bc, k0, k9, q⟩ := h
 obtain ⟨kn, rfl⟩ : ∃ n : Nat, k = (n : Int) := ⟨k.toNat, by omega⟩
 have e18 : (10 : Int) ^ (18 : Int).toNat = 1000000000000000000 := by decide +kernel
 have p18 : CPow 10 18 := ⟨by decide, by decide, by decide⟩
 have d18 : ∀ i, CDivB i ((10 : Int) ^ (18 : Int).toNat) := fun i => ⟨by rw [e18]; decide, by rw [e18]; decide +kernel⟩
 have tail : ∃ tt, PSs (cxOf (CXr P w) P w K mg base ["_law_cell", "_law_k", "_law_mixed", "_law_j"] "_law_part" (defScope s_bn) f cdv A outer s H E).nox ((defBody s_bn).drop 1) tt ∧ tt { nx := fun _ H' => Q .non H', rt := Q } [some (.int c), some (.int (kn : Int)), none, none] H := by
  refine ⟨_, (pss_cons (ps_for PassesOwn.never rfl (pi_range1 rfl m_range (pac (pv 1) pa_nil)) (pg_name (i := 3) sc_bn.nd rfl (Or.inl rfl)) (pss_one (ps_set (i := 0) sc_bn.nd rfl (Or.inl rfl) (pe_op op_fdivB (pv 0) (pe_op op_pow pe_int pe_int))))) (pss_one (ps_ret (pe_op op_modB (pv 0) (pe_op op_pow pe_int pe_int))))), ?_⟩
  refine ⟨_, rfl, (kn : Int), rfl, by omega, by omega, for_range (lo := 0) (n := kn) (fun i σ H' => ∃ (c' : Int) (o : Option V), σ = [some (.int c'), some (.int (kn : Int)), none, o] ∧ H' = H ∧ intBits c' ≤ 2000000) ⟨c, none, rfl, rfl, bc⟩ ?_ ?_⟩
  ·rintro i σ H' hi ⟨c', o, rfl, rfl, b'⟩
   exact ⟨_, rfl, _, _, rfl, rfl, p18, _, _, rfl, rfl, d18 _, _, _, rfl, rfl, bits_fdiv (by rw [e18]; decide) b'⟩
  ·rintro σ H' ⟨c', o, rfl, rfl, b'⟩
   have m := fmod_in (x := c') (m := 1000000000000000000) (by decide)
   refine ⟨_, rfl, _, _, rfl, rfl, p18, _, _, rfl, rfl, by rw [e18]; exact nz (by decide), ?_⟩
   rw [e18]
   exact q _ _ m.1 m.2 (Same.refl _)
 obtain ⟨tt, pt, ht⟩ := tail
 refine ⟨_, (pss_cons (ps_if (pt_chain op_le op_lt pe_int (pv 0) (pe_op op_pow pe_int pe_int)) (pss_cons (ps_set (i := 2) sc_bn.nd rfl (Or.inl rfl) (pe_op op_modB (pe_op op_mulB (pe_op op_add (pv 0) pe_int) (pe_ix ix_list (pe_lst (pac pe_int (pac pe_int (pac pe_int (pac pe_int (pac pe_int (pac pe_int (pac pe_int (pac pe_int (pac pe_int pa_nil)))))))))) (pv 1) (fun _ _ => rfl))) pe_int))
   (pss_one (ps_ret (pe_op op_modB (pe_op op_mulB (pv 2) (pe_op op_add (pe_op op_add (pe_op op_fdivB (pv 2) pe_int) (pv 1)) pe_int)) pe_int)))) pss_nil) pt), ?_⟩
 refine ⟨_, rfl, _, _, rfl, rfl, _, rfl, ?_⟩
 refine ite2 (fun c1 => ?_) (fun c1 => ?_)
 ·refine ⟨_, _, rfl, rfl, p18, _, _, rfl, rfl, _, rfl, ?_⟩
  refine ite2 (fun c2 => ?_) (fun c2 => ht)
  have h1 : 0 ≤ c := of_decide_eq_true c1
  have h2 : c < 10 ^ (18 : Int).toNat := of_decide_eq_true c2
  rw [e18] at h2
  have ix : ∃ m : Int, atI [V.int 40692, .int 48271, .int 104729, .int 1299709, .int 15485863, .int 611953, .int 7919, .int 69621, .int 32452843] (kn : Int) = some (.int m) ∧ 0 ≤ m ∧ m < 100000000 := by
   have : kn < 9 := by omega
   match kn, this with
   | 0, _ => exact ⟨_, rfl, by decide, by decide⟩
   | 1, _ => exact ⟨_, rfl, by decide, by decide⟩
   | 2, _ => exact ⟨_, rfl, by decide, by decide⟩
   | 3, _ => exact ⟨_, rfl, by decide, by decide⟩
   | 4, _ => exact ⟨_, rfl, by decide, by decide⟩
   | 5, _ => exact ⟨_, rfl, by decide, by decide⟩
   | 6, _ => exact ⟨_, rfl, by decide, by decide⟩
   | 7, _ => exact ⟨_, rfl, by decide, by decide⟩
   | 8, _ => exact ⟨_, rfl, by decide, by decide⟩
  obtain ⟨m, em, m0, m1⟩ := ix
  have cm : ∀ {i j : Int}, intBits i ≤ 64 → intBits j ≤ 64 → CMulB i j := fun a b => ⟨Nat.le_trans a (by decide), Nat.le_trans b (by decide)⟩
  refine ⟨_, rfl, _, _, rfl, rfl, (by show 9 ≤ sizeLine; decide), fun p np => ?_⟩
  have s1 := same_new np (.lst [V.int 40692, .int 48271, .int 104729, .int 1299709, .int 15485863, .int 611953, .int 7919, .int 69621, .int 32452843])
  refine ⟨_, rfl, p, _, _, _, rfl, rfl, SqL.of upd_same, em, _, _, rfl, rfl, cm (intBits_le_64 (by omega) (by omega)) (intBits_le_64 (by omega) (by omega)), _, _, rfl, rfl, nz (by decide), ?_⟩
  have e1 := fmod_in (x := (c + 7919) * m) (m := 2147483647) (by decide)
  have e2 : (((c + 7919) * m).fmod 2147483647).fdiv 7 = (((c + 7919) * m).fmod 2147483647) / 7 := Int.fdiv_eq_ediv_of_nonneg _ (by decide)
  refine ⟨_, rfl, _, rfl, _, _, rfl, rfl, ⟨by decide, by decide +kernel⟩, _, rfl, _, _, rfl, rfl, _, _, rfl, rfl, _, _, rfl, rfl, cm (intBits_le_64 (by omega) (by omega)) (intBits_le_64 (by omega) (by omega)), _, _, rfl, rfl, nz (by decide), ?_⟩
  have e3 := fmod_in (x := ((c + 7919) * m).fmod 2147483647 * ((((c + 7919) * m).fmod 2147483647).fdiv 7 + (kn : Int) + 1)) (m := 2147483587) (by decide)
  exact q _ _ e3.1 (by omega) s1
 ·exact ⟨_, rfl, ht⟩
def spLaw_lowestU : Sp := fun vs H Q _ => ∃ t b : Int, vs = [.int t, .int b] ∧ 0 < b ∧ gives H Q (low t b)
theorem sc_av : FnScope ["_law_top", "_law_bottom", "_law_one", "_law_other"] ["_law_top", "_law_bottom"] (defScope s_av) := sq
theorem ok_av (ht : P.given.tree = none) (D : Def K mg "_law_lowest" s_av ["_law_top", "_law_bottom"]) (m_abs : mg "abs" = none) : Fn P w K mg base (CXr P w) 33 "_law_lowest" ["_law_top", "_law_bottom"] spLaw_lowestU := by
 refine D.ok sc_av (fun vs H Q E h => ?_) (fun f cdv A outer s H vs Q E hr h => ?_)
 ·obtain ⟨t, b, rfl, _⟩ := h
  rfl
 obtain ⟨t, b, rfl, hb, q⟩ := h
 refine ⟨_, (pss_cons (ps_set (i := 2) sc_av.nd rfl (Or.inl rfl) (pe_callB call_abs rfl m_abs b_abs (pac (pv 0) pa_nil)))
  (pss_cons (ps_set (i := 3) sc_av.nd rfl (Or.inl rfl) (pv 1))
  (pss_cons (ps_while PassesOwn.never (pt_cmpR op_ne (pv 3) pe_int (nomark _)) (pss_one (ps_par (i := 2) (j := 3) rfl sc_av.nd rfl rfl (by decide) rfl rfl (pac (pv 3) (pac (pe_op op_modB (pv 2) (pv 3)) pa_nil)) rfl)))
  (pss_one (ps_ret (pe_tup (pac (pe_op (op_fdivU ht (Ty.Room.py hr (by decide)) rfl rfl rfl rfl rfl) (pv 0) (pv 2)) (pac (pe_op (op_fdivU ht (Ty.Room.py hr (by decide)) rfl rfl rfl rfl rfl) (pv 1) (pv 2)) pa_nil)))))))), ?_⟩
 refine ⟨_, rfl, t, rfl, ?_⟩
 refine ⟨_, rfl, ?_⟩
 refine while_by (fun σ H' => ∃ x y : Int, σ = [some (.int t), some (.int b), some (.int x), some (.int y)] ∧ H' = H ∧ 0 ≤ x ∧ 0 ≤ y ∧ Int.gcd x y = Int.gcd t b) (fun σ _ => match σ with | [_, _, _, some (.int y)] => y.natAbs | _ => 0) ⟨_, b, rfl, rfl, ?_, by omega, ?_⟩ ?_ ?_
 ·split <;> omega
 ·split
  ·exact Int.neg_gcd
  ·rfl
 ·rintro σ H' ⟨x, y, rfl, rfl, hx, hy, g⟩
  refine ⟨_, rfl, rfl, _, rfl, ?_⟩
  refine ite2 (fun c => ?_) (fun c => ?_)
  ·have hy0 : y ≠ 0 := by
    intro z
    subst z
    simp at c
   refine ⟨_, rfl, _, rfl, _, rfl, _, _, rfl, rfl, hy0, _, _, rfl, ?_⟩
   exact ⟨⟨_, _, rfl, rfl, hy, Int.fmod_nonneg_of_pos _ (by omega), by rw [gcd_step]; exact g⟩, fmod_less hy0⟩
  ·have hy0 : y = 0 := by
    have := Bool.eq_false_iff.mpr c
    simp at this
    exact this
   subst hy0
   have e : x = sg t b := by
    rw [Int.gcd_zero_right] at g
    unfold sg
    rw [if_neg (by omega)]
    unfold gz
    rw [← g]
    omega
   subst e
   have hbn : b ≠ 0 := by omega
   have c := sg_ne (t := t) hbn
   refine ⟨_, rfl, _, rfl, _, _, rfl, rfl, c, _, rfl, _, rfl, _, _, rfl, rfl, c, (by show 2 ≤ sizeLine; decide), fun p hp => ?_⟩
   exact q p _ (same_new hp _) upd_same
 ·rintro σ H' Q1 Q2 h ⟨v, e1, e2, k, ek, z⟩
  exact ⟨v, e1, e2, k, ek, h _ _ z⟩
def spDrawn : Sp := fun vs H Q _ => ∃ c s : Int, vs = [.int c, .int s] ∧ intBits c ≤ 2000000 ∧ 0 ≤ s ∧ s ≤ 997 ∧ ∀ r : Rat, Sz 50 r → gives H Q (qr r)
theorem sc_b6 : FnScope ["_law_cell", "_law_scale"] ["_law_cell", "_law_scale"] (defScope s_b6) := sq
theorem ok_b6 (D : Def K mg "_law_drawn" s_b6 ["_law_cell", "_law_scale"]) (G_av : Fn P w K mg base (CXr P w) 33 "_law_lowest" ["_law_top", "_law_bottom"] spLaw_lowestU) : Fn P w K mg base (CXr P w) 34 "_law_drawn" ["_law_cell", "_law_scale"] spDrawn := by
 refine D.ok sc_b6 (fun vs H Q E h => ?_) (fun f cdv A outer s H vs Q E hr h => ?_)
 ·obtain ⟨c, k, rfl, _⟩ := h
  rfl
 obtain ⟨c, k, rfl, bc, k0, k9, q⟩ := h
 refine ⟨_, (pss_cons (ps_if (pt_cmpR op_eq (pv 1) pe_int (nomark _)) (pss_one (ps_ret (pe_fn G_av hr.mo pX (pac (pe_op op_sub (pe_op op_modB (pv 0) pe_int) pe_int) (pac (pe_op op_add pe_int (pe_op op_modB (pe_op op_fdivB (pv 0) pe_int) pe_int)) pa_nil))))) pss_nil)
  (pss_one (ps_ret (pe_fn G_av hr.mo pX (pac (pe_op op_sub (pe_op op_modB (pe_op op_mulB (pv 0) (pe_op op_pow pe_int pe_int)) (pe_op op_add (pe_op op_mulB pe_int (pe_op op_pow pe_int pe_int)) pe_int)) (pe_op op_pow pe_int pe_int)) (pac (pv 1) pa_nil)))))), ?_⟩
 have fin : ∀ t b : Int, 0 < b → b ≤ 1000 → t.natAbs ≤ 1000000000000 → spLaw_lowestU [.int t, .int b] H Q E0 := fun t b h1 h2 h3 => by
  refine ⟨t, b, rfl, h1, ?_⟩
  rw [low_qr (Int.ne_of_gt h1)]
  exact q _ (sz_low (Int.ne_of_gt h1) (intBits_le_iff.mpr (by show _ < 1125899906842624; omega)) (intBits_le_iff.mpr (by show _ < 1125899906842624; omega)))
 refine ⟨_, rfl, rfl, _, rfl, ?_⟩
 refine ite2 (fun z => ?_) (fun z => ?_)
 ·have m := fmod_in (x := c) (m := 7) (by decide)
  have m2 := fmod_in (x := c.fdiv 7) (m := 2) (by decide)
  refine ⟨_, rfl, _, _, rfl, rfl, nz (by decide), _, _, rfl, rfl, _, rfl, _, _, rfl, rfl, ⟨by decide, by decide +kernel⟩, _, _, rfl, rfl, nz (by decide), _, _, rfl, rfl, fin _ _ (by omega) (by omega) (by omega)⟩
 ·have z' : ¬ k = 0 := by simpa [eqV] using z
  have e4 : (48271 : Int) ^ (4 : Int).toNat = 5429316803059692481 := by decide +kernel
  have e12 : (10 : Int) ^ (12 : Int).toNat = 1000000000000 := by decide +kernel
  refine ⟨_, rfl, _, _, rfl, rfl, ⟨by decide, by decide, by decide⟩, _, _, rfl, rfl, ⟨Nat.le_trans bc (by decide), by rw [e4]; decide +kernel⟩, ?_⟩
  refine ⟨_, _, rfl, rfl, ⟨by decide, by decide, by decide⟩, _, _, rfl, rfl, ⟨by decide +kernel, by rw [e12]; decide +kernel⟩, _, _, rfl, rfl, _, _, rfl, rfl, by rw [e12]; exact nz (by decide), ?_⟩
  refine ⟨_, _, rfl, rfl, ⟨by decide, by decide, by decide⟩, _, _, rfl, rfl, _, rfl, ?_⟩
  have m := fmod_in (x := c * 48271 ^ (4 : Int).toNat) (m := 2 * 10 ^ (12 : Int).toNat + 1) (by rw [e12]; decide)
  refine fin _ _ (by omega) (by omega) ?_
  rw [e12] at m ⊢
  omega
def WaysOk (ws : List (Rat × Rat)) : Prop := ws = [] ∨ (∃ x y : Rat, ws = [(x, y)] ∧ ¬ (x = 0 ∧ y = 0) ∧ Sz 50 x ∧ Sz 50 y) ∨ ws = [(1, 0), (0, 1)]
theorem nm_lit {K : Frag} {H : Hp} {p : Addr} (i : Int) (h : H p = some (.tup [.int i, .int 1])) : NmR K H (.ref p) (i : Rat) := ⟨p, rfl, by rw [qr_int]; exact SqT.of h⟩
theorem nm_of {K : Frag} {H : Hp} {p : Addr} {r : Rat} (h : H p = some (.tup [.int (qr r).1, .int (qr r).2])) : NmR K H (.ref p) r := ⟨p, rfl, SqT.of h⟩
theorem pt_of {K : Frag} {H : Hp} {p : Addr} {u v : V} {r s : Rat} (h : H p = some (.tup [u, v])) (h1 : NmR K H u r) (h2 : NmR K H v s) : PtR K H (.ref p) (r, s) := ⟨p, u, v, rfl, SqT.of h, h1, h2⟩
def spWaysL (K : Frag) : Sp := fun vs H Q _ => ∃ c : Int, vs = [.int c] ∧ ∀ (l : Addr) (us : List V) (ws : List (Rat × Rat)) (H' : Hp), WaysOk ws → Same H H' → H l = none → H' l = some (.lst us) → PtsR K H' us ws → Q (.ref l) H'
theorem sz_small {i : Int} (h : i.natAbs < 1000) : Sz 50 (i : Rat) := sz_int (by show _ < 1125899906842624; omega) (by decide)
theorem sc_bo : FnScope ["_law_cell"] ["_law_cell"] (defScope s_bo) := sq
theorem ok_bo (D : Def K mg "_law_ways" s_bo ["_law_cell"]) (G_av : Fn P w K mg base (CXr P w) 33 "_law_lowest" ["_law_top", "_law_bottom"] spLaw_lowestU) : Fn P w K mg base (CXr P w) 34 "_law_ways" ["_law_cell"] (spWaysL K) := by
 refine D.ok sc_bo (fun vs H Q E h => ?_) (fun f cdv A outer s H vs Q E hr h => ?_)
 ·obtain ⟨c, rfl, _⟩ := h
  rfl
 obtain ⟨c, rfl, q⟩ := h
 have L2 : 2 ≤ sizeLine := by decide
 have L1 : 1 ≤ sizeLine := by decide
 have m1 := fmod_in (x := c.fdiv 5) (m := 7) (by decide)
 have m2 := fmod_in (x := c.fdiv 35) (m := 7) (by decide)
 have m3 := fmod_in (x := c) (m := 2) (by decide)
 have d5 : ∀ i, CDivB i 5 := fun i => ⟨by decide, by decide +kernel⟩
 have d35 : ∀ i, CDivB i 35 := fun i => ⟨by decide, by decide +kernel⟩
 have tail : ∃ tt, PSs (cxOf (CXr P w) P w K mg base ["_law_cell"] "_law_ways" (defScope s_bo) f cdv A outer s H E).nox ((defBody s_bo).drop 3) tt ∧ (¬ ((c.fdiv 5).fmod 7 = 3 ∧ (c.fdiv 35).fmod 7 = 3) → tt { nx := fun _ H' => Q .non H', rt := Q } [some (.int c)] H) := by
  refine ⟨_, (pss_one (ps_ret (pe_lst (pac (pe_tup (pac (pe_fn G_av hr.mo pX (pac (pe_op op_sub (pe_op op_modB (pe_op op_fdivB (pv 0) pe_int) pe_int) pe_int) (pac (pe_op op_add pe_int (pe_op op_modB (pv 0) pe_int)) pa_nil))) (pac (pe_tup (pac (pe_op op_sub (pe_op op_modB (pe_op op_fdivB (pv 0) pe_int) pe_int) pe_int) (pac pe_int pa_nil))) pa_nil))) pa_nil)))), fun hne => ?_⟩
  refine ⟨_, rfl, _, _, rfl, rfl, d5 _, _, _, rfl, rfl, nz (by decide), _, _, rfl, rfl, _, rfl, _, _, rfl, rfl, nz (by decide), _, _, rfl, rfl, ?_⟩
  refine ⟨_, _, rfl, by omega, fun p1 H1 s1 e1 => ?_⟩
  rw [low_qr (by omega)] at e1
  refine ⟨_, rfl, _, _, rfl, rfl, d35 _, _, _, rfl, rfl, nz (by decide), _, _, rfl, rfl, L2, ?_⟩
  intro p2 n2; generalize eX : upd _ p2 _ = H2; have ⟨s2, e2⟩ := nw n2 eX; clear eX
  refine ⟨L2, ?_⟩
  intro p3 n3; generalize eX : upd _ p3 _ = H3; have ⟨s3, e3⟩ := nw n3 eX; clear eX
  refine ⟨L1, ?_⟩
  intro p4 n4; generalize eX : upd _ p4 _ = H4; have ⟨s4, e4⟩ := nw n4 eX; clear eX
  have f1 : PtR K H3 (.ref p3) ((((c.fdiv 5).fmod 7 - 3 : Int) : Rat) / ((1 + c.fmod 2 : Int) : Rat), (((c.fdiv 35).fmod 7 - 3 : Int) : Rat)) := pt_of e3 (((nm_of e1).same s2).same s3) ((nm_lit _ e2).same s3)
  have sh := sm_tr (sm_tr s1 s2) s3
  refine q p4 _ [_] _ (.inr (.inl ⟨_, _, rfl, ?_, ?_, ?_⟩)) (sm_tr sh s4) (none_back sh n4) e4 (.cons (f1.same s4) .nil)
  ·rintro ⟨h1, h2⟩
   refine hne ⟨?_, ?_⟩
   ·apply Classical.byContradiction
    intro z
    have y1 : (((c.fdiv 5).fmod 7 - 3 : Int) : Rat) ≠ 0 := ratne (by omega)
    have y2 : ((1 + c.fmod 2 : Int) : Rat) ≠ 0 := ratne (by omega)
    exact (by grind : ¬ (((c.fdiv 5).fmod 7 - 3 : Int) : Rat) / ((1 + c.fmod 2 : Int) : Rat) = 0) h1
   ·apply Classical.byContradiction
    intro z
    exact ratne (show (c.fdiv 35).fmod 7 - 3 ≠ 0 by omega) h2
  ·exact sz_low (by omega) (intBits_le_iff.mpr (by show _ < 1125899906842624; omega)) (intBits_le_iff.mpr (by show _ < 1125899906842624; omega))
  ·exact sz_small (by omega)
 obtain ⟨tt, pt, ht⟩ := tail
 refine ⟨_, (pss_cons (ps_if (pt_cmpR op_lt (pe_op op_modB (pv 0) pe_int) pe_int (nomark _)) (pss_one (ps_ret (pe_lst pa_nil))) pss_nil) (pss_cons (ps_if (pt_cmpR op_eq (pe_op op_modB (pv 0) pe_int) pe_int (nomark _)) (pss_one (ps_ret (pe_lst (pac (pe_tup (pac (pe_tup (pac pe_int (pac pe_int pa_nil))) (pac (pe_tup (pac pe_int (pac pe_int pa_nil))) pa_nil))) (pac (pe_tup (pac (pe_tup (pac pe_int (pac pe_int pa_nil))) (pac (pe_tup (pac pe_int (pac pe_int pa_nil))) pa_nil))) pa_nil))))) pss_nil) (pss_cons (ps_if (PW.pt (pw_and (pt_cmpR op_eq (pe_op op_modB (pe_op op_fdivB (pv 0) pe_int) pe_int) pe_int (nomark _)) (pw_and1 (pt_cmpR op_eq (pe_op op_modB (pe_op op_fdivB (pv 0) pe_int) pe_int) pe_int (nomark _))))) (pss_one (ps_ret (pe_lst (pac (pe_tup (pac (pe_tup (pac pe_int (pac pe_int pa_nil))) (pac (pe_tup (pac (pe_op op_sub pe_int pe_int) (pac pe_int pa_nil))) pa_nil))) pa_nil)))) pss_nil) pt))), ?_⟩
 refine ⟨_, rfl, _, _, rfl, rfl, nz (by decide), _, _, rfl, rfl, _, rfl, ?_⟩
 refine ite2 (fun _ => ?_) (fun _ => ?_)
 ·refine ⟨(by show 0 ≤ sizeLine; decide), fun p np => ?_⟩
  exact q p [] [] _ (.inl rfl) (same_new np _) np upd_same .nil
 refine ⟨_, rfl, _, _, rfl, rfl, nz (by decide), rfl, _, rfl, ?_⟩
 refine ite2 (fun _ => ?_) (fun _ => ?_)
 ·refine ⟨L2, ?_⟩
  intro p1 n1; generalize eX : upd _ p1 _ = H1; have ⟨s1, e1⟩ := nw n1 eX; clear eX
  refine ⟨L2, ?_⟩
  intro p2 n2; generalize eX : upd _ p2 _ = H2; have ⟨s2, e2⟩ := nw n2 eX; clear eX
  refine ⟨L2, ?_⟩
  intro p3 n3; generalize eX : upd _ p3 _ = H3; have ⟨s3, e3⟩ := nw n3 eX; clear eX
  refine ⟨L2, ?_⟩
  intro p4 n4; generalize eX : upd _ p4 _ = H4; have ⟨s4, e4⟩ := nw n4 eX; clear eX
  refine ⟨L2, ?_⟩
  intro p5 n5; generalize eX : upd _ p5 _ = H5; have ⟨s5, e5⟩ := nw n5 eX; clear eX
  refine ⟨L2, ?_⟩
  intro p6 n6; generalize eX : upd _ p6 _ = H6; have ⟨s6, e6⟩ := nw n6 eX; clear eX
  refine ⟨L2, ?_⟩
  intro p7 n7; generalize eX : upd _ p7 _ = H7; have ⟨s7, e7⟩ := nw n7 eX; clear eX
  have sh := sm_tr (sm_tr s1 s2) (sm_tr (sm_tr s3 s4) (sm_tr s5 s6))
  have f1 : PtR K H6 (.ref p3) (1, 0) := by
   have z : PtR K H3 (.ref p3) (1, 0) := pt_of e3 (((nm_lit 1 e1).same s2).same s3) ((nm_lit 0 e2).same s3)
   exact ((z.same s4).same s5).same s6
  have f2 : PtR K H6 (.ref p6) (0, 1) := pt_of e6 (((nm_lit 0 e4).same s5).same s6) ((nm_lit 1 e5).same s6)
  exact q p7 _ [(1, 0), (0, 1)] _ (.inr (.inr rfl)) (sm_tr sh s7) (none_back sh n7) e7 (.cons (f1.same s7) (.cons (f2.same s7) .nil))
 refine ⟨_, rfl, _, _, rfl, rfl, d5 _, _, _, rfl, rfl, nz (by decide), rfl, _, rfl, ?_⟩
 refine ite2 (fun c1 => ?_) (fun c1 => ?_)
 ·refine ⟨_, rfl, _, _, rfl, rfl, d35 _, _, _, rfl, rfl, nz (by decide), rfl, _, rfl, ?_⟩
  refine ite2 (fun c2 => ?_) (fun c2 => ?_)
  ·refine ⟨L2, ?_⟩
   intro p1 n1; generalize eX : upd _ p1 _ = H1; have ⟨s1, e1⟩ := nw n1 eX; clear eX
   refine ⟨_, _, rfl, rfl, L2, ?_⟩
   intro p2 n2; generalize eX : upd _ p2 _ = H2; have ⟨s2, e2⟩ := nw n2 eX; clear eX
   refine ⟨L2, ?_⟩
   intro p3 n3; generalize eX : upd _ p3 _ = H3; have ⟨s3, e3⟩ := nw n3 eX; clear eX
   refine ⟨L1, ?_⟩
   intro p4 n4; generalize eX : upd _ p4 _ = H4; have ⟨s4, e4⟩ := nw n4 eX; clear eX
   have sh := sm_tr (sm_tr s1 s2) s3
   have f1 : PtR K H3 (.ref p3) (0, ((0 - 1 : Int) : Rat)) := pt_of e3 (((nm_lit 0 e1).same s2).same s3) ((nm_lit (0 - 1) e2).same s3)
   refine q p4 _ [_] _ (.inr (.inl ⟨_, _, rfl, ?_, sz_zero (by decide), sz_small (by decide)⟩)) (sm_tr sh s4) (none_back sh n4) e4 (.cons (f1.same s4) .nil)
   rintro ⟨_, h2⟩
   exact ratne (show (0 - 1 : Int) ≠ 0 by decide) h2
  ·exact ht fun z => c2 (decide_eq_true (congrArg V.int z.2))
 ·exact ht fun z => c1 (decide_eq_true (congrArg V.int z.1))
theorem mul_mem {x : Str} {n : Int} {c : Nat} (h : c ∈ (Txt.mul x n).cps.toList) : c ∈ x.cps.toList := by
 unfold Txt.mul at h
 split at h
 ·cases h
 split at h
 ·exact h
 ·have fold : ∀ (k : Nat) (acc : Array Nat), c ∈ ((List.replicate k x.cps).foldl (· ++ ·) acc).toList → c ∈ acc.toList ∨ c ∈ x.cps.toList := by
   intro k
   induction k with
   | zero => exact fun acc h => .inl h
   | succ k ih =>
    intro acc h
    rw [List.replicate_succ, List.foldl_cons] at h
    rcases ih _ h with z | z
    ·rw [Array.toList_append] at z
     exact List.mem_append.mp z
    ·exact .inr z
  rcases fold _ _ h with z | z
  ·cases z
  ·exact z
def Sg (x : Str) : Prop := ∀ c ∈ x.cps.toList, nameSign c = true
theorem sg_app {x y : Str} (h1 : Sg x) (h2 : Sg y) : Sg (x ++ y) := fun c hc => by
 rw [cps_append] at hc
 rcases List.mem_append.mp hc with z | z
 ·exact h1 c z
 ·exact h2 c z
theorem sg_mul {x : Str} {n : Int} (h : Sg x) : Sg (Txt.mul x n) := fun c hc => h c (mul_mem hc)
theorem sg_slice {x : Str} {l u : Option Int} (h : Sg x) : Sg (Txt.slice x l u) := fun c hc => h c (slice_mem hc)
theorem sg_36 {i : Int} {d : Nat} (h : atI (Str.ofString "abcdefghijklmnopqrstuvwxyz0123456789").cps.toList i = some d) : Sg (⟨#[d]⟩ : Str) := by
 have k : ∀ c ∈ (Str.ofString "abcdefghijklmnopqrstuvwxyz0123456789").cps.toList, nameSign c = true := by decide +kernel
 obtain ⟨j, _, e, _⟩ := atI_get h
 intro c hc
 have : c = d := by simpa using hc
 rw [this]
 exact k d (List.mem_of_getElem? e)
theorem name_ok {x : Str} (h : Sg x) (l1 : 1 ≤ x.length) (l2 : x.length ≤ 20) : NameOk x := by
 refine ⟨?_, l2⟩
 unfold isName
 rw [decide_eq_false (fun z => ?_), List.all_eq_true.mpr h]
 ·rfl
 ·rw [V.str.inj z] at l1
  exact absurd l1 (by decide +kernel)
theorem at36 (c : Int) : ∃ d : Nat, atI (Str.ofString "abcdefghijklmnopqrstuvwxyz0123456789").cps.toList (c.fmod 36) = some d := by
 have m := fmod_in (x := c) (m := 36) (by decide)
 obtain ⟨n, en⟩ : ∃ n : Nat, c.fmod 36 = (n : Int) := ⟨(c.fmod 36).toNat, by omega⟩
 rw [en] at m ⊢
 have hn : n < 36 := by omega
 have hl : (Str.ofString "abcdefghijklmnopqrstuvwxyz0123456789").cps.toList.length = 36 := by decide +kernel
 exact ⟨_, atI_nat (gE (by omega))⟩
theorem inj36 : ∀ i j : Fin 36, atI (Str.ofString "abcdefghijklmnopqrstuvwxyz0123456789").cps.toList (i.val : Int) = atI (Str.ofString "abcdefghijklmnopqrstuvwxyz0123456789").cps.toList (j.val : Int) → i = j := by decide +kernel
theorem len36 : (Str.ofString "abcdefghijklmnopqrstuvwxyz0123456789").length ≤ sizeLine := by decide +kernel
theorem slice1 (d e : Nat) : ∀ m : Nat, m < 5 → (Txt.slice (Txt.mul (⟨#[d]⟩ : Str) (m : Int) ++ (⟨#[e]⟩ : Str)) none (some 1)).length = 1
 | 0, _ => by kernel_rfl
 | 1, _ => by kernel_rfl
 | 2, _ => by kernel_rfl
 | 3, _ => by kernel_rfl
 | 4, _ => by kernel_rfl
def spNames : Sp := fun vs H Q _ => ∃ c : Int, vs = [.int c, .int 9] ∧ ∀ (l : Addr) (xs : List Str) (H' : Hp), xs.length = 9 → xs.Nodup → (∀ x ∈ xs, NameOk x) → Same H H' → H l = none → H' l = some (.lst (xs.map V.str)) → Q (.ref l) H'
theorem sc_b7 : FnScope ["_law_cell", "_law_many", "_law_signs", "_law_stem", "_law_at"] ["_law_cell", "_law_many"] (defScope s_b7) := sq
theorem ok_b7 (D : Def K mg "_law_names" s_b7 ["_law_cell", "_law_many"]) (m_range : mg "range" = none) (m_len : mg "len" = none) : Fn P w K mg base CX 1 "_law_names" ["_law_cell", "_law_many"] spNames := by
 refine D.ok sc_b7 (fun vs H Q E h => ?_) (fun f cdv A outer s H vs Q E hr h => ?_)
 ·obtain ⟨c, rfl, _⟩ := h
  rfl
 obtain ⟨c, rfl, q⟩ := h
 refine ⟨_, (pss_cons (ps_set (i := 2) sc_b7.nd rfl (Or.inr rfl) pe_str)
  (pss_cons (ps_set (i := 3) sc_b7.nd rfl (Or.inr rfl) (pe_op op_add_str (pe_op op_mulS (pe_ix ix_str (pv 2) (pe_op op_modB (pe_op op_fdivB (pv 0) pe_int) pe_int) (fun _ _ => rfl)) (pe_op op_modB (pe_op op_fdivB (pv 0) pe_int) pe_int)) (pe_ix ix_str (pv 2) (pe_op op_modB (pe_op op_fdivB (pv 0) pe_int) pe_int) (fun _ _ => rfl))))
  (pss_cons (ps_if (pt_cmpR op_eq (pe_op op_modB (pv 0) pe_int) pe_int (nomark _)) (pss_one (ps_ret (pe_comp (tn := ["_law_k"]) (fr := ["_law_stem"]) (caps := [3]) rfl ⟨rfl, by decide +kernel, rfl, by decide +kernel, by decide +kernel, rfl, ⟨(by first | exact Or.inl rfl | exact Or.inr rfl), trivial⟩, ⟨(by first | exact Or.inl rfl | exact Or.inr rfl), trivial⟩⟩ (pi_range1 rfl m_range (pac (pv 1) pa_nil)) (fun _ _ _ _ => (pg_name (i := 0) (show (["_law_k", "_law_stem"] : List Str).Nodup from by decide +kernel) rfl (Or.inl rfl))) (fun _ _ _ _ => pf_nil) (fun _ _ _ _ => (pe_op op_add_str (pv 1) (pe_op op_mulS (pe_slice sl_str (pv 1) po_none (po_some pe_int)) (pv 0))))))) pss_nil)
  (pss_cons (ps_set (i := 4) sc_b7.nd rfl (Or.inr rfl) (pe_op op_modB (pe_op op_fdivB (pv 0) pe_int) (pe_op op_add (pe_callB call_len_str rfl m_len b_len (pac (pv 3) pa_nil)) pe_int)))
  (pss_one (ps_ret (pe_comp (tn := ["_law_k"]) (fr := ["_law_stem", "_law_signs", "_law_cell", "_law_at"]) (caps := [3, 2, 0, 4]) rfl ⟨rfl, by decide +kernel, rfl, by decide +kernel, by decide +kernel, rfl, ⟨(by first | exact Or.inl rfl | exact Or.inr rfl), ⟨(by first | exact Or.inl rfl | exact Or.inr rfl), ⟨(by first | exact Or.inl rfl | exact Or.inr rfl), ⟨(by first | exact Or.inl rfl | exact Or.inr rfl), trivial⟩⟩⟩⟩, ⟨(by first | exact Or.inl rfl | exact Or.inr rfl), ⟨(by first | exact Or.inl rfl | exact Or.inr rfl), ⟨(by first | exact Or.inl rfl | exact Or.inr rfl), ⟨(by first | exact Or.inl rfl | exact Or.inr rfl), trivial⟩⟩⟩⟩⟩ (pi_range1 rfl m_range (pac (pv 1) pa_nil)) (fun _ _ _ _ => (pg_name (i := 0) (show (["_law_k", "_law_stem", "_law_signs", "_law_cell", "_law_at"] : List Str).Nodup from by decide +kernel) rfl (Or.inl rfl))) (fun _ _ _ _ => pf_nil) (fun _ _ _ _ => (pe_op op_add_str (pe_op op_add_str (pe_slice sl_str (pv 1) po_none (po_some (pv 4))) (pe_ix ix_str (pv 2) (pe_op op_modB (pe_op op_add (pe_op op_fdivB (pv 3) pe_int) (pv 0)) pe_int) (fun _ _ => rfl))) (pe_slice sl_str (pv 1) (po_some (pv 4)) po_none)))))))))), ?_⟩
 obtain ⟨d1, e1⟩ := at36 (c.fdiv 3)
 obtain ⟨d2, e2⟩ := at36 (c.fdiv 5)
 have dv : ∀ i j : Int, 0 < j → j < 1000 → CDivB i j := fun i j h0 h1 => ⟨by omega, Nat.le_trans (intBits_le_64 (by omega) (by omega)) (by decide)⟩
 have m5 := fmod_in (x := c.fdiv 108) (m := 5) (by decide)
 obtain ⟨m, em⟩ : ∃ m : Nat, (c.fdiv 108).fmod 5 = (m : Int) := ⟨((c.fdiv 108).fmod 5).toNat, by omega⟩
 have hm : m < 5 := by omega
 have ls : (Txt.mul (⟨#[d1]⟩ : Str) (m : Int) ++ (⟨#[d2]⟩ : Str)).length = m + 1 := by
  rw [strLen_append, mul_len rfl]
  rfl
 have z20 : ∀ {n : Nat}, n ≤ 40 → n ≤ sizeLine := fun h => Nat.le_trans h (by decide)
 refine ⟨_, rfl, _, rfl, _, _, rfl, rfl, dv _ _ (by decide) (by decide), _, _, rfl, rfl, nz (by decide), _, _, _, rfl, rfl, len36, e1, ?_⟩
 refine ⟨_, rfl, _, _, rfl, rfl, dv _ _ (by decide) (by decide), _, _, rfl, rfl, nz (by decide), _, _, rfl, rfl, (by rw [em]; exact mulOk1 rfl (by omega)), ?_⟩
 refine ⟨_, rfl, _, rfl, _, _, rfl, rfl, dv _ _ (by decide) (by decide), _, _, rfl, rfl, nz (by decide), _, _, _, rfl, rfl, len36, e2, ?_⟩
 rw [em]
 refine ⟨_, _, rfl, rfl, z20 (by rw [mul_len rfl]; show m + 1 ≤ 40; omega), ?_⟩
 have sgst : Sg (Txt.mul (⟨#[d1]⟩ : Str) (m : Int) ++ (⟨#[d2]⟩ : Str)) := sg_app (sg_mul (sg_36 e1)) (sg_36 e2)
 generalize hst : Txt.mul (⟨#[d1]⟩ : Str) (m : Int) ++ (⟨#[d2]⟩ : Str) = st at ls sgst ⊢
 refine ⟨_, rfl, _, _, rfl, rfl, nz (by decide), rfl, _, rfl, ?_⟩
 refine ite2 (fun _ => ?_) (fun _ => ?_)
 ·have l1 : (Txt.slice st none (some 1)).length = 1 := by rw [← hst]; exact slice1 d1 d2 m hm
  refine ⟨_, rfl, 9, rfl, by decide, by decide, fun D nD => ?_⟩
  refine comp_range (lo := 0) (n := 9) (fun i v _ => v = .str (st ++ Txt.mul (Txt.slice st none (some 1)) (i : Int))) nD (by decide) (fun _ _ _ _ _ _ _ h => h) ?_ ?_
  ·intro i H2 R hi s2 k
   have ei : (0 : Int) + (i : Int) = (i : Int) := Int.zero_add _
   rw [ei]
   refine ⟨_, rfl, _, rfl, _, rfl, st, rfl, z20 (by omega), _, rfl, _, _, rfl, rfl, mulOk1 l1 (by omega), _, _, rfl, rfl, z20 (by rw [mul_len l1, ls]; omega), k _ _ (Same.refl _) rfl⟩
  ·intro ys H2 hy hrel s2 hD
   have e := list_of_rel (f := fun i => V.str (st ++ Txt.mul (Txt.slice st none (some 1)) (i : Int))) hy hrel
   have hnm : ∀ x ∈ (List.range 9).map (fun (i : Nat) => st ++ Txt.mul (Txt.slice st none (some 1)) (i : Int)), NameOk x := fun x hx => by
    obtain ⟨i, hi, rfl⟩ := List.mem_map.mp hx
    have hi9 := List.mem_range.mp hi
    exact name_ok (sg_app sgst (sg_mul (sg_slice sgst))) (by rw [strLen_append, mul_len l1]; omega) (by rw [strLen_append, mul_len l1]; omega)
   refine q D ((List.range 9).map fun (i : Nat) => st ++ Txt.mul (Txt.slice st none (some 1)) (i : Int)) H2 (by simp) (nodup_range_map fun i j _ _ h => ?_) hnm s2 nD (by rw [hD, e, List.map_map]; rfl)
   have := congrArg Str.length h
   rw [strLen_append, strLen_append, mul_len l1, mul_len l1] at this
   omega
 ·refine ⟨_, rfl, _, _, rfl, rfl, dv _ _ (by decide) (by decide), _, rfl, st, rfl, z20 (by omega), _, _, rfl, rfl, _, _, rfl, rfl, nz (by omega), ?_⟩
  have c1 : ∀ l u, (Txt.slice st l u).length ≤ 5 := fun l u => Nat.le_trans (Txt.slice_le st l u) (by omega)
  have dx : ∀ k : Nat, ∃ d : Nat, atI (Str.ofString "abcdefghijklmnopqrstuvwxyz0123456789").cps.toList ((c.fdiv 7 + (k : Int)).fmod 36) = some d := fun k => at36 _
  refine ⟨_, rfl, 9, rfl, by decide, by decide, fun D nD => ?_⟩
  refine comp_range (lo := 0) (n := 9) (fun i v _ => v = .str (Txt.slice st none (some ((c.fdiv 540).fmod ((st.length : Int) + 1))) ++ (⟨#[Classical.choose (dx i)]⟩ : Str) ++ Txt.slice st (some ((c.fdiv 540).fmod ((st.length : Int) + 1))) none)) nD (by decide) (fun _ _ _ _ _ _ _ h => h) ?_ ?_
  ·intro i H2 R hi s2 k
   have ei : (0 : Int) + (i : Int) = (i : Int) := Int.zero_add _
   rw [ei]
   refine ⟨_, rfl, _, rfl, _, rfl, st, rfl, z20 (by omega), _, rfl, _, rfl, _, _, rfl, rfl, dv _ _ (by decide) (by decide), _, rfl, _, _, rfl, rfl, _, _, rfl, rfl, nz (by decide), _, _, _, rfl, rfl, len36, Classical.choose_spec (dx i), ?_⟩
   have := c1 none (some ((c.fdiv 540).fmod ((st.length : Int) + 1)))
   have h2 := c1 (some ((c.fdiv 540).fmod ((st.length : Int) + 1))) none
   refine ⟨_, _, rfl, rfl, z20 (by rw [Ty.one_sign]; omega), _, rfl, _, rfl, _, rfl, st, rfl, z20 (by omega), _, _, rfl, rfl, z20 (by rw [strLen_append, Ty.one_sign]; omega), k _ _ (Same.refl _) rfl⟩
  ·intro ys H2 hy hrel s2 hD
   have e := list_of_rel (f := fun i => V.str (Txt.slice st none (some ((c.fdiv 540).fmod ((st.length : Int) + 1))) ++ (⟨#[Classical.choose (dx i)]⟩ : Str) ++ Txt.slice st (some ((c.fdiv 540).fmod ((st.length : Int) + 1))) none)) hy hrel
   have hnm : ∀ x ∈ (List.range 9).map (fun (i : Nat) => Txt.slice st none (some ((c.fdiv 540).fmod ((st.length : Int) + 1))) ++ (⟨#[Classical.choose (dx i)]⟩ : Str) ++ Txt.slice st (some ((c.fdiv 540).fmod ((st.length : Int) + 1))) none), NameOk x := fun x hx => by
    obtain ⟨i, hi, rfl⟩ := List.mem_map.mp hx
    have h1 := c1 none (some ((c.fdiv 540).fmod ((st.length : Int) + 1)))
    have h2 := c1 (some ((c.fdiv 540).fmod ((st.length : Int) + 1))) none
    exact name_ok (sg_app (sg_app (sg_slice sgst) (sg_36 (Classical.choose_spec (dx i)))) (sg_slice sgst)) (by rw [strLen_append, strLen_append, Ty.one_sign]; omega) (by rw [strLen_append, strLen_append, Ty.one_sign]; omega)
   refine q D ((List.range 9).map fun (i : Nat) => Txt.slice st none (some ((c.fdiv 540).fmod ((st.length : Int) + 1))) ++ (⟨#[Classical.choose (dx i)]⟩ : Str) ++ Txt.slice st (some ((c.fdiv 540).fmod ((st.length : Int) + 1))) none) H2 (by simp) (nodup_range_map fun i j hi hj h => ?_) hnm s2 nD (by rw [hD, e, List.map_map]; rfl)
   have h' := congrArg (fun x : Str => x.cps.toList) h
   change (_ : Str).cps.toList = (_ : Str).cps.toList at h'
   rw [cps_append, cps_append, cps_append, cps_append] at h'
   have h2 := List.append_cancel_left (List.append_cancel_right h')
   have h3 : Classical.choose (dx i) = Classical.choose (dx j) := by simpa using h2
   have y1 := Classical.choose_spec (dx i)
   have y2 := Classical.choose_spec (dx j)
   rw [h3, ← y2] at y1
   have a1 := fmod_in (x := c.fdiv 7 + (i : Int)) (m := 36) (by decide)
   have a2 := fmod_in (x := c.fdiv 7 + (j : Int)) (m := 36) (by decide)
   obtain ⟨n1, en1⟩ : ∃ n : Nat, (c.fdiv 7 + (i : Int)).fmod 36 = (n : Int) := ⟨_, (Int.toNat_of_nonneg a1.1).symm⟩
   obtain ⟨n2, en2⟩ : ∃ n : Nat, (c.fdiv 7 + (j : Int)).fmod 36 = (n : Int) := ⟨_, (Int.toNat_of_nonneg a2.1).symm⟩
   rw [en1, en2] at y1
   have z := inj36 ⟨n1, by omega⟩ ⟨n2, by omega⟩ y1
   have z' : n1 = n2 := congrArg Fin.val z
   have w1 : (c.fdiv 7 + (i : Int)).fmod 36 = (c.fdiv 7 + (i : Int)) % 36 := Int.fmod_eq_emod_of_nonneg _ (by decide)
   have w2 : (c.fdiv 7 + (j : Int)).fmod 36 = (c.fdiv 7 + (j : Int)) % 36 := Int.fmod_eq_emod_of_nonneg _ (by decide)
   omega
def PinX (K : Frag) (H : Hp) (d : Addr) (v : V) (p : PinD) : Prop := ∃ (a l : Addr) (s : V) (us : List V), v = .ref a ∧ SqT K H a [.str p.nm, s, .ref l] ∧ PtR K H s p.sp ∧ H l = some (.lst us) ∧ PtsR K H us p.ws ∧ l ≠ d
def PinR (K : Frag) (H : Hp) (v : V) (p : PinD) : Prop := ∃ (a l : Addr) (s : V) (us : List V), v = .ref a ∧ SqT K H a [.str p.nm, s, .ref l] ∧ PtR K H s p.sp ∧ H l = some (.lst us) ∧ PtsR K H us p.ws
def BarR (K : Frag) (H : Hp) (v : V) (b : BarD) : Prop := ∃ (a : Addr) (u1 u2 : V), v = .ref a ∧ SqT K H a [.str b.nm, u1, u2] ∧ PinR K H u1 b.one ∧ PinR K H u2 b.other
section
variable {K : Frag} {H H' : Hp} {v : V} {p : PinD} {d : Addr}
theorem PinX.same (h : PinX K H d v p) (s : Same H H') : PinX K H' d v p := by
 obtain ⟨a, l, sv, us, e, h1, h2, h3, h4, h5⟩ := h
 exact ⟨a, l, sv, us, e, Ty.Same.seqT s h1, h2.same s, s _ _ h3, h4.same s, h5⟩
theorem PinX.upd {xs : List V} {o : HO} (h : PinX K H d v p) (e : H d = some (.lst xs)) : PinX K (L2.upd H d o) d v p := by
 obtain ⟨a, l, sv, us, ev, h1, h2, h3, h4, h5⟩ := h
 have t : SameT H (L2.upd H d o) := .list e
 exact ⟨a, l, sv, us, ev, t.seqT h1, h2.sameT t, by rw [upd_ne h5]; exact h3, h4.sameT t, h5⟩
theorem PinX.r (h : PinX K H d v p) : PinR K H v p := by
 obtain ⟨a, l, sv, us, e, h1, h2, h3, h4, _⟩ := h
 exact ⟨a, l, sv, us, e, h1, h2, h3, h4⟩
theorem PinR.same (h : PinR K H v p) (s : Same H H') : PinR K H' v p := by
 obtain ⟨a, l, sv, us, e, h1, h2, h3, h4⟩ := h
 exact ⟨a, l, sv, us, e, Ty.Same.seqT s h1, h2.same s, s _ _ h3, h4.same s⟩
theorem BarR.same {b : BarD} (h : BarR K H v b) (s : Same H H') : BarR K H' v b := by
 obtain ⟨a, u1, u2, e, h1, h2, h3⟩ := h
 exact ⟨a, u1, u2, e, Ty.Same.seqT s h1, h2.same s, h3.same s⟩
end
structure GoodP (pins : List PinD) : Prop where
 np : (pins.map (·.nm)).Nodup
 ns : (pins.map (·.sp)).Nodup
 sz : ∀ p ∈ pins, Sz 50 p.sp.1 ∧ Sz 50 p.sp.2
 ws : ∀ p ∈ pins, WaysOk p.ws
theorem WaysOk.sz {ws : List (Rat × Rat)} (h : WaysOk ws) : ∀ w ∈ ws, Sz 50 w.1 ∧ Sz 50 w.2 := fun w hw => by
 rcases h with rfl | ⟨x, y, rfl, _, h1, h2⟩ | rfl
 ·cases hw
 ·have : w = (x, y) := by simpa using hw
  rw [this]
  exact ⟨h1, h2⟩
 ·have e1 : Sz 50 (1 : Rat) := sz_small (i := 1) (by decide)
  have e0 : Sz 50 (0 : Rat) := sz_zero (by decide)
  have : w = (1, 0) ∨ w = (0, 1) := by simpa using hw
  rcases this with rfl | rfl
  ·exact ⟨e1, e0⟩
  ·exact ⟨e0, e1⟩
theorem WaysOk.len {ws : List (Rat × Rat)} (h : WaysOk ws) : ws.length ≤ 2 := by
 rcases h with rfl | ⟨x, y, rfl, _⟩ | rfl <;> simp
theorem GoodP.snoc {pins : List PinD} {p : PinD} (g : GoodP pins) (h1 : p.nm ∉ pins.map (·.nm)) (h2 : p.sp ∉ pins.map (·.sp)) (h3 : Sz 50 p.sp.1 ∧ Sz 50 p.sp.2) (h4 : WaysOk p.ws) : GoodP (pins ++ [p]) := by
 refine ⟨?_, ?_, fun q hq => ?_, fun q hq => ?_⟩
 ·rw [List.map_append, List.nodup_append]
  refine ⟨g.np, by simp, fun a ha b hb e => h1 ?_⟩
  have : b = p.nm := by simpa using hb
  rw [← this, ← e]
  exact ha
 ·rw [List.map_append, List.nodup_append]
  refine ⟨g.ns, by simp, fun a ha b hb e => h2 ?_⟩
  have : b = p.sp := by simpa using hb
  rw [← this, ← e]
  exact ha
 ·rcases List.mem_append.mp hq with z | z
  ·exact g.sz q z
  ·rw [List.mem_singleton.mp z]
   exact h3
 ·rcases List.mem_append.mp hq with z | z
  ·exact g.ws q z
  ·rw [List.mem_singleton.mp z]
   exact h4
structure GoodB (pins : List PinD) (bars : List BarD) : Prop where
 nb : (bars.map (·.nm)).Nodup
 ends : ∀ b ∈ bars, b.one ∈ pins ∧ b.other ∈ pins ∧ b.one.nm ≠ b.other.nm
theorem paired_snoc {α β : Type} {F : α → β → Prop} : ∀ {l₁ : List α} {l₂ : List β} {a : α} {b : β}, Paired F l₁ l₂ → F a b → Paired F (l₁ ++ [a]) (l₂ ++ [b])
 | _, _, _, _, .nil, h => .cons h .nil
 | _, _, _, _, .cons h t, h' => .cons h (paired_snoc t h')
theorem bits_cell {c : Int} {k m : Nat} (h : intBits c ≤ 1048576) (hk : k < 20) (hm : m < 100) : intBits (c + (m : Int) * (k : Int) * (k : Int)) ≤ 2000000 := by
 have b : intBits ((m : Int) * (k : Int) * (k : Int)) ≤ 1048576 := by
  have : m * k * k < 100 * 20 * 20 := by
   have h1 : m * k ≤ 100 * 20 := Nat.mul_le_mul (by omega) (by omega)
   have h2 : m * k * k ≤ 100 * 20 * 19 := Nat.mul_le_mul h1 (by omega)
   omega
  have e : (m : Int) * (k : Int) * (k : Int) = ((m * k * k : Nat) : Int) := by push_cast; rfl
  rw [e]
  exact Nat.le_trans (intBits_le_64 (by omega) (by omega)) (by decide)
 exact Nat.le_trans (bits_addF h b) (by decide)
theorem mul_small {m k : Nat} (hm : m < 100) (hk : k < 20) : CMulB (m : Int) (k : Int) ∧ CMulB ((m : Int) * (k : Int)) (k : Int) := by
 have h1 : m * k ≤ 100 * 20 := Nat.mul_le_mul (by omega) (by omega)
 have e : (m : Int) * (k : Int) = ((m * k : Nat) : Int) := by push_cast; rfl
 have z : ∀ n : Nat, n ≤ 2000 → intBits (n : Int) ≤ 33554432 := fun n hn => Nat.le_trans (intBits_le_64 (by omega) (by omega)) (by decide)
 refine ⟨⟨z _ (by omega), z _ (by omega)⟩, ?_, z _ (by omega)⟩
 rw [e]
 exact z _ h1
def spPinsL (K : Frag) : Sp := fun vs H Q _ => ∃ (sA nA : Addr) (ns : List Int) (xs : List Str) (sc : Int), vs = [.ref sA, .ref nA, .int sc] ∧ SqL K H sA (ns.map V.int) ∧ (∀ i ∈ ns, intBits i ≤ 1048576) ∧ H nA = some (.lst (xs.map V.str)) ∧ xs.length = 9 ∧ xs.Nodup ∧ 0 ≤ sc ∧ sc ≤ 997 ∧
 ∀ (l : Addr) (us : List V) (pins : List PinD) (H' : Hp), Same H H' → H l = none → H' l = some (.lst us) → Paired (PinR K H') us pins → GoodP pins → pins.length ≤ 6 → (∀ p ∈ pins, p.nm ∈ xs) → Q (.ref l) H'
theorem sc_bp : FnScope ["_law_script", "_law_names_here", "_law_scale", "_law_pins_here", "_law_k", "_law_cell", "_law_spot"] ["_law_script", "_law_names_here", "_law_scale"] (defScope s_bp) := sq
theorem ok_bp (D : Def K mg "_law_pins" s_bp ["_law_script", "_law_names_here", "_law_scale"]) (m_range : mg "range" = none) (G_ag : Fn P w K mg base (CXr P w) 1 "_law_cell_at" ["_law_script", "_law_k"] (spCell K)) (G_bn : Fn P w K mg base (CXr P w) 1 "_law_part" ["_law_cell", "_law_k"] spPart) (G_b6 : Fn P w K mg base (CXr P w) 34 "_law_drawn" ["_law_cell", "_law_scale"] spDrawn) (G_bo : Fn P w K mg base (CXr P w) 34 "_law_ways" ["_law_cell"] (spWaysL K)) :
  Fn P w K mg base (CXr P w) 35 "_law_pins" ["_law_script", "_law_names_here", "_law_scale"] (spPinsL K) := by
 refine D.ok sc_bp (fun vs H Q E h => ?_) (fun f cdv A outer s H vs Q E hr h => ?_)
 ·obtain ⟨sA, nA, ns, xs, sc, rfl, _⟩ := h
  rfl
 obtain ⟨sA, nA, ns, xs, sc, rfl, hS, hb, hn, lx, nx, c0, c9, q⟩ := h
 refine ⟨_, (pss_cons (ps_set (i := 3) sc_bp.nd rfl (Or.inl rfl) (pe_lst pa_nil))
  (pss_cons (ps_for PassesOwn.never rfl (pi_range1 rfl m_range (pac (pe_op op_modB (pe_fn G_ag hr.mo pX (pac (pv 0) (pac pe_int pa_nil))) pe_int) pa_nil)) (pg_name (i := 4) sc_bp.nd rfl (Or.inl rfl)) (pss_cons (ps_set (i := 5) sc_bp.nd rfl (Or.inl rfl) (pe_op op_add (pe_fn G_ag hr.mo pX (pac (pv 0) (pac (pe_op op_add pe_int (pv 4)) pa_nil))) (pe_op op_mulB (pe_op op_mulB pe_int (pv 4)) (pv 4))))
   (pss_cons (ps_set (i := 6) sc_bp.nd rfl (Or.inl rfl) (pe_tup (pac (pe_fn G_b6 hr.mo pX (pac (pv 5) (pac (pv 2) pa_nil))) (pac (pe_fn G_b6 hr.mo pX (pac (pe_fn G_bn hr.mo pX (pac (pv 5) (pac pe_int pa_nil))) (pac (pv 2) pa_nil))) pa_nil))))
   (pss_one (ps_if (pt_cmpR (op_notInPt hr.units) (pv 6) (pe_comp (tn := ["_law_pin"]) (fr := []) (caps := []) rfl ⟨rfl, by decide +kernel, rfl, by decide +kernel, by decide +kernel, rfl, trivial, trivial⟩ (pi_list (pv 3)) (fun _ _ _ _ => (pg_name (i := 0) (show (["_law_pin"] : List Str).Nodup from by decide +kernel) rfl (Or.inl rfl))) (fun _ _ _ _ => pf_nil) (fun _ _ _ _ => (pe_ix (ix_tupK (K := K) rfl) (pv 0) pe_int (fun _ _ => rfl)))) rfl) (pss_one (ps_expr (pe_bm PySem.F.plainAttrs_list PySem.F.slot_list_append PySem.F.type_list_append mt_append (pv 3) (pac (pe_tup (pac (pe_ix ix_list (pv 1) (pv 4) (fun _ _ => rfl)) (pac (pv 6) (pac (pe_fn G_bo hr.mo pX (pac (pe_fn G_bn hr.mo pX (pac (pv 5) (pac pe_int pa_nil))) pa_nil)) pa_nil)))) pa_nil)))) pss_nil)))))
  (pss_one (ps_ret (pv 3))))), ?_⟩
 refine ⟨(by show 0 ≤ sizeLine; decide), ?_⟩
 intro lp np; generalize eX : upd _ lp _ = H0; have ⟨sp, ep⟩ := nw np eX; clear eX
 refine ⟨_, rfl, sA, ns, 1, rfl, sp.seq hS, hb, by decide, by decide, fun c1 b1 => ⟨_, _, rfl, rfl, nz (by decide), ?_⟩⟩
 have m7 := fmod_in (x := c1) (m := 7) (by decide)
 obtain ⟨N, eN⟩ : ∃ N : Nat, c1.fmod 7 = (N : Int) := ⟨(c1.fmod 7).toNat, by omega⟩
 refine ⟨(N : Int), (by show [V.int (c1.fmod 7)] = [V.int (N : Int)]; rw [eN]), by omega, by omega, for_range (lo := 0) (n := N) (fun i σ H' => ∃ (o4 o5 o6 : Option V) (us : List V) (pins : List PinD), σ = [some (.ref sA), some (.ref nA), some (.int sc), some (.ref lp), o4, o5, o6] ∧ Same H H' ∧ H' lp = some (.lst us) ∧ Paired (PinX K H' lp) us pins ∧ GoodP pins ∧ (∀ p ∈ pins, p.nm ∈ xs.take i) ∧ pins.length ≤ i) ⟨none, none, none, [], [], rfl, sp, ep, .nil, ⟨by simp, by simp, by simp, by simp⟩, by simp, Nat.zero_le _⟩ ?_ ?_⟩
 ·rintro i σ H1 hi ⟨o4, o5, o6, us, pins, rfl, s1, e1, pp, gp, nm, lp6⟩
  have ei : (0 : Int) + (i : Int) = (i : Int) := Int.zero_add _
  rw [ei]
  have i6 : i < 6 := by omega
  obtain ⟨mm1, mm2⟩ := mul_small (m := 31) (k := i) (by decide) (by omega)
  refine ⟨_, rfl, _, rfl, _, _, rfl, rfl, sA, ns, _, rfl, s1.seq hS, hb, by omega, by omega, fun c2 b2 => ?_⟩
  refine ⟨_, rfl, _, _, rfl, rfl, mm1, _, rfl, _, _, rfl, rfl, mm2, _, _, rfl, rfl, ?_⟩
  have bc := bits_cell (m := 31) (k := i) b2 (by omega) (by decide)
  refine ⟨_, rfl, _, rfl, _, _, rfl, bc, c0, c9, fun r1 z1 p1 H2 s2 e2 => ?_⟩
  refine ⟨_, rfl, _, _, rfl, bc, by decide, by decide, fun c3 H3 h30 h31 s3 => ?_⟩
  have b3 : intBits c3 ≤ 2000000 := Nat.le_trans (intBits_le_64 (by omega) (by omega)) (by decide)
  refine ⟨_, rfl, _, _, rfl, b3, c0, c9, fun r2 z2 p2 H4 s4 e4 => ⟨(by show 2 ≤ sizeLine; decide), ?_⟩⟩
  intro p3 n3; generalize eX : upd _ p3 _ = H5; have ⟨s5, e5⟩ := nw n3 eX; clear eX
  have hs : PtR K H5 (.ref p3) (r1, r2) := pt_of e5 ((((nm_of e2).same s3).same s4).same s5) ((nm_of e4).same s5)
  have s15 := sm_tr (sm_tr s2 s3) (sm_tr s4 s5)
  have e15 := s15 _ _ e1
  have pp5 : Paired (PinX K H5 lp) us pins := Paired.mapP pp fun _ _ z => z.same s15
  have lu : us.length = pins.length := Paired.length pp
  refine ⟨_, rfl, _, rfl, lp, rfl, ⟨_, SqL.of e15⟩, fun D1 n1 => ?_⟩
  refine comp_list (cap := []) (K := K) (a := lp) (xs := us) (fun i v H => ∃ p, pins[i]? = some p ∧ PtR K H v p.sp) n1 (by rw [lu]; exact Nat.lt_of_le_of_lt (show pins.length ≤ 1000 by omega) (by decide)) (fun H2 s2 => SqL.of (s2 _ _ e15)) (fun _ _ _ _ _ h0 ks h => by
    obtain ⟨p, h1, h2⟩ := h
    refine ⟨p, h1, h2.sameT fun b xs r => ?_⟩
    rcases r with r | ⟨o', r⟩
    ·exact .inl (ks _ _ (fun e => by rw [e, h0] at r; cases r) r)
    ·exact .inr ⟨o', ks _ _ (fun e => by rw [e, h0] at r; cases r) r⟩) ?_ ?_
  ·intro j u H6 R hu s6 k
   obtain ⟨p, ep', hp⟩ := paired_get pp5 hu
   obtain ⟨a, l, sv, us', rfl, h1, h2, _⟩ := hp
   exact ⟨_, rfl, a, _, _, _, rfl, rfl, Ty.Same.seqT s6 h1, rfl, k _ _ (Same.refl _) ⟨p, ep', h2.same s6⟩⟩
  ·intro ys H6 hy hrel s6 hD
   have pq : PtsR K H6 ys (pins.map (·.sp)) := paired_of (by rw [List.length_map, hy, lu]) fun j u q' e1' e2' => by
    obtain ⟨p, h1, h2⟩ := hrel j u e1'
    rw [List.getElem?_map, h1] at e2'
    cases e2'
    exact h2
   refine ⟨(r1, r2), D1, ys, _, rfl, SqL.of hD, hs.same s6, pq, _, rfl, ?_⟩
   have s16 := sm_tr s15 s6
   have e16 := s16 _ _ e1
   have pp6 : Paired (PinX K H6 lp) us pins := Paired.mapP pp fun _ _ z => z.same s16
   refine ite2 (fun cc => ?_) (fun _ => ?_)
   ·have fresh : (r1, r2) ∉ pins.map (·.sp) := by simpa using cc
    obtain ⟨x, hx⟩ : ∃ x, xs[i]? = some x := ⟨_, gE (by omega)⟩
    have s06 := sm_tr s1 s16
    refine ⟨_, rfl, .inl ⟨rfl, _, SqL.of e16⟩, _, rfl, _, rfl, nA, _, _, _, rfl, rfl, SqL.of (s06 _ _ hn), atI_nat (by rw [List.getElem?_map, hx]; rfl), _, rfl, _, rfl, _, _, rfl, bc, by decide, by decide, fun c7 H7 h70 h71 s7 => ?_⟩
    refine ⟨_, rfl, fun l8 us8 ws H8 wk s8 n8 e8 p8 => ⟨(by show 3 ≤ sizeLine; decide), ?_⟩⟩
    intro p9 n9; generalize eX : upd _ p9 _ = H9; have ⟨s9, e9⟩ := nw n9 eX; clear eX
    have s19 := sm_tr (sm_tr s7 s8) s9
    have e19 := s19 _ _ e16
    have pp9 : Paired (PinX K H9 lp) us pins := Paired.mapP pp6 fun _ _ z => z.same s19
    refine ⟨lp, _, _, rfl, rfl, e19, (by rw [lu]; exact Nat.lt_of_le_of_lt (show pins.length ≤ 1000 by omega) (by decide)), ?_⟩
    have xt : x ∉ xs.take i := fun z => by
     have := take_new (nm := id) (by rw [List.map_id]; exact nx) hx z
     exact this rfl
    have hsp : PinX K H9 lp (.ref p9) ⟨x, (r1, r2), ws⟩ := ⟨p9, l8, .ref p3, us8, rfl, SqT.of e9, (hs.same s6).same s19, s9 _ _ e8, p8.same s9, fun z => by
     have := s7 _ _ e16
     rw [← z, n8] at this
     cases this⟩
    refine ⟨_, _, _, _, pins ++ [⟨x, (r1, r2), ws⟩], rfl, fun b o z => ?_, upd_same, paired_snoc (Paired.mapP pp9 fun _ _ z => z.upd e19) (hsp.upd e19), gp.snoc (fun z => ?_) fresh ⟨z1, z2⟩ wk, fun p hp => ?_, by simp; omega⟩
    ·rw [upd_ne (ne_of_none z np)]
     exact s19 _ _ (s06 _ _ z)
    ·obtain ⟨p, hp, ep'⟩ := List.mem_map.mp z
     exact xt ((show p.nm = x from ep') ▸ nm p hp)
    ·rw [take_snoc hx]
     rcases List.mem_append.mp hp with z | z
     ·exact List.mem_append_left _ (nm p z)
     ·rw [List.mem_singleton.mp z]
      simp
   ·refine ⟨_, _, _, us, pins, rfl, sm_tr s1 s16, e16, pp6, gp, fun p hp => ?_, by omega⟩
    exact List.mem_of_mem_take (i := i) (by
     rw [List.take_take, Nat.min_eq_left (by omega)]
     exact nm p hp)
 ·rintro σ H1 ⟨o4, o5, o6, us, pins, rfl, s1, e1, pp, gp, nm, lp6⟩
  exact ⟨_, rfl, q lp us pins H1 s1 np e1 (Paired.mapP pp fun _ _ z => z.r) gp (by omega) fun p hp => List.mem_of_mem_take (nm p hp)⟩
theorem ends_ne {c n r : Int} (hn : 2 ≤ n) (h0 : 0 ≤ r) (h1 : r < n - 1) : (c.fmod n + 1 + r).fmod n ≠ c.fmod n := by
 have m := fmod_in (x := c) (m := n) (by omega)
 generalize c.fmod n = o at m ⊢
 rw [Int.fmod_eq_emod_of_nonneg _ (by omega)]
 by_cases h : o + 1 + r < n
 ·rw [Int.emod_eq_of_lt (by omega) h]
  omega
 ·have e : o + 1 + r = (o + 1 + r - n) + n := by omega
  rw [e, Int.add_emod_right, Int.emod_eq_of_lt (by omega) (by omega)]
  omega
theorem GoodB.snoc {pins : List PinD} {bars : List BarD} {b : BarD} (g : GoodB pins bars) (h1 : b.nm ∉ bars.map (·.nm)) (h2 : b.one ∈ pins ∧ b.other ∈ pins ∧ b.one.nm ≠ b.other.nm) : GoodB pins (bars ++ [b]) := by
 refine ⟨?_, fun q hq => ?_⟩
 ·rw [List.map_append, List.nodup_append]
  refine ⟨g.nb, by simp, fun a ha c hc e => h1 ?_⟩
  have : c = b.nm := by simpa using hc
  rw [← this, ← e]
  exact ha
 ·rcases List.mem_append.mp hq with z | z
  ·exact g.ends q z
  ·rw [List.mem_singleton.mp z]
   exact h2
theorem names_new {pins : List PinD} (np : (pins.map (·.nm)).Nodup) {i j : Nat} {p q : PinD} (hi : pins[i]? = some p) (hj : pins[j]? = some q) (n : i ≠ j) : p.nm ≠ q.nm := fun e => by
 have il := (List.getElem?_eq_some_iff.mp hi).1
 have q1 : (pins.map (·.nm))[i]? = some p.nm := by rw [List.getElem?_map, hi]; rfl
 have q2 : (pins.map (·.nm))[j]? = some p.nm := by rw [List.getElem?_map, hj, e]; rfl
 exact n ((List.getElem?_inj (by rw [List.length_map]; exact il) np).mp (q1.trans q2.symm))
def spBarsL (K : Frag) : Sp := fun vs H Q _ => ∃ (sA nA pA : Addr) (ns : List Int) (xs : List Str) (us : List V) (pins : List PinD), vs = [.ref sA, .ref nA, .ref pA] ∧ SqL K H sA (ns.map V.int) ∧ (∀ i ∈ ns, intBits i ≤ 1048576) ∧ H nA = some (.lst (xs.map V.str)) ∧ xs.length = 9 ∧ xs.Nodup ∧ H pA = some (.lst us) ∧ Paired (PinR K H) us pins ∧ (pins.map (·.nm)).Nodup ∧ pins.length ≤ 6 ∧
 ∀ (l : Addr) (vs : List V) (bars : List BarD) (H' : Hp), Same H H' → H l = none → H' l = some (.lst vs) → Paired (BarR K H') vs bars → GoodB pins bars → bars.length ≤ 8 → (∀ b ∈ bars, b.nm ∈ xs) → Q (.ref l) H'
theorem sc_bq : FnScope ["_law_script", "_law_names_here", "_law_pins_here", "_law_bars_here", "_law_k", "_law_cell", "_law_one", "_law_other"] ["_law_script", "_law_names_here", "_law_pins_here"] (defScope s_bq) := sq
theorem ok_bq (D : Def K mg "_law_bars" s_bq ["_law_script", "_law_names_here", "_law_pins_here"]) (m_range : mg "range" = none) (m_len : mg "len" = none) (G_ag : Fn P w K mg base (CXr P w) 1 "_law_cell_at" ["_law_script", "_law_k"] (spCell K)) :
  Fn P w K mg base (CXr P w) 2 "_law_bars" ["_law_script", "_law_names_here", "_law_pins_here"] (spBarsL K) := by
 refine D.ok sc_bq (fun vs H Q E h => ?_) (fun f cdv A outer s H vs Q E hr h => ?_)
 ·obtain ⟨sA, nA, pA, ns, xs, us, pins, rfl, _⟩ := h
  rfl
 obtain ⟨sA, nA, pA, ns, xs, us, pins, rfl, hS, hb, hn, lx, nx, hp, pp, np, lp6, q⟩ := h
 have lu : us.length = pins.length := Paired.length pp
 refine ⟨_, (pss_cons (ps_set (i := 3) sc_bq.nd rfl (Or.inl rfl) (pe_lst pa_nil))
  (pss_cons (ps_if (pt_cmpR op_lt (pe_callB call_len_seq rfl m_len b_len (pac (pv 2) pa_nil)) pe_int (nomark _)) (pss_one (ps_ret (pv 3))) pss_nil)
  (pss_cons (ps_for PassesOwn.never rfl (pi_range1 rfl m_range (pac (pe_op op_modB (pe_fn G_ag hr.mo pX (pac (pv 0) (pac pe_int pa_nil))) pe_int) pa_nil)) (pg_name (i := 4) sc_bq.nd rfl (Or.inl rfl)) (pss_cons (ps_set (i := 5) sc_bq.nd rfl (Or.inl rfl) (pe_op op_add (pe_fn G_ag hr.mo pX (pac (pv 0) (pac (pe_op op_add pe_int (pv 4)) pa_nil))) (pe_op op_mulB (pe_op op_mulB pe_int (pv 4)) (pv 4))))
   (pss_cons (ps_set (i := 6) sc_bq.nd rfl (Or.inl rfl) (pe_op op_modB (pv 5) (pe_callB call_len_seq rfl m_len b_len (pac (pv 2) pa_nil))))
   (pss_cons (ps_set (i := 7) sc_bq.nd rfl (Or.inl rfl) (pe_op op_modB (pe_op op_add (pe_op op_add (pv 6) pe_int) (pe_op op_modB (pe_op op_fdivB (pv 5) (pe_callB call_len_seq rfl m_len b_len (pac (pv 2) pa_nil))) (pe_op op_sub (pe_callB call_len_seq rfl m_len b_len (pac (pv 2) pa_nil)) pe_int))) (pe_callB call_len_seq rfl m_len b_len (pac (pv 2) pa_nil))))
   (pss_one (ps_expr (pe_bm PySem.F.plainAttrs_list PySem.F.slot_list_append PySem.F.type_list_append mt_append (pv 3) (pac (pe_tup (pac (pe_ix ix_list (pv 1) (pv 4) (fun _ _ => rfl)) (pac (pe_ix ix_list (pv 2) (pv 6) (fun _ _ => rfl)) (pac (pe_ix ix_list (pv 2) (pv 7) (fun _ _ => rfl)) pa_nil)))) pa_nil))))))))
  (pss_one (ps_ret (pv 3)))))), ?_⟩
 refine ⟨(by show 0 ≤ sizeLine; decide), ?_⟩
 intro lb nb; generalize eX : upd _ lb _ = H0; have ⟨sb, eb⟩ := nw nb eX; clear eX
 refine ⟨_, rfl, pA, _, rfl, .inl (SqL.of (sb _ _ hp)), _, _, rfl, rfl, _, rfl, ?_⟩
 refine ite2 (fun cc => ?_) (fun cc => ?_)
 ·exact ⟨_, rfl, q lb [] [] H0 sb nb eb .nil ⟨by simp, by simp⟩ (by simp) (by simp)⟩
 have n2 : 2 ≤ pins.length := by
  have : ¬ ((us.length : Nat) : Int) < 2 := of_decide_eq_false (Bool.eq_false_iff.mpr cc)
  omega
 refine ⟨_, rfl, sA, ns, 8, rfl, sb.seq hS, hb, by decide, by decide, fun c1 b1 => ⟨_, _, rfl, rfl, nz (by decide), ?_⟩⟩
 have m9 := fmod_in (x := c1) (m := 9) (by decide)
 obtain ⟨N, eN⟩ : ∃ N : Nat, c1.fmod 9 = (N : Int) := ⟨(c1.fmod 9).toNat, by omega⟩
 refine ⟨(N : Int), (by show [V.int (c1.fmod 9)] = [V.int (N : Int)]; rw [eN]), by omega, by omega, for_range (lo := 0) (n := N) (fun i σ H' => ∃ (o4 o5 o6 o7 : Option V) (vs : List V) (bars : List BarD), σ = [some (.ref sA), some (.ref nA), some (.ref pA), some (.ref lb), o4, o5, o6, o7] ∧ Same H H' ∧ H' lb = some (.lst vs) ∧ Paired (fun v b => ∃ (a : Addr) (u1 u2 : V), v = .ref a ∧ SqT K H' a [.str b.nm, u1, u2] ∧ PinR K H u1 b.one ∧ PinR K H u2 b.other) vs bars ∧ GoodB pins bars ∧ (∀ b ∈ bars, b.nm ∈ xs.take i) ∧ bars.length = i) ⟨none, none, none, none, [], [], rfl, sb, eb, .nil, ⟨by simp, by simp⟩, by simp, rfl⟩ ?_ ?_⟩
 ·rintro i σ H1 hi ⟨o4, o5, o6, o7, vs, bars, rfl, s1, e1, pb, gb, nm, lb8⟩
  have ei : (0 : Int) + (i : Int) = (i : Int) := Int.zero_add _
  rw [ei]
  have i8 : i < 8 := by omega
  obtain ⟨mm1, mm2⟩ := mul_small (m := 37) (k := i) (by decide) (by omega)
  refine ⟨_, rfl, _, rfl, _, _, rfl, rfl, sA, ns, _, rfl, s1.seq hS, hb, by omega, by omega, fun c2 b2 => ?_⟩
  refine ⟨_, rfl, _, _, rfl, rfl, mm1, _, rfl, _, _, rfl, rfl, mm2, _, _, rfl, rfl, ?_⟩
  have hp1 := SqL.of (K := K) (s1 _ _ hp)
  have ln : ((us.length : Nat) : Int) = (pins.length : Int) := by rw [lu]
  have m1 := fmod_in (x := c2 + 37 * (i : Int) * (i : Int)) (m := (us.length : Int)) (by omega)
  refine ⟨_, rfl, _, rfl, pA, _, rfl, .inl hp1, _, _, rfl, rfl, nz (by omega), ?_⟩
  have m2 := fmod_in (x := (c2 + 37 * (i : Int) * (i : Int)).fdiv (us.length : Int)) (m := (us.length : Int) - 1) (by omega)
  have dn : CDivB (c2 + 37 * (i : Int) * (i : Int)) (us.length : Int) := ⟨by omega, Nat.le_trans (intBits_le_64 (by omega) (by omega)) (by decide)⟩
  refine ⟨_, rfl, _, _, rfl, rfl, _, rfl, _, rfl, pA, _, rfl, .inl hp1, _, _, rfl, rfl, dn, _, rfl, pA, _, rfl, .inl hp1, _, _, rfl, rfl, _, _, rfl, rfl, nz (by omega), _, _, rfl, rfl, _, rfl, pA, _, rfl, .inl hp1, _, _, rfl, rfl, nz (by omega), ?_⟩
  have en := ends_ne (c := c2 + 37 * (i : Int) * (i : Int)) (n := (us.length : Int)) (by omega) m2.1 m2.2
  have m3 := fmod_in (x := (c2 + 37 * (i : Int) * (i : Int)).fmod (us.length : Int) + 1 + ((c2 + 37 * (i : Int) * (i : Int)).fdiv (us.length : Int)).fmod ((us.length : Int) - 1)) (m := (us.length : Int)) (by omega)
  obtain ⟨j1, ej1⟩ : ∃ n : Nat, (c2 + 37 * (i : Int) * (i : Int)).fmod (us.length : Int) = (n : Int) := ⟨_, (Int.toNat_of_nonneg m1.1).symm⟩
  obtain ⟨j2, ej2⟩ : ∃ n : Nat, ((c2 + 37 * (i : Int) * (i : Int)).fmod (us.length : Int) + 1 + ((c2 + 37 * (i : Int) * (i : Int)).fdiv (us.length : Int)).fmod ((us.length : Int) - 1)).fmod (us.length : Int) = (n : Int) := ⟨_, (Int.toNat_of_nonneg m3.1).symm⟩
  rw [ej2] at m3
  rw [ej2, ej1] at en
  rw [ej1] at m1
  have l1 : j1 < us.length := by omega
  have l2 : j2 < us.length := by omega
  obtain ⟨q1, eq1, hq1⟩ := paired_get pp (gE l1)
  obtain ⟨q2, eq2, hq2⟩ := paired_get pp (gE l2)
  obtain ⟨x, hx⟩ : ∃ x, xs[i]? = some x := ⟨_, gE (by omega)⟩
  have lv : vs.length = bars.length := Paired.length pb
  refine ⟨_, rfl, .inl ⟨rfl, _, SqL.of e1⟩, _, rfl, _, rfl, nA, _, _, _, rfl, rfl, SqL.of (s1 _ _ hn), atI_nat (by rw [List.getElem?_map, hx]; rfl), ?_⟩
  refine ⟨_, rfl, _, rfl, pA, _, _, us[j1], rfl, rfl, hp1, (by rw [ej1]; exact atI_nat (gE l1)), ?_⟩
  refine ⟨_, rfl, _, rfl, pA, _, _, us[j2], rfl, rfl, hp1, (by rw [ej2]; exact atI_nat (gE l2)), (by show 3 ≤ sizeLine; decide), ?_⟩
  intro p9 n9; generalize eX : upd _ p9 _ = H9; have ⟨s9, e9⟩ := nw n9 eX; clear eX
  have e19 := s9 _ _ e1
  refine ⟨lb, _, _, rfl, rfl, e19, (by rw [lv]; exact Nat.lt_of_le_of_lt (show bars.length ≤ 1000 by omega) (by decide)), ?_⟩
  have xt : x ∉ xs.take i := fun z => by
   have := take_new (nm := id) (by rw [List.map_id]; exact nx) hx z
   exact this rfl
  have t9 : SameT H9 (upd H9 lb (.lst (vs ++ [.ref p9]))) := .list e19
  refine ⟨_, _, _, _, _, bars ++ [⟨x, q1, q2⟩], rfl, fun b o z => ?_, upd_same, paired_snoc (Paired.mapP pb fun v b z => ?_) ⟨p9, _, _, rfl, t9.seqT (SqT.of e9), hq1, hq2⟩, gb.snoc (fun z => ?_) ⟨List.mem_of_getElem? eq1, List.mem_of_getElem? eq2, names_new np eq1 eq2 (fun z => en (by rw [z]))⟩, fun p hp => ?_, by simp; omega⟩
  ·rw [upd_ne (ne_of_none z nb)]
   exact s9 _ _ (s1 _ _ z)
  ·obtain ⟨a, u1, u2, ea, h1, h2, h3⟩ := z
   exact ⟨a, u1, u2, ea, t9.seqT (Ty.Same.seqT s9 h1), h2, h3⟩
  ·obtain ⟨p, hp, ep'⟩ := List.mem_map.mp z
   exact xt ((show p.nm = x from ep') ▸ nm p hp)
  ·rw [take_snoc hx]
   rcases List.mem_append.mp hp with z | z
   ·exact List.mem_append_left _ (nm p z)
   ·rw [List.mem_singleton.mp z]
    simp
 ·rintro σ H1 ⟨o4, o5, o6, o7, vs, bars, rfl, s1, e1, pb, gb, nm, lb8⟩
  refine ⟨_, rfl, q lb vs bars H1 s1 nb e1 (Paired.mapP pb fun v b z => ?_) gb (by omega) fun b hb => List.mem_of_mem_take (nm b hb)⟩
  obtain ⟨a, u1, u2, ea, h1, h2, h3⟩ := z
  exact ⟨a, u1, u2, ea, h1, h2.same s1, h3.same s1⟩
theorem no_ways (v : V) : List.lookup ("ways" : Str) [(("way" : Str), v)] = none := by
 have h : (("ways" : Str) == "way") = false := by decide +kernel
 simp [List.lookup, h]
theorem goodF {pins : List PinD} {bars : List BarD} (g : GoodP pins) (b : GoodB pins bars) (lp : pins.length ≤ 6) (lb : bars.length ≤ 8) : GoodF pins bars :=
 ⟨g.np, b.nb, b.ends, fun p hp => ⟨(g.sz p hp).1.up (by decide), (g.sz p hp).2.up (by decide), (g.ws p hp).sz⟩, lp, lb, fun p hp => (g.ws p hp).len⟩
def spFrameL (K : Frag) (C : Addr) : Sp := fun vs H Q _ => ∃ (pA bA : Addr) (us vs' : List V) (pins : List PinD) (bars : List BarD), vs = [.ref pA, .ref bA] ∧ H pA = some (.lst us) ∧ Paired (PinR K H) us pins ∧ H bA = some (.lst vs') ∧ Paired (BarR K H) vs' bars ∧ GoodP pins ∧ GoodB pins bars ∧ pins.length ≤ 6 ∧ bars.length ≤ 8 ∧
 ∀ (a : Addr) (H' : Hp), Same H H' → FrA K H' C a pins bars → Q (.ref a) H'
theorem sc_b8 : FnScope ["_law_pins_here", "_law_bars_here", "_law_frame_here", "_law_name", "_law_spot", "_law_ways_here", "_law_hold", "_law_one", "_law_other"] ["_law_pins_here", "_law_bars_here"] (defScope s_b8) := sq
theorem ok_b8 {C CH CR CF fI fR : Addr} {fdI fdR : FuncData} (D : Def K mg "_law_frame" s_b8 ["_law_pins_here", "_law_bars_here"]) (m_len : mg "len" = none) (M_ch : Mk K C fI) (m_ch : mg "Frame" = some (.ref C)) (G_aw : FnOk P w K mg base (CXr P w) 1 fI fdI ["self"] (spFInit K C)) (b_aw : Binds K fdI ["self"] [])
  (m_ck : mg "Hold" = some (.ref CH)) (m_ca : mg "Roller" = some (.ref CR)) (m_ci : mg "Fixed" = some (.ref CF)) (M_ck : Mk0 K CH) (M_ci : Mk0 K CF) (M_ca : Mk K CR fR) (G_aj : FnOk P w K mg base (CXr P w) 1 fR fdR ["self", "x", "y"] (spRInit K CR)) (b_aj : Binds K fdR ["self", "x", "y"] [])
  (wH : MtdOk P w K mg base (CXr P w) 2 CH "ways" ["self"] (spHold K)) (wR : MtdOk P w K mg base (CXr P w) 2 CR "ways" ["self"] (spRWays K CR)) (wF : MtdOk P w K mg base (CXr P w) 2 CF "ways" ["self"] (spFixed K))
  (MPp : MtdOk P w K mg base (CXr P w) 3 C "put_pin" ["self", "name", "x", "y", "hold"] (spPutPinW P w K mg base C)) (MPb : MtdOk P w K mg base (CXr P w) 3 C "put_bar" ["self", "name", "one", "other"] (spPutBar K C)) :
  Fn P w K mg base (CXr P w) 4 "_law_frame" ["_law_pins_here", "_law_bars_here"] (spFrameL K C) := by
 refine D.ok sc_b8 (fun vs H Q E h => ?_) (fun f cdv A outer s H vs Q E hr h => ?_)
 ·obtain ⟨pA, bA, us, vs', pins, bars, rfl, _⟩ := h
  rfl
 obtain ⟨pA, bA, us, vs', pins, bars, rfl, hp, pp, hb, pb, gp, gb, lp6, lb8, q⟩ := h
 have lu : us.length = pins.length := Paired.length pp
 have lv : vs'.length = bars.length := Paired.length pb
 refine ⟨_, (pss_cons (ps_set (i := 2) sc_b8.nd rfl (Or.inl rfl) (pe_make0 M_ch G_aw hr.mo rfl m_ch b_aw .nil (pY P w)))
  (pss_cons (ps_for PassesOwn.never rfl (pi_list (pv 0)) (pg_tup rfl (pgs_cons (pg_name (i := 3) sc_b8.nd rfl (Or.inl rfl)) (pgs_cons (pg_name (i := 4) sc_b8.nd rfl (Or.inl rfl)) (pgs_cons (pg_name (i := 5) sc_b8.nd rfl (Or.inl rfl)) pgs_nil)))) (pss_cons (ps_set (i := 6) sc_b8.nd rfl (Or.inl rfl) (pe_mk0 M_ck rfl m_ck))
   (pss_cons (ps_if (pt_cmpR op_eq (pe_callB call_len_seq rfl m_len b_len (pac (pv 5) pa_nil)) pe_int (nomark _)) (pss_one (ps_set (i := 6) sc_b8.nd rfl (Or.inl rfl) (pe_make M_ca G_aj hr.mo rfl m_ca b_aj .nil (pY P w) (pac (pe_tx (pe_lx (pv 5))) (pac (pe_tx (pe_lx (pv 5))) pa_nil))))) pss_nil)
   (pss_cons (ps_if (pt_cmpR op_eq (pe_callB call_len_seq rfl m_len b_len (pac (pv 5) pa_nil)) pe_int (nomark _)) (pss_one (ps_set (i := 6) sc_b8.nd rfl (Or.inl rfl) (pe_mk0 M_ci rfl m_ci))) pss_nil)
   (pss_one (ps_expr (pe_mtd (k := 3) (pv 2) hr.mo (pY P w) (pac (pv 3) (pac (pe_tx (pv 4)) (pac (pe_tx (pv 4)) (pac (pv 6) pa_nil)))))))))))
  (pss_cons (ps_for PassesOwn.never rfl (pi_list (pv 1)) (pg_tup rfl (pgs_cons (pg_name (i := 3) sc_b8.nd rfl (Or.inl rfl)) (pgs_cons (pg_name (i := 7) sc_b8.nd rfl (Or.inl rfl)) (pgs_cons (pg_name (i := 8) sc_b8.nd rfl (Or.inl rfl)) pgs_nil)))) (pss_one (ps_expr (pe_mtd (k := 3) (pv 2) hr.mo (pY P w) (pac (pv 3) (pac (pe_tx (pv 7)) (pac (pe_tx (pv 8)) pa_nil)))))))
  (pss_one (ps_ret (pv 2)))))), ?_⟩
 intro a dx na ndx nad
 have sF : Same H (upd (upd H dx (.own a)) a (.ins C dx [])) := fun b o e => by rw [upd_ne (ne_of_none e na), upd_ne (ne_of_none e ndx)]; exact e
 refine ⟨a, dx, rfl, upd_same, fun pP pW pB H1 k1 nP nW nB R1 => ⟨rfl, ?_⟩⟩
 have s1 : Same H H1 := fun b o e => k1 b o (ne_of_none e na) (sF _ _ e)
 have nP := none_back sF nP
 have nW := none_back sF nW
 have nB := none_back sF nB
 refine ⟨_, rfl, pA, rfl, ⟨_, SqL.of (s1 _ _ hp)⟩, for_list (K := K) (a := pA) (xs := us) (fun i σ H' => ∃ (o3 o4 o5 o6 : Option V) (kP kW : List (Key × V)), σ = [some (.ref pA), some (.ref bA), some (.ref a), o3, o4, o5, o6, none, none] ∧ Same H H' ∧ FrR K H' C a dx pP pW pB ((pins.take i).map fun p => (p.nm, ptQ p.sp)) [] kP kW [] ∧ WyR K H' ((pins.take i).map fun p => (p.nm, p.ws)) kW) ⟨none, none, none, none, [], [], rfl, s1, R1, .nil⟩ (fun i σ H' _ h => by
   obtain ⟨_, _, _, _, _, _, _, s, _⟩ := h
   exact SqL.of (s _ _ hp)) ?_ ?_⟩
 ·rintro i u σ H2 hu ⟨o3, o4, o5, o6, kP, kW, rfl, s2, R2, W2⟩
  obtain ⟨p, ep, hpr⟩ := paired_get pp hu
  have mp : p ∈ pins := List.mem_of_getElem? ep
  obtain ⟨ta, l, sv, ws, rfl, h1, h2, h3, h4⟩ := hpr.same s2
  obtain ⟨sa, x1, y1, rfl, hsq, hn1, hn2⟩ := h2
  refine ⟨ta, _, rfl, h1, rfl, _, _, rfl, _, _, rfl, _, _, rfl, rfl, ?_⟩
  have tk := take_snoc ep
  have il : i < pins.length := (List.getElem?_eq_some_iff.mp ep).1
  have fin : ∀ (h Ch dxh : Addr) (fsh : List (Str × V)) (psh : List Str) (sph : Sp) (H5 : Hp) (Q5 : VK) (E5 : XK), Same H2 H5 → H5 h = some (.ins Ch dxh fsh) → fsh.lookup ("ways" : Str) = none → MtdOk P w K mg base (CXr P w) 2 Ch "ways" psh sph → (∀ H1, H1 h = some (.ins Ch dxh fsh) → SameT H5 H1 → ∀ Q', AnsR K H1 Q' p.ws → sph [.ref h] H1 Q' E0) →
    (∀ H' kP' kW', Same H H' → FrR K H' C a dx pP pW pB ((pins.take (i + 1)).map fun p => (p.nm, ptQ p.sp)) [] kP' kW' [] → WyR K H' ((pins.take (i + 1)).map fun p => (p.nm, p.ws)) kW' → Q5 .non H') → spPutPinW P w K mg base C [.ref a, .str p.nm, x1, y1, .ref h] H5 Q5 E5 := fun h Ch dxh fsh psh sph H5 Q5 E5 s5 eh hlk MH hsp fin => by
   refine ⟨a, dx, pP, pW, pB, _, _, kP, kW, _, _, p.nm, x1, y1, .ref h, ptQ p.sp, p.ws, rfl, R2.same s5, W2.same s5, by rw [List.map_map, List.map_map]; rfl, hn1.same s5, hn2.same s5, fun z => ?_, fun z hz e => ?_, ?_, .inr ⟨h, Ch, dxh, fsh, psh, sph, rfl, eh, hlk, MH, hsp⟩, fun H' kP' kW' k' R' W' => ?_⟩
   ·rw [List.map_map] at z
    obtain ⟨p', hp', e'⟩ := List.mem_map.mp z
    exact take_new (nm := PinD.nm) gp.np ep hp' e'
   ·obtain ⟨p', hp', e'⟩ := List.mem_map.mp hz
    rw [← e'] at e
    have e1 := congrArg Prod.fst e
    have e2 := congrArg Prod.snd e
    have e3 : p'.sp = p.sp := Prod.ext (qr_inj e1) (qr_inj e2)
    obtain ⟨j, hj, ej⟩ := List.mem_iff_getElem.mp hp'
    rw [List.getElem_take] at ej
    rw [List.length_take] at hj
    have q1 : (pins.map (·.sp))[j]? = some p.sp := by rw [List.getElem?_map, gE (by omega), ej, ← e3]; rfl
    have q2 : (pins.map (·.sp))[i]? = some p.sp := by rw [List.getElem?_map, ep]; rfl
    have := (List.getElem?_inj (by rw [List.length_map]; omega) gp.ns).mp (q1.trans q2.symm)
    omega
   ·rw [List.length_map, List.length_take]
    omega
   ·refine fin H' kP' kW' (fun b o z => k' b o (ne_of_none z nP) (ne_of_none z nW) (s5 _ _ (s2 _ _ z))) ?_ ?_
    ·rw [tk, List.map_append]
     exact R'
    ·rw [tk, List.map_append]
     exact W'
  intro h0 d0 nh0 nd0 ne0
  have s3 : Same H2 (upd (upd H2 d0 (.own h0)) h0 (.ins CH d0 [])) := fun b o e => by rw [upd_ne (ne_of_none e nh0), upd_ne (ne_of_none e nd0)]; exact e
  have e3 : (upd (upd H2 d0 (.own h0)) h0 (.ins CH d0 [])) h0 = some (.ins CH d0 []) := upd_same
  generalize upd (upd H2 d0 (.own h0)) h0 (.ins CH d0 []) = H3 at s3 e3 ⊢
  have R3 := R2.same s3
  have l3 := SqL.of (K := K) (s3 _ _ h3)
  have lw : ws.length = p.ws.length := Paired.length h4
  have hsq3 := Ty.Same.seqT s3 hsq
  refine ⟨_, rfl, l, _, rfl, .inl l3, rfl, _, rfl, ?_⟩
  rcases gp.ws p mp with hw | ⟨wx, wy, hw, wn, _, _⟩ | hw
  ·rw [hw] at lw
   refine ite2 (fun c => by rw [lw] at c; simp at c) (fun _ => ?_)
   refine ⟨_, rfl, l, _, rfl, .inl l3, rfl, _, rfl, ?_⟩
   refine ite2 (fun c => by rw [lw] at c; simp at c) (fun _ => ?_)
   refine ⟨_, rfl, a, C, dx, _, _, _, rfl, R3.obj, rfl, MPp, _, rfl, _, rfl, sa, _, _, _, rfl, rfl, hsq3, at0, _, rfl, sa, _, _, _, rfl, rfl, hsq3, at1, _, rfl, ?_⟩
   dsimp only [tNil]
   refine fin h0 CH d0 [] ["self"] (spHold K) H3 _ _ s3 e3 rfl wH (fun H6 _ _ Q' an => ⟨h0, rfl, by rw [hw] at an; exact an⟩) fun H' kP' kW' s' R' W' => ?_
   exact ⟨_, _, _, _, kP', kW', rfl, s', R', W'⟩
  ·rw [hw] at lw h4
   obtain ⟨w0, rfl⟩ : ∃ w0, ws = [w0] := by
    match ws, lw with
    | [w0], _ => exact ⟨w0, rfl⟩
   have hw0 : PtR K H2 w0 (wx, wy) := by
    cases h4 with
    | cons h _ => exact h
   obtain ⟨wa, y2, y3, rfl, hsw, hm1, hm2⟩ := hw0.same s3
   refine ite2 (fun _ => ?_) (fun c => absurd rfl c)
   refine ⟨_, rfl, l, _, _, _, rfl, rfl, l3, rfl, wa, _, _, _, rfl, rfl, hsw, at0, _, rfl, l, _, _, _, rfl, rfl, l3, rfl, wa, _, _, _, rfl, rfl, hsw, at1, ?_⟩
   intro h1' d1 nh1 nd1 ne1
   have s4 : Same H3 (upd (upd H3 d1 (.own h1')) h1' (.ins CR d1 [])) := fun b o e => by rw [upd_ne (ne_of_none e nh1), upd_ne (ne_of_none e nd1)]; exact e
   have e4 : (upd (upd H3 d1 (.own h1')) h1' (.ins CR d1 [])) h1' = some (.ins CR d1 []) := upd_same
   generalize upd (upd H3 d1 (.own h1')) h1' (.ins CR d1 []) = H4 at s4 e4 ⊢
   refine ⟨h1', d1, y2, y3, wx, wy, rfl, e4, hm1.same s4, hm2.same s4, wn, fun p5 n5 => ⟨rfl, ?_⟩⟩
   have hne : p5 ≠ h1' := fun z => by rw [z, e4] at n5; cases n5
   have s5 : Same H3 (upd (upd H4 p5 (.tup [y2, y3])) h1' (.ins CR d1 [("way", .ref p5)])) := fun b o e => by
    have z : b ≠ h1' := fun z => by rw [z, nh1] at e; cases e
    rw [upd_ne z]
    exact same_new n5 _ _ _ (s4 _ _ e)
   have e5 : (upd (upd H4 p5 (.tup [y2, y3])) h1' (.ins CR d1 [("way", .ref p5)])) h1' = some (.ins CR d1 [("way", .ref p5)]) := upd_same
   have t5 : (upd (upd H4 p5 (.tup [y2, y3])) h1' (.ins CR d1 [("way", .ref p5)])) p5 = some (.tup [y2, y3]) := by rw [upd_ne hne, upd_same]
   generalize upd (upd H4 p5 (.tup [y2, y3])) h1' (.ins CR d1 [("way", .ref p5)]) = H5 at s5 e5 t5 ⊢
   have l5 := SqL.of (K := K) (s5 _ _ (s3 _ _ h3))
   have R5 := R3.same s5
   have hsq5 := Ty.Same.seqT s5 hsq3
   have hway : PtR K H5 (.ref p5) (wx, wy) := pt_of t5 (hm1.same s5) (hm2.same s5)
   refine ⟨_, rfl, l, _, rfl, .inl l5, rfl, _, rfl, ?_⟩
   refine ite2 (fun c => by simp at c) (fun _ => ?_)
   refine ⟨_, rfl, a, C, dx, _, _, _, rfl, R5.obj, rfl, MPp, _, rfl, _, rfl, sa, _, _, _, rfl, rfl, hsq5, at0, _, rfl, sa, _, _, _, rfl, rfl, hsq5, at1, _, rfl, ?_⟩
   dsimp only [tNil]
   refine fin h1' CR d1 _ ["self"] (spRWays K CR) H5 _ _ (sm_tr s3 s5) e5 (no_ways _) wR (fun H6 e6 t6 Q' an => ⟨h1', d1, p5, (wx, wy), rfl, e6, hway.sameT t6, by rw [hw] at an; exact an⟩) fun H' kP' kW' s' R' W' => ?_
   exact ⟨_, _, _, _, kP', kW', rfl, s', R', W'⟩
  ·rw [hw] at lw
   refine ite2 (fun c => by rw [lw] at c; simp at c) (fun _ => ?_)
   refine ⟨_, rfl, l, _, rfl, .inl l3, rfl, _, rfl, ?_⟩
   refine ite2 (fun _ => ?_) (fun c => by rw [lw] at c; simp at c)
   intro h1' d1 nh1 nd1 ne1
   have s4 : Same H3 (upd (upd H3 d1 (.own h1')) h1' (.ins CF d1 [])) := fun b o e => by rw [upd_ne (ne_of_none e nh1), upd_ne (ne_of_none e nd1)]; exact e
   have e4 : (upd (upd H3 d1 (.own h1')) h1' (.ins CF d1 [])) h1' = some (.ins CF d1 []) := upd_same
   generalize upd (upd H3 d1 (.own h1')) h1' (.ins CF d1 []) = H4 at s4 e4 ⊢
   have R4 := R3.same s4
   have hsq4 := Ty.Same.seqT s4 hsq3
   refine ⟨_, rfl, a, C, dx, _, _, _, rfl, R4.obj, rfl, MPp, _, rfl, _, rfl, sa, _, _, _, rfl, rfl, hsq4, at0, _, rfl, sa, _, _, _, rfl, rfl, hsq4, at1, _, rfl, ?_⟩
   dsimp only [tNil]
   refine fin h1' CF d1 [] ["self"] (spFixed K) H4 _ _ (sm_tr s3 s4) e4 rfl wF (fun H6 _ _ Q' an => ⟨h1', rfl, by rw [hw] at an; exact an⟩) fun H' kP' kW' s' R' W' => ?_
   exact ⟨_, _, _, _, kP', kW', rfl, s', R', W'⟩
 ·rintro σ H2 ⟨o3, o4, o5, o6, kP, kW, rfl, s2, R2, W2⟩
  rw [lu, List.take_length] at R2 W2
  refine ⟨_, rfl, bA, rfl, ⟨_, SqL.of (s2 _ _ hb)⟩, for_list (K := K) (a := bA) (xs := vs') (fun i σ H' => ∃ (o3 o7 o8 : Option V) (kB : List (Key × V)), σ = [some (.ref pA), some (.ref bA), some (.ref a), o3, o4, o5, o6, o7, o8] ∧ Same H H' ∧ FrR K H' C a dx pP pW pB (pins.map fun p => (p.nm, ptQ p.sp)) ((bars.take i).map fun b => (b.nm, b.one.nm, b.other.nm)) kP kW kB ∧ WyR K H' (pins.map fun p => (p.nm, p.ws)) kW) ⟨_, none, none, [], rfl, s2, R2, W2⟩ (fun i σ H' _ h => by
    obtain ⟨_, _, _, _, _, s, _⟩ := h
    exact SqL.of (s _ _ hb)) ?_ ?_⟩
  ·rintro i u σ H3 hu ⟨o3, o7, o8, kB, rfl, s3, R3, W3⟩
   obtain ⟨b, ebr, hbr⟩ := paired_get pb hu
   have mb : b ∈ bars := List.mem_of_getElem? ebr
   obtain ⟨ta, u1, u2, rfl, h1, ⟨a1, l1, sv1, us1, rfl, h11, _⟩, ⟨a2, l2, sv2, us2, rfl, h21, _⟩⟩ := hbr.same s3
   obtain ⟨m1, m2, m3⟩ := gb.ends b mb
   have tk := take_snoc ebr
   have il : i < bars.length := (List.getElem?_eq_some_iff.mp ebr).1
   refine ⟨ta, _, rfl, h1, rfl, _, _, rfl, _, _, rfl, _, _, rfl, rfl, ?_⟩
   refine ⟨_, rfl, a, C, dx, _, _, _, rfl, R3.obj, rfl, MPb, _, rfl, _, rfl, a1, _, _, _, rfl, rfl, h11, rfl, _, rfl, a2, _, _, _, rfl, rfl, h21, rfl, ?_⟩
   refine ⟨a, dx, pP, pW, pB, _, _, kP, kW, kB, b.nm, b.one.nm, b.other.nm, rfl, R3, fun z => ?_, ?_, ?_, m3, ?_, fun H' kB' k' R' => ?_⟩
   ·rw [List.map_map] at z
    obtain ⟨b', hb', e'⟩ := List.mem_map.mp z
    exact take_new (nm := BarD.nm) gb.nb ebr hb' e'
   ·rw [List.map_map]
    exact List.mem_map.mpr ⟨_, m1, rfl⟩
   ·rw [List.map_map]
    exact List.mem_map.mpr ⟨_, m2, rfl⟩
   ·rw [List.length_map, List.length_take]
    omega
   ·refine ⟨_, _, _, kB', rfl, fun c o z => k' c o (ne_of_none z nB) (s3 _ _ z), ?_, ?_⟩
    ·rw [tk, List.map_append]
     exact R'
    ·refine Paired.mapP W3 fun p' kv z => ⟨z.1, ?_⟩
     obtain ⟨l', us', z1, z2, z3⟩ := z.2
     refine ⟨l', us', z1, k' _ _ (fun z => by rw [z, R3.br] at z2; cases z2) z2, z3.sameT fun c xs r => ?_⟩
     rcases r with r | ⟨o', r⟩
     ·exact .inl (k' _ _ (fun e => by rw [e, R3.br] at r; cases r) r)
     ·exact .inr ⟨o', k' _ _ (fun e => by rw [e, R3.br] at r; cases r) r⟩
  ·rintro σ H3 ⟨o3, o7, o8, kB, rfl, s3, R3, W3⟩
   rw [lv, List.take_length] at R3
   exact ⟨_, rfl, q a H3 s3 ⟨⟨dx, pP, pW, pB, kP, kW, kB, R3, W3⟩⟩⟩
theorem sc_ah : FnScope ["_law_one"] ["_law_one"] (defScope s_ah) := sq
theorem ok_ah (D : Def K mg "_law_text_of" s_ah ["_law_one"]) (m_str : mg "str" = none) : Fn P w K mg base CX 1 "_law_text_of" ["_law_one"] (spShowK K) := by
 refine D.ok sc_ah (fun vs H Q E h => ?_) (fun f cdv A outer s H vs Q E hr h => ?_)
 ·obtain ⟨u, q, rfl, _⟩ := h
  rfl
 obtain ⟨u, q, rfl, ⟨p, rfl, h⟩, l1, l2, k'⟩ := h
 refine ⟨_, (pss_cons (ps_if (pt_cmpR op_eq (pe_tx (pv 0)) pe_int (nomark _)) (pss_one (ps_ret (pe_callTy call_str_int rfl m_str b_str (pac (pe_tx (pv 0)) pa_nil)))) pss_nil)
  (pss_one (ps_ret (pe_op op_add_str (pe_op op_add_str (pe_callTy call_str_int rfl m_str b_str (pac (pe_tx (pv 0)) pa_nil)) pe_str) (pe_callTy call_str_int rfl m_str b_str (pac (pe_tx (pv 0)) pa_nil)))))), ?_⟩
 have t1 : (tx q.1).length ≤ 1921 := int_text_len_1921 (by omega)
 have t2 : (tx q.2).length ≤ 1921 := int_text_len_1921 (by omega)
 have t3 : slash.length = 1 := by decide +kernel
 refine ⟨_, rfl, p, _, _, _, rfl, rfl, h, at1, rfl, _, rfl, ?_⟩
 refine ite2 (fun c => ?_) (fun c => ?_)
 ·have e : q.2 = 1 := by simpa using of_decide_eq_true c
  rw [nt_one e] at k'
  exact ⟨_, rfl, p, _, _, _, rfl, rfl, h, at0, q.1, rfl, by omega, k'⟩
 ·have e : q.2 ≠ 1 := by
   have := of_decide_eq_false (Bool.eq_false_iff.mpr c)
   intro z
   exact this (by rw [z])
  rw [nt_two e] at k'
  refine ⟨_, rfl, p, _, _, _, rfl, rfl, h, at0, q.1, rfl, by omega, ?_⟩
  refine ⟨tx q.1, slash, rfl, rfl, Nat.le_trans (show (tx q.1).length + slash.length ≤ 5000 by omega) (by decide), ?_⟩
  refine ⟨_, rfl, p, _, _, _, rfl, rfl, h, at1, q.2, rfl, by omega, ?_⟩
  exact ⟨tx q.1 ++ slash, tx q.2, rfl, rfl, Nat.le_trans (show (tx q.1 ++ slash).length + (tx q.2).length ≤ 5000 by rw [strLen_append]; omega) (by decide), k'⟩
theorem rowB_eq (b : BarD) : ((((("bar " : Str) ++ b.nm) ++ (" " : Str)) ++ b.one.nm) ++ (" " : Str)) ++ b.other.nm = rowB b := by
 refine str_ext ?_
 unfold rowB
 rw [show Txt.join (" " : Str) [("bar" : Str), b.nm, b.one.nm, b.other.nm] = Str.join (⟨#[32]⟩ : Str) [("bar" : Str), b.nm, b.one.nm, b.other.nm] from by rw [blank]; exact StrLaws.glued_eq_join _ _, join_jn]
 have e1 : ("bar " : Str).cps.toList = ("bar" : Str).cps.toList ++ [32] := by decide +kernel
 have e2 : (" " : Str).cps.toList = [32] := by decide +kernel
 rw [cps_append, cps_append, cps_append, cps_append, cps_append, e1, e2]
 show _ = ("bar" : Str).cps.toList ++ 32 :: (b.nm.cps.toList ++ 32 :: (b.one.nm.cps.toList ++ 32 :: b.other.nm.cps.toList))
 simp
def spTextL (K : Frag) : Sp := fun vs H Q _ => ∃ (pA bA : Addr) (us vs' : List V) (pins : List PinD) (bars : List BarD), vs = [.ref pA, .ref bA] ∧ H pA = some (.lst us) ∧ Paired (PinR K H) us pins ∧ H bA = some (.lst vs') ∧ Paired (BarR K H) vs' bars ∧ GoodF pins bars ∧ ShortN pins bars ∧ ∀ H', Same H H' → Q (.str (textF pins bars)) H'
theorem sc_br : FnScope ["_law_pins_here", "_law_bars_here", "_law_rows", "_law_name", "_law_spot", "_law_ways_here", "_law_words", "_law_one", "_law_other"] ["_law_pins_here", "_law_bars_here"] (defScope s_br) := sq
theorem ok_br (D : Def K mg "_law_text" s_br ["_law_pins_here", "_law_bars_here"]) (m_len : mg "len" = none) (G_ah : Fn P w K mg base (CXr P w) 1 "_law_text_of" ["_law_one"] (spShow K)) : Fn P w K mg base (CXr P w) 2 "_law_text" ["_law_pins_here", "_law_bars_here"] (spTextL K) := by
 refine D.ok sc_br (fun vs H Q E h => ?_) (fun f cdv A outer s H vs Q E hr h => ?_)
 ·obtain ⟨pA, bA, us, vs', pins, bars, rfl, _⟩ := h
  rfl
 obtain ⟨pA, bA, us, vs', pins, bars, rfl, hp, pp, hb, pb, g, sn, q⟩ := h
 have lu : us.length = pins.length := Paired.length pp
 have lv : vs'.length = bars.length := Paired.length pb
 have lp := g.lp
 have lb := g.lb
 have lsp : (" " : Str).length = 1 := by decide +kernel
 have lnl : ("\n" : Str).length = 1 := by decide +kernel
 refine ⟨_, (pss_cons (ps_set (i := 2) sc_br.nd rfl (Or.inl rfl) (pe_lst pa_nil))
  (pss_cons (ps_for PassesOwn.never rfl (pi_list (pv 0)) (pg_tup rfl (pgs_cons (pg_name (i := 3) sc_br.nd rfl (Or.inl rfl)) (pgs_cons (pg_name (i := 4) sc_br.nd rfl (Or.inl rfl)) (pgs_cons (pg_name (i := 5) sc_br.nd rfl (Or.inl rfl)) pgs_nil)))) (pss_cons (ps_set (i := 6) sc_br.nd rfl (Or.inl rfl) (pe_lst (pac pe_str (pac (pv 3) (pac (pe_fn G_ah hr.mo pX (pac (pe_tx (pv 4)) pa_nil)) (pac (pe_fn G_ah hr.mo pX (pac (pe_tx (pv 4)) pa_nil)) pa_nil))))))
   (pss_cons (ps_if (pt_cmpR op_eq (pe_callB call_len_seq rfl m_len b_len (pac (pv 5) pa_nil)) pe_int (nomark _)) (pss_one (ps_set (i := 6) sc_br.nd rfl (Or.inl rfl) (pe_op op_cat (pv 6) (pe_lst (pac pe_str (pac (pe_fn G_ah hr.mo pX (pac (pe_tx (pe_lx (pv 5))) pa_nil)) (pac (pe_fn G_ah hr.mo pX (pac (pe_tx (pe_lx (pv 5))) pa_nil)) pa_nil))))))) pss_nil)
   (pss_cons (ps_if (pt_cmpR op_eq (pe_callB call_len_seq rfl m_len b_len (pac (pv 5) pa_nil)) pe_int (nomark _)) (pss_one (ps_expr (pe_bm PySem.F.plainAttrs_list PySem.F.slot_list_append PySem.F.type_list_append mt_append (pv 6) (pac pe_str pa_nil)))) pss_nil)
   (pss_one (ps_expr (pe_bm PySem.F.plainAttrs_list PySem.F.slot_list_append PySem.F.type_list_append mt_append (pv 2) (pac (pe_bm PySem.F.plainAttrs_str PySem.F.slot_str_join PySem.F.type_str_join mt_join pe_str (pac (pv 6) pa_nil)) pa_nil))))))))
  (pss_cons (ps_for PassesOwn.never rfl (pi_list (pv 1)) (pg_tup rfl (pgs_cons (pg_name (i := 3) sc_br.nd rfl (Or.inl rfl)) (pgs_cons (pg_name (i := 7) sc_br.nd rfl (Or.inl rfl)) (pgs_cons (pg_name (i := 8) sc_br.nd rfl (Or.inl rfl)) pgs_nil)))) (pss_one (ps_expr (pe_bm PySem.F.plainAttrs_list PySem.F.slot_list_append PySem.F.type_list_append mt_append (pv 2) (pac (pe_op op_add_str (pe_op op_add_str (pe_op op_add_str (pe_op op_add_str (pe_op op_add_str pe_str (pv 3)) pe_str) (pe_tx (pv 7))) pe_str) (pe_tx (pv 8))) pa_nil)))))
  (pss_one (ps_ret (pe_bm PySem.F.plainAttrs_str PySem.F.slot_str_join PySem.F.type_str_join mt_join pe_str (pac (pv 2) pa_nil))))))), ?_⟩
 refine ⟨(by show 0 ≤ sizeLine; decide), ?_⟩
 intro lr nr; generalize eX : upd _ lr _ = H1; have ⟨sr, er⟩ := nw nr eX; clear eX
 refine ⟨_, rfl, pA, rfl, ⟨_, SqL.of (sr _ _ hp)⟩, for_list (K := K) (a := pA) (xs := us) (fun i σ H' => ∃ (o3 o4 o5 o6 : Option V), σ = [some (.ref pA), some (.ref bA), some (.ref lr), o3, o4, o5, o6, none, none] ∧ Same H H' ∧ H' lr = some (.lst (((pins.take i).map rowP).map V.str))) ⟨none, none, none, none, rfl, sr, er⟩ (fun i σ H' _ h => by
   obtain ⟨_, _, _, _, _, h, _⟩ := h
   exact SqL.of (h _ _ hp)) ?_ ?_⟩
 ·rintro i u σ H2 hu ⟨o3, o4, o5, o6, rfl, s2, r2⟩
  obtain ⟨p, ep, hpr⟩ := paired_get pp hu
  have mp : p ∈ pins := List.mem_of_getElem? ep
  have zp := g.sz p mp
  have il : i < pins.length := (List.getElem?_eq_some_iff.mp ep).1
  obtain ⟨ta, l, sv, ws, rfl, h1, h2, h3, h4⟩ := hpr.same s2
  obtain ⟨sa, x1, y1, rfl, hsq, hn1, hn2⟩ := h2
  have lw : ws.length = p.ws.length := Paired.length h4
  obtain ⟨wl, wsum⟩ := words_len g sn mp
  have bnd : ((wordsP p).map (·.length)).sum + (wordsP p).length * (" " : Str).length ≤ 16777216 := by
   have e : ((wordsP p).map (·.length)).sum ≤ 20000 := wsum
   have e' : (wordsP p).length ≤ 7 := wl
   rw [lsp]
   omega
  have fin : ∀ (H9 : Hp), Same H2 H9 → Same H (upd H9 lr (.lst (((pins.take i).map rowP).map V.str ++ [.str (rowP p)]))) ∧ (upd H9 lr (.lst (((pins.take i).map rowP).map V.str ++ [.str (rowP p)]))) lr = some (.lst (((pins.take (i + 1)).map rowP).map V.str)) := fun H9 s9 => by
   refine ⟨fun b o z => ?_, ?_⟩
   ·rw [upd_ne (ne_of_none z nr)]
    exact s9 _ _ (s2 _ _ z)
   ·rw [upd_same, take_snoc ep, List.map_append, List.map_append]
    rfl
  have szr : (((pins.take i).map rowP).map V.str).length < sizeLine := by
   rw [List.length_map, List.length_map, List.length_take]
   exact Nat.lt_of_le_of_lt (show min i pins.length ≤ 1000 by omega) (by decide)
  refine ⟨ta, _, rfl, h1, rfl, _, _, rfl, _, _, rfl, _, _, rfl, rfl, ?_⟩
  refine ⟨_, rfl, _, rfl, sa, _, _, _, rfl, rfl, hsq, at0, x1, p.sp.1, rfl, hn1, zp.1, _, rfl, sa, _, _, _, rfl, rfl, hsq, at1, y1, p.sp.2, rfl, hn2, zp.2.1, (by show 4 ≤ sizeLine; decide), ?_⟩
  intro l4 n4; generalize eX : upd _ l4 _ = H4; have ⟨s4, e4⟩ := nw n4 eX; clear eX
  have r4 := s4 _ _ r2
  have lrl : lr ≠ l4 := fun z => by rw [← z, r2] at n4; cases n4
  have l4' := SqL.of (K := K) (s4 _ _ h3)
  refine ⟨_, rfl, l, _, rfl, .inl l4', rfl, _, rfl, ?_⟩
  match ew : p.ws, ws, lw, h3, h4 with
  | [], [], _, h3, _ =>
   refine ite2 (fun c => by simp at c) (fun _ => ?_)
   refine ⟨_, rfl, l, _, rfl, .inl l4', rfl, _, rfl, ?_⟩
   refine ite2 (fun c => by simp at c) (fun _ => ?_)
   have e9 : H4 l4 = some (.lst ((wordsP p).map V.str)) := by
    rw [e4]
    unfold wordsP
    rw [ew]
    rfl
   obtain ⟨f1, f2⟩ := fin H4 s4
   exact ⟨_, rfl, .inl ⟨rfl, _, SqL.of r4⟩, rfl, _, rfl, " ", l4, wordsP p, rfl, rfl, SqL.of e9, bnd, lr, _, _, rfl, rfl, r4, szr, _, _, _, _, rfl, f1, f2⟩
  | [w], [w0], _, h3, .cons hw _ =>
   have zw := zp.2.2 w (by rw [ew]; simp)
   obtain ⟨wa, y2, y3, rfl, hsw, hm1, hm2⟩ := hw.same s4
   refine ite2 (fun _ => ?_) (fun c => absurd rfl c)
   refine ⟨_, rfl, _, rfl, l, _, _, _, rfl, rfl, l4', rfl, wa, _, _, _, rfl, rfl, hsw, at0, y2, w.1, rfl, hm1, zw.1.up (by decide), ?_⟩
   refine ⟨_, rfl, l, _, _, _, rfl, rfl, l4', rfl, wa, _, _, _, rfl, rfl, hsw, at1, y3, w.2, rfl, hm2, zw.2.up (by decide), (by show 3 ≤ sizeLine; decide), ?_⟩
   intro l5 n5; generalize eX : upd _ l5 _ = H5; have ⟨s5, e5⟩ := nw n5 eX; clear eX
   refine ⟨l4, l5, _, _, rfl, rfl, s5 _ _ e4, e5, (by show 7 ≤ sizeLine; decide), ?_⟩
   intro l6 n6; generalize eX : upd _ l6 _ = H6; have ⟨s6, e6⟩ := nw n6 eX; clear eX
   have s46 := sm_tr s5 s6
   have l6' := SqL.of (K := K) (s46 _ _ (s4 _ _ h3))
   refine ⟨_, rfl, l, _, rfl, .inl l6', rfl, _, rfl, ?_⟩
   refine ite2 (fun c => by simp at c) (fun _ => ?_)
   have e9 : H6 l6 = some (.lst ((wordsP p).map V.str)) := by
    rw [e6]
    unfold wordsP
    rw [ew]
    rfl
   have r6 := s46 _ _ r4
   obtain ⟨f1, f2⟩ := fin H6 (sm_tr s4 s46)
   exact ⟨_, rfl, .inl ⟨rfl, _, SqL.of r6⟩, rfl, _, rfl, " ", l6, wordsP p, rfl, rfl, SqL.of e9, bnd, lr, _, _, rfl, rfl, r6, szr, _, _, _, _, rfl, f1, f2⟩
  | w :: w' :: r, w0 :: w1 :: r', lw, h3, _ =>
   have lr0 : r = [] := by
    have := g.lw p mp
    rw [ew] at this
    simp at this
    exact this
   subst lr0
   have lr1 : r' = [] := by
    simp at lw
    exact lw
   subst lr1
   refine ite2 (fun c => by simp at c) (fun _ => ?_)
   refine ⟨_, rfl, l, _, rfl, .inl l4', rfl, _, rfl, ?_⟩
   refine ite2 (fun _ => ?_) (fun c => absurd rfl c)
   refine ⟨_, rfl, .inl ⟨rfl, _, SqL.of e4⟩, l4, _, _, rfl, rfl, e4, (by show 4 < sizeLine; decide), ?_⟩
   have e9 : (upd H4 l4 (.lst ([V.str "pin", .str p.nm, .str (txq p.sp.1), .str (txq p.sp.2)] ++ [.str "fixed"]))) l4 = some (.lst ((wordsP p).map V.str)) := by
    rw [upd_same]
    unfold wordsP
    rw [ew]
    rfl
   have r9 : (upd H4 l4 (.lst ([V.str "pin", .str p.nm, .str (txq p.sp.1), .str (txq p.sp.2)] ++ [.str "fixed"]))) lr = some (.lst (((pins.take i).map rowP).map V.str)) := by
    rw [upd_ne lrl]
    exact r4
   obtain ⟨f1, f2⟩ := fin _ (show Same H2 (upd H4 l4 (.lst ([V.str "pin", .str p.nm, .str (txq p.sp.1), .str (txq p.sp.2)] ++ [.str "fixed"]))) from fun b o z => by rw [upd_ne (ne_of_none z n4)]; exact s4 _ _ z)
   exact ⟨_, rfl, .inl ⟨rfl, _, SqL.of r9⟩, rfl, _, rfl, " ", l4, wordsP p, rfl, rfl, SqL.of e9, bnd, lr, _, _, rfl, rfl, r9, szr, _, _, _, _, rfl, f1, f2⟩
 rintro σ H2 ⟨o3, o4, o5, o6, rfl, s2, r2⟩
 rw [lu, List.take_length] at r2
 refine ⟨_, rfl, bA, rfl, ⟨_, SqL.of (s2 _ _ hb)⟩, for_list (K := K) (a := bA) (xs := vs') (fun i σ H' => ∃ (o3 o7 o8 : Option V), σ = [some (.ref pA), some (.ref bA), some (.ref lr), o3, o4, o5, o6, o7, o8] ∧ Same H H' ∧ H' lr = some (.lst ((pins.map rowP ++ (bars.take i).map rowB).map V.str))) ⟨_, none, none, rfl, s2, by rw [r2]; simp⟩ (fun i σ H' _ h => by
   obtain ⟨_, _, _, _, h, _⟩ := h
   exact SqL.of (h _ _ hb)) ?_ ?_⟩
 ·rintro i u σ H3 hu ⟨o3, o7, o8, rfl, s3, r3⟩
  obtain ⟨b, ebr, hbr⟩ := paired_get pb hu
  have mb : b ∈ bars := List.mem_of_getElem? ebr
  have il : i < bars.length := (List.getElem?_eq_some_iff.mp ebr).1
  obtain ⟨m1, m2, _⟩ := g.ends b mb
  have n1 := sn.b b mb
  have n2 := sn.p _ m1
  have n3 := sn.p _ m2
  obtain ⟨ta, u1, u2, rfl, h1, ⟨a1, l1, sv1, us1, rfl, h11, _⟩, ⟨a2, l2, sv2, us2, rfl, h21, _⟩⟩ := hbr.same s3
  have lbr : ("bar " : Str).length = 4 := by decide +kernel
  have z1 : ∀ {n : Nat}, n ≤ 1000 → n ≤ sizeLine := fun h => Nat.le_trans h (by decide)
  refine ⟨ta, _, rfl, h1, rfl, _, _, rfl, _, _, rfl, _, _, rfl, rfl, ?_⟩
  refine ⟨_, rfl, .inl ⟨rfl, _, SqL.of r3⟩, _, rfl, _, _, rfl, rfl, z1 (by omega), _, _, rfl, rfl, z1 (by rw [strLen_append]; omega), _, rfl, a1, _, _, _, rfl, rfl, h11, rfl, _, _, rfl, rfl, z1 (by rw [strLen_append, strLen_append]; omega), _, _, rfl, rfl, z1 (by rw [strLen_append, strLen_append, strLen_append]; omega), _, rfl, a2, _, _, _, rfl, rfl, h21, rfl, _, _, rfl, rfl, z1 (by rw [strLen_append, strLen_append, strLen_append, strLen_append]; omega), ?_⟩
  rw [rowB_eq]
  refine ⟨lr, _, _, rfl, rfl, r3, (by rw [List.length_map, List.length_append, List.length_map, List.length_map, List.length_take]; exact Nat.lt_of_le_of_lt (show pins.length + min i bars.length ≤ 1000 by omega) (by decide)), ?_⟩
  refine ⟨_, _, _, rfl, fun b o z => ?_, ?_⟩
  ·rw [upd_ne (ne_of_none z nr)]
   exact s3 _ _ z
  ·rw [upd_same, take_snoc ebr, List.map_append, List.map_append, List.map_append, List.map_append, List.append_assoc]
   rfl
 rintro σ H5 ⟨o3, o7, o8, rfl, s5, r5⟩
 rw [lv, List.take_length] at r5
 have hs : sumLen (pins.map rowP ++ bars.map rowB) ≤ (pins.map rowP ++ bars.map rowB).length * 20100 := sum_le fun w hw => by
  rcases List.mem_append.mp hw with h | h
  ·obtain ⟨p, mp, rfl⟩ := List.mem_map.mp h
   exact rowP_len g sn mp
  ·obtain ⟨b, mb, rfl⟩ := List.mem_map.mp h
   exact (rowB_len g sn mb).2
 rw [List.length_append, List.length_map, List.length_map] at hs
 refine ⟨rfl, _, rfl, "\n", lr, _, rfl, rfl, SqL.of r5, ?_, q H5 s5⟩
 rw [lnl, List.length_append, List.length_map, List.length_map]
 have e : ((pins.map rowP ++ bars.map rowB).map (·.length)).sum ≤ (pins.length + bars.length) * 20100 := hs
 have : (pins.length + bars.length) * 20100 ≤ 14 * 20100 := Nat.mul_le_mul_right _ (by omega)
 omega
mutual
theorem is_self {H : Hp} : ∀ (d : Da) (x : V), Is K H d x → alike d d = true ∧ eqDa d d = true
 | .v a, x, h => by
  unfold Is at h
  unfold alike eqDa
  exact ⟨rfl, eqV_refl h.2⟩
 | .t ds, x, h => by
  unfold Is at h
  unfold alike eqDa
  obtain ⟨p, xs, _, _, k⟩ := h
  exact iss_self ds xs k
 | .l ds, x, h => by
  unfold Is at h
  unfold alike eqDa
  obtain ⟨p, xs, _, _, k⟩ := h
  exact iss_self ds xs k
theorem iss_self {H : Hp} : ∀ (ds : List Da) (xs : List V), Iss K H ds xs → alikes ds ds = true ∧ eqDas ds ds = true
 | [], _, _ => ⟨rfl, rfl⟩
 | d :: ds, [], h => by unfold Iss at h; exact h.elim
 | d :: ds, x :: xs, h => by
  unfold Iss at h
  unfold alikes eqDas
  obtain ⟨a1, a2⟩ := is_self d x h.1
  obtain ⟨b1, b2⟩ := iss_self ds xs h.2
  rw [a1, a2, b1, b2]
  exact ⟨rfl, rfl⟩
end
theorem deps_map {α : Type} {f : α → Da} (h : ∀ a, dep (f a) ≤ 60) : ∀ l : List α, deps (l.map f) ≤ 60
 | [] => Nat.zero_le _
 | a :: l => by
  show max (dep (f a)) (deps (l.map f)) ≤ 60
  have h1 := h a
  have h2 := deps_map h l
  omega
theorem iss_map {α : Type} {H : Hp} {f : α → Da} {R : V → α → Prop} (h : ∀ u a, R u a → Is K H (f a) u) : ∀ {us : List V} {l : List α}, Paired R us l → Iss K H (l.map f) us
 | [], [], .nil => by
  unfold Iss
  trivial
 | _ :: _, _ :: _, .cons z t => by
  show Iss K H (_ :: _) _
  unfold Iss
  exact ⟨h _ _ z, iss_map h t⟩
theorem is_str {H : Hp} (x : Str) : Is K H (.v (.str x)) (.str x) := by
 unfold Is
 exact ⟨rfl, rfl⟩
theorem strs_pair (xs : List Str) : Paired (fun u (x : Str) => u = V.str x) (xs.map V.str) xs := by
 induction xs with
 | nil => exact .nil
 | cons x xs ih => exact .cons rfl ih
theorem is_strs {H : Hp} {l : Addr} {xs : List Str} (h : SqL K H l (xs.map V.str)) : Is K H (.l (xs.map fun x => .v (.str x))) (.ref l) := by
 unfold Is
 exact ⟨l, _, rfl, h, iss_map (fun u a z => by rw [z]; exact is_str a) (strs_pair xs)⟩
theorem is_ways {H : Hp} {l : Addr} {us : List V} {ws : List (Rat × Rat)} (h : SqL K H l us) (p : PtsR K H us ws) : Is K H (.l (ws.map fun w => .t (spotD (ptQ w)))) (.ref l) := by
 unfold Is
 exact ⟨l, _, rfl, h, iss_map (fun u a z => Spot.is (p := ptQ a) z) p⟩
theorem ne_l {H : Hp} {ds : List Da} {x y : V} {Q : VK} (h1 : Is K H (.l ds) x) (h2 : Is K H (.l ds) y) (hd : deps ds ≤ 60) (q : Q (.bl false) H) : rNeDa K x y H Q := by
 have h := h1
 unfold Is at h
 obtain ⟨p, xs, _, _, k⟩ := h
 obtain ⟨b1, b2⟩ := iss_self ds xs k
 refine ⟨ds, ds, .inr ⟨h1, h2⟩, b1, hd, ?_⟩
 rw [b2]
 exact q
theorem ne_t {H : Hp} {ds : List Da} {x y : V} {Q : VK} (h1 : Is K H (.t ds) x) (h2 : Is K H (.t ds) y) (hd : deps ds ≤ 60) (q : Q (.bl false) H) : rNeDa K x y H Q := by
 have h := h1
 unfold Is at h
 obtain ⟨p, xs, _, _, k⟩ := h
 obtain ⟨b1, b2⟩ := iss_self ds xs k
 refine ⟨ds, ds, .inl ⟨h1, h2⟩, b1, hd, ?_⟩
 rw [b2]
 exact q
theorem dep0 (x : Str) : dep (.v (.str x)) ≤ 60 := Nat.zero_le _
theorem is_two {H : Hp} {p : Addr} {x y : Str} (h : SqT K H p [.str x, .str y]) : Is K H (.t [.v (.str x), .v (.str y)]) (.ref p) := by
 unfold Is
 refine ⟨p, _, rfl, h, ?_⟩
 unfold Iss
 refine ⟨is_str x, ?_⟩
 unfold Iss
 refine ⟨is_str y, ?_⟩
 unfold Iss
 trivial
theorem nmsV {α : Type} {nm : α → Str} {l : List α} {ys : List V} (hl : ys.length = l.length) (h : ∀ (i : Nat) (v : V), ys[i]? = some v → ∃ p, l[i]? = some p ∧ v = V.str (nm p)) : ys = (l.map nm).map V.str := by
 refine List.ext_getElem? fun i => ?_
 by_cases hi : i < ys.length
 ·obtain ⟨p, e1, e2⟩ := h i ys[i] (gE hi)
  rw [gE hi, e2, List.getElem?_map, List.getElem?_map, e1]
  rfl
 ·rw [List.getElem?_eq_none (by omega), List.getElem?_eq_none (by rw [List.length_map, List.length_map]; omega)]
def spIsL (K : Frag) (C : Addr) : Sp := fun vs H Q _ => ∃ (a pA bA : Addr) (us vs' : List V) (pins : List PinD) (bars : List BarD), vs = [.ref a, .ref pA, .ref bA] ∧ FrA K H C a pins bars ∧ H pA = some (.lst us) ∧ Paired (PinR K H) us pins ∧ H bA = some (.lst vs') ∧ Paired (BarR K H) vs' bars ∧ GoodF pins bars ∧ ∀ H', Same H H' → Q (.bl true) H'
theorem sc_c6 : FnScope ["_law_frame_here", "_law_pins_here", "_law_bars_here", "_law_name", "_law_spot", "_law_ways_here", "_law_one", "_law_other"] ["_law_frame_here", "_law_pins_here", "_law_bars_here"] (defScope s_c6) := sq
theorem ok_c6 {C : Addr} (D : Def K mg "_law_is" s_c6 ["_law_frame_here", "_law_pins_here", "_law_bars_here"]) (MPn : MtdOk P w K mg base (CXr P w) 1 C "pins" ["self"] (spPins K C)) (MB : MtdOk P w K mg base (CXr P w) 1 C "bars" ["self"] (spBars K C)) (MPl : MtdOk P w K mg base (CXr P w) 2 C "place" ["self", "pin"] (spPlace K C)) (MW : MtdOk P w K mg base (CXr P w) 2 C "ways" ["self", "pin"] (spWays K C)) (ME : MtdOk P w K mg base (CXr P w) 1 C "ends" ["self", "bar"] (spEnds K C)) :
  Fn P w K mg base (CXr P w) 4 "_law_is" ["_law_frame_here", "_law_pins_here", "_law_bars_here"] (spIsL K C) := by
 refine D.ok sc_c6 (fun vs H Q E h => ?_) (fun f cdv A outer s H vs Q E hr h => ?_)
 ·obtain ⟨a, pA, bA, us, vs', pins, bars, rfl, _⟩ := h
  rfl
 obtain ⟨a, pA, bA, us, vs', pins, bars, rfl, R, hp, pp, hb, pb, g, q⟩ := h
 have lu : us.length = pins.length := Paired.length pp
 have lv : vs'.length = bars.length := Paired.length pb
 have lp := g.lp
 have lb := g.lb
 have nmb : ((pins.map fun p => (p.nm, ptQ p.sp)).map (·.1)) = pins.map (·.nm) := by rw [List.map_map]; rfl
 have nbb : ((bars.map fun b => (b.nm, b.one.nm, b.other.nm)).map (·.1)) = bars.map (·.nm) := by rw [List.map_map]; rfl
 refine ⟨_, (pss_cons (ps_if (PW.pt (pw_or (pt_cmpR (op_neDa hr.units) (pe_mtd0 (k := 1) (pv 0) hr.mo (pY P w)) (pe_comp (tn := ["_law_pin"]) (fr := []) (caps := []) rfl ⟨rfl, by decide +kernel, rfl, by decide +kernel, by decide +kernel, rfl, trivial, trivial⟩ (pi_list (pv 1)) (fun _ _ _ _ => (pg_name (i := 0) (show (["_law_pin"] : List Str).Nodup from by decide +kernel) rfl (Or.inl rfl))) (fun _ _ _ _ => pf_nil) (fun _ _ _ _ => (pe_ix (ix_tupK (K := K) rfl) (pv 0) pe_int (fun _ _ => rfl)))) (nomark _)) (pw_or1 (pt_cmpR (op_neDa hr.units) (pe_mtd0 (k := 1) (pv 0) hr.mo (pY P w)) (pe_comp (tn := ["_law_bar"]) (fr := []) (caps := []) rfl ⟨rfl, by decide +kernel, rfl, by decide +kernel, by decide +kernel, rfl, trivial, trivial⟩ (pi_list (pv 2)) (fun _ _ _ _ => (pg_name (i := 0) (show (["_law_bar"] : List Str).Nodup from by decide +kernel) rfl (Or.inl rfl))) (fun _ _ _ _ => pf_nil) (fun _ _ _ _ => (pe_ix (ix_tupK (K := K) rfl) (pv 0) pe_int (fun _ _ => rfl)))) (nomark _))))) (pss_one (ps_ret pe_bl)) pss_nil)
  (pss_cons (ps_for PassesOwn.never rfl (pi_list (pv 1)) (pg_tup rfl (pgs_cons (pg_name (i := 3) sc_c6.nd rfl (Or.inl rfl)) (pgs_cons (pg_name (i := 4) sc_c6.nd rfl (Or.inl rfl)) (pgs_cons (pg_name (i := 5) sc_c6.nd rfl (Or.inl rfl)) pgs_nil)))) (pss_one (ps_if (PW.pt (pw_or (pt_cmpR (op_neDa hr.units) (pe_mtd (k := 2) (pv 0) hr.mo (pY P w) (pac (pv 3) pa_nil)) (pv 4) (nomark _)) (pw_or1 (pt_cmpR (op_neDa hr.units) (pe_mtd (k := 2) (pv 0) hr.mo (pY P w) (pac (pv 3) pa_nil)) (pv 5) (nomark _))))) (pss_one (ps_ret pe_bl)) pss_nil)))
  (pss_cons (ps_for PassesOwn.never rfl (pi_list (pv 2)) (pg_tup rfl (pgs_cons (pg_name (i := 3) sc_c6.nd rfl (Or.inl rfl)) (pgs_cons (pg_name (i := 6) sc_c6.nd rfl (Or.inl rfl)) (pgs_cons (pg_name (i := 7) sc_c6.nd rfl (Or.inl rfl)) pgs_nil)))) (pss_one (ps_if (pt_cmpR (op_neDa hr.units) (pe_mtd (k := 1) (pv 0) hr.mo (pY P w) (pac (pv 3) pa_nil)) (pe_tup (pac (pe_tx (pv 6)) (pac (pe_tx (pv 7)) pa_nil))) (nomark _)) (pss_one (ps_ret pe_bl)) pss_nil)))
  (pss_one (ps_ret pe_bl))))), ?_⟩
 obtain ⟨dx, pP, pW, pB, kP, kW, kB, F1, W1⟩ := R.ex
 refine ⟨_, rfl, a, C, dx, _, _, _, rfl, F1.obj, rfl, MPn, a, dx, pP, pW, pB, _, _, kP, kW, kB, rfl, F1, fun l H1 s1 nl el => ?_⟩
 rw [nmb] at el
 refine ⟨_, rfl, pA, rfl, ⟨_, SqL.of (s1 _ _ hp)⟩, fun D1 n1 => ?_⟩
 refine comp_list (cap := []) (K := K) (a := pA) (xs := us) (fun i v _ => ∃ p, pins[i]? = some p ∧ v = .str p.nm) n1 (by rw [lu]; exact Nat.lt_of_le_of_lt (show pins.length ≤ 1000 by omega) (by decide)) (fun H2 s2 => SqL.of (s2 _ _ (s1 _ _ hp))) (fun _ _ _ _ _ _ _ h => h) ?_ ?_
 ·intro j u H6 Rq hu s6 k
  obtain ⟨p, ep', hp'⟩ := paired_get pp hu
  obtain ⟨ta, l', sv, us', rfl, h1, _⟩ := hp'.same (sm_tr s1 s6)
  exact ⟨_, rfl, ta, _, _, _, rfl, rfl, h1, rfl, k _ _ (Same.refl _) ⟨p, ep', rfl⟩⟩
 intro ys H2 hy hrel s2 hD
 rw [nmsV (nm := PinD.nm) (by rw [hy, lu]) hrel] at hD
 refine ne_l (is_strs (SqL.of (s2 _ _ el))) (is_strs (SqL.of hD)) (deps_map dep0 _) ⟨_, rfl, ?_⟩
 refine ite2 (fun c => nomatch c) (fun _ => ?_)
 have s02 := sm_tr s1 s2
 have F2 := F1.same s02
 refine ⟨_, rfl, a, C, dx, _, _, _, rfl, F2.obj, rfl, MB, a, dx, pP, pW, pB, _, _, kP, kW, kB, rfl, F2, fun l3 H3 s3 nl3 el3 => ?_⟩
 rw [nbb] at el3
 have s03 := sm_tr s02 s3
 refine ⟨_, rfl, bA, rfl, ⟨_, SqL.of (s03 _ _ hb)⟩, fun D2 n2 => ?_⟩
 refine comp_list (cap := []) (K := K) (a := bA) (xs := vs') (fun i v _ => ∃ p, bars[i]? = some p ∧ v = .str p.nm) n2 (by rw [lv]; exact Nat.lt_of_le_of_lt (show bars.length ≤ 1000 by omega) (by decide)) (fun H2 s2 => SqL.of (s2 _ _ (s03 _ _ hb))) (fun _ _ _ _ _ _ _ h => h) ?_ ?_
 ·intro j u H6 Rq hu s6 k
  obtain ⟨b, eb', hb'⟩ := paired_get pb hu
  obtain ⟨ta, u1, u2, rfl, h1, _⟩ := hb'.same (sm_tr s03 s6)
  exact ⟨_, rfl, ta, _, _, _, rfl, rfl, h1, rfl, k _ _ (Same.refl _) ⟨b, eb', rfl⟩⟩
 intro ys H4 hy hrel s4 hD2
 rw [nmsV (nm := BarD.nm) (by rw [hy, lv]) hrel] at hD2
 refine ne_l (is_strs (SqL.of (s4 _ _ el3))) (is_strs (SqL.of hD2)) (deps_map dep0 _) ⟨_, rfl, ?_⟩
 refine ite2 (fun c => nomatch c) (fun _ => ?_)
 have s04 := sm_tr s03 s4
 refine ⟨_, rfl, pA, rfl, ⟨_, SqL.of (s04 _ _ hp)⟩, for_list (K := K) (a := pA) (xs := us) (fun i σ H' => ∃ (o3 o4 o5 : Option V), σ = [some (.ref a), some (.ref pA), some (.ref bA), o3, o4, o5, none, none] ∧ Same H H') ⟨none, none, none, rfl, s04⟩ (fun i σ H' _ h => by
   obtain ⟨_, _, _, _, h⟩ := h
   exact SqL.of (h _ _ hp)) ?_ ?_⟩
 ·rintro i u σ H5 hu ⟨o3, o4, o5, rfl, s5⟩
  obtain ⟨p, ep, hpr⟩ := paired_get pp hu
  have mp : p ∈ pins := List.mem_of_getElem? ep
  obtain ⟨ta, l', sv, ws, rfl, h1, h2, h3, h4⟩ := hpr.same s5
  refine ⟨ta, _, rfl, h1, rfl, _, _, rfl, _, _, rfl, _, _, rfl, rfl, ?_⟩
  have F5 := F1.same s5
  have W5 := W1.same s5
  refine ⟨_, rfl, a, C, dx, _, _, _, rfl, F5.obj, rfl, MPl, _, rfl, a, dx, pP, pW, pB, _, _, kP, kW, kB, p.nm, ptQ p.sp, rfl, F5, by rw [nmb]; exact g.np, List.mem_map.mpr ⟨p, mp, rfl⟩, fun v hv => ?_⟩
  refine ⟨_, rfl, ne_t (Spot.is hv) (Spot.is (p := ptQ p.sp) h2) (dep_spots _) ⟨_, rfl, ?_⟩⟩
  refine ite2 (fun c => nomatch c) (fun _ => ?_)
  refine ⟨_, rfl, a, C, dx, _, _, _, rfl, F5.obj, rfl, MW, _, rfl, a, dx, pP, pW, pB, _, _, kP, kW, kB, _, p.nm, p.ws, rfl, F5, W5, nw_of g.np, List.mem_map.mpr ⟨p, mp, rfl⟩, by rw [nmb]; exact List.mem_map.mpr ⟨p, mp, rfl⟩, fun l7 u7 H7 s7 n7 e7 p7 => ?_⟩
  refine ⟨_, rfl, ne_l (is_ways (SqL.of e7) p7) (is_ways (SqL.of (s7 _ _ h3)) (h4.same s7)) (deps_map (fun w => Nat.le_trans (show dep (.t (spotD (ptQ w))) ≤ 2 by simp [dep, deps]) (by decide)) _) ⟨_, rfl, ?_⟩⟩
  refine ite2 (fun c => nomatch c) (fun _ => ?_)
  exact ⟨_, _, _, rfl, sm_tr s5 s7⟩
 rintro σ H5 ⟨o3, o4, o5, rfl, s5⟩
 refine ⟨_, rfl, bA, rfl, ⟨_, SqL.of (s5 _ _ hb)⟩, for_list (K := K) (a := bA) (xs := vs') (fun i σ H' => ∃ (o3 o6 o7 : Option V), σ = [some (.ref a), some (.ref pA), some (.ref bA), o3, o4, o5, o6, o7] ∧ Same H H') ⟨_, none, none, rfl, s5⟩ (fun i σ H' _ h => by
   obtain ⟨_, _, _, _, h⟩ := h
   exact SqL.of (h _ _ hb)) ?_ ?_⟩
 ·rintro i u σ H6 hu ⟨o3, o6, o7, rfl, s6⟩
  obtain ⟨b, eb, hbr⟩ := paired_get pb hu
  have mb : b ∈ bars := List.mem_of_getElem? eb
  obtain ⟨ta, u1, u2, rfl, h1, ⟨a1, l1, sv1, us1, rfl, h11, _⟩, ⟨a2, l2, sv2, us2, rfl, h21, _⟩⟩ := hbr.same s6
  refine ⟨ta, _, rfl, h1, rfl, _, _, rfl, _, _, rfl, _, _, rfl, rfl, ?_⟩
  have F6 := F1.same s6
  refine ⟨_, rfl, a, C, dx, _, _, _, rfl, F6.obj, rfl, ME, _, rfl, a, dx, pP, pW, pB, _, _, kP, kW, kB, b.nm, b.one.nm, b.other.nm, rfl, F6, nb_of g.nb, List.mem_map.mpr ⟨b, mb, rfl⟩, fun p rd => ?_⟩
  have tp : SqT K H6 p [.str b.one.nm, .str b.other.nm] := .inl rd
  refine ⟨_, rfl, a1, _, _, _, rfl, rfl, h11, rfl, _, rfl, a2, _, _, _, rfl, rfl, h21, rfl, (by show 2 ≤ sizeLine; decide), ?_⟩
  intro t7 n7; generalize eX : upd _ t7 _ = H7; have ⟨s7, e7⟩ := nw n7 eX; clear eX
  refine ne_t (is_two (Ty.Same.seqT s7 tp)) (is_two (SqT.of e7)) (by simp [deps, dep]) ⟨_, rfl, ?_⟩
  refine ite2 (fun c => nomatch c) (fun _ => ?_)
  exact ⟨_, _, _, rfl, sm_tr s6 s7⟩
 rintro σ H6 ⟨o3, o6, o7, rfl, s6⟩
 exact q H6 s6
def demA : PinD := ⟨"a", (0, 0), []⟩
def demB : PinD := ⟨"b", (1, 0), []⟩
def demC : BarD := ⟨"c", demA, demB⟩
theorem tx_nought : txq 0 = "0" := by
 show nt (qr 0) = _
 rw [qr_nought]
 decide +kernel
theorem tx_one : txq 1 = "1" := by
 show nt (qr 1) = _
 rw [qr_one]
 decide +kernel
theorem dem_text : textF [demA, demB] [demC] = "pin a 0 0\npin b 1 0\nbar c a b" := by
 show Txt.join "\n" [Txt.join " " [("pin" : Str), "a", txq 0, txq 0], Txt.join " " [("pin" : Str), "b", txq 1, txq 0], Txt.join " " [("bar" : Str), "c", "a", "b"]] = _
 rw [tx_nought, tx_one]
 decide +kernel
theorem no_text : textF [] [] = "" := by
 show Txt.join "\n" [] = _
 decide +kernel
theorem no_read : ReadF [] [] := ⟨⟨.nil, .nil, by simp, by simp, by simp, by simp, by simp⟩, by simp, by simp, .nil, by simp, by simp⟩
theorem name_one {x : Str} (h : isName x = true ∧ x.length ≤ 20) : NameOk x := ⟨h.1, h.2⟩
theorem sz1 : Sz 100 (1 : Rat) := ⟨by rw [qr_one]; decide, by rw [qr_one]; decide⟩
theorem sz0 : Sz 100 (0 : Rat) := sz_zero (by decide)
theorem dem_read : ReadF [demA, demB] [demC] := by
 refine ⟨⟨?_, ?_, fun b hb => ?_, fun p hp => ?_, by simp, by simp, fun p hp => ?_⟩, fun p hp => ?_, fun b hb => ?_, ?_, fun p hp w h => ?_, fun p hp h => ?_⟩
 ·show [("a" : Str), "b"].Nodup
  decide +kernel
 ·show [("c" : Str)].Nodup
  decide +kernel
 ·rw [List.mem_singleton] at hb
  rw [hb]
  exact ⟨by simp [demC], by simp [demC], by show ("a" : Str) ≠ "b"; decide +kernel⟩
 ·have : p = demA ∨ p = demB := by simpa using hp
  rcases this with rfl | rfl
  ·exact ⟨sz0, sz0, fun w hw => nomatch hw⟩
  ·exact ⟨sz1, sz0, fun w hw => nomatch hw⟩
 ·have : p = demA ∨ p = demB := by simpa using hp
  rcases this with rfl | rfl <;> exact Nat.zero_le _
 ·have : p = demA ∨ p = demB := by simpa using hp
  rcases this with rfl | rfl
  ·exact name_one (by decide +kernel)
  ·exact name_one (by decide +kernel)
 ·rw [List.mem_singleton] at hb
  rw [hb]
  exact name_one (by decide +kernel)
 ·show [((0 : Rat), (0 : Rat)), (1, 0)].Nodup
  have ne : (0 : Rat) ≠ 1 := by decide
  simp
 ·have : p = demA ∨ p = demB := by simpa using hp
  rcases this with rfl | rfl <;> cases h
 ·have : p = demA ∨ p = demB := by simpa using hp
  rcases this with rfl | rfl <;> cases h
theorem ks_t {H H' : Hp} {d : Addr} {kvs : List (Key × V)} (k : KSame d H H') (e : H d = some (.dK kvs)) : SameT H H' := fun b xs r => by
 rcases r with r | ⟨o', r⟩
 ·exact .inl (k _ _ (fun z => by rw [z, e] at r; cases r) r)
 ·exact .inr ⟨o', k _ _ (fun z => by rw [z, e] at r; cases r) r⟩
theorem ks_l {H H' : Hp} {d b : Addr} {kvs : List (Key × V)} {xs : List V} (k : KSame d H H') (e : H d = some (.dK kvs)) (h : H b = some (.lst xs)) : H' b = some (.lst xs) := k _ _ (fun z => by rw [z, e] at h; cases h) h
theorem ks_pin {H H' : Hp} {d : Addr} {kvs : List (Key × V)} {v : V} {p : PinD} (k : KSame d H H') (e : H d = some (.dK kvs)) (h : PinR K H v p) : PinR K H' v p := by
 obtain ⟨a, l, s, us, e1, h1, h2, h3, h4⟩ := h
 exact ⟨a, l, s, us, e1, (ks_t k e).seqT h1, h2.sameT (ks_t k e), ks_l k e h3, h4.sameT (ks_t k e)⟩
theorem ks_bar {H H' : Hp} {d : Addr} {kvs : List (Key × V)} {v : V} {b : BarD} (k : KSame d H H') (e : H d = some (.dK kvs)) (h : BarR K H v b) : BarR K H' v b := by
 obtain ⟨a, u1, u2, e1, h1, h2, h3⟩ := h
 exact ⟨a, u1, u2, e1, (ks_t k e).seqT h1, ks_pin k e h2, ks_pin k e h3⟩
theorem ks_ways {H H' : Hp} {d : Addr} {kvs kW : List (Key × V)} {pw : List (Str × List (Rat × Rat))} (k : KSame d H H') (e : H d = some (.dK kvs)) (h : WyR K H pw kW) : WyR K H' pw kW := by
 refine Paired.mapP h fun p' kv z => ⟨z.1, ?_⟩
 obtain ⟨l', us', z1, z2, z3⟩ := z.2
 exact ⟨l', us', z1, ks_l k e z2, z3.sameT (ks_t k e)⟩
def flipB (b : BarD) : BarD := ⟨b.nm, b.other, b.one⟩
theorem flip_read {pins : List PinD} {b : BarD} {bars : List BarD} (h : ReadF pins (b :: bars)) : ReadF pins (bars ++ [flipB b]) := by
 have g := h.g
 have nb := g.nb
 rw [List.map_cons, List.nodup_cons] at nb
 refine ⟨⟨g.np, ?_, fun c hc => ?_, g.sz, g.lp, ?_, g.lw⟩, h.n1, fun c hc => ?_, h.ns, h.one, h.two⟩
 ·rw [List.map_append, List.nodup_append]
  refine ⟨nb.2, by simp, fun a ha c hc e => nb.1 ?_⟩
  have : c = b.nm := by simpa [flipB] using hc
  rw [← this, ← e]
  exact ha
 ·rcases List.mem_append.mp hc with z | z
  ·exact g.ends c (List.mem_cons_of_mem _ z)
  ·rw [List.mem_singleton.mp z]
   obtain ⟨m1, m2, m3⟩ := g.ends b List.mem_cons_self
   exact ⟨m2, m1, m3.symm⟩
 ·have := g.lb
  simp at this ⊢
  omega
 ·rcases List.mem_append.mp hc with z | z
  ·exact h.n2 c (List.mem_cons_of_mem _ z)
  ·rw [List.mem_singleton.mp z]
   exact h.n2 b List.mem_cons_self
theorem read_of {pins : List PinD} {bars : List BarD} {xs : List Str} (gp : GoodP pins) (gb : GoodB pins bars) (lp : pins.length ≤ 6) (lb : bars.length ≤ 8) (n1 : ∀ p ∈ pins, p.nm ∈ xs) (n2 : ∀ b ∈ bars, b.nm ∈ xs) (nx : ∀ x ∈ xs, NameOk x) : ReadF pins bars := by
 refine ⟨goodF gp gb lp lb, fun p hp => nx _ (n1 p hp), fun b hb => nx _ (n2 b hb), gp.ns, fun p hp w e => ?_, fun p hp e => ?_⟩
 ·rcases gp.ws p hp with z | ⟨x, y, z, n, _⟩ | z
  ·rw [z] at e
   cases e
  ·rw [z] at e
   cases e
   exact n
  ·rw [z] at e
   cases e
 ·rcases gp.ws p hp with z | ⟨x, y, z, _⟩ | z
  ·rw [z] at e
   cases e
  ·rw [z] at e
   cases e
  ·exact z
theorem cut1 {x : V} {xs : List V} : cutV (x :: xs) (some 1) none = xs := by
 unfold cutV
 have h : HT.sIx (x :: xs).length 0 (some 1) = 1 := by
  simp only [HT.sIx, List.length_cons]
  split <;> omega
 have h2 : HT.sIx (x :: xs).length (x :: xs).length none = (x :: xs).length := rfl
 rw [h, h2, List.drop_succ_cons, List.drop_zero, List.length_cons, Nat.add_sub_cancel, List.take_length]
theorem filt_bars {b : BarD} {bars : List BarD} (nd : ((b :: bars).map (·.nm)).Nodup) : (((b :: bars).map fun b => (b.nm, b.one.nm, b.other.nm)).filter fun x => decide (x.1 ≠ b.nm)) = bars.map fun b => (b.nm, b.one.nm, b.other.nm) := by
 rw [List.map_cons, List.nodup_cons] at nd
 rw [List.map_cons, List.filter_cons, if_neg (by simp), List.filter_eq_self]
 intro x hx
 obtain ⟨c, hc, rfl⟩ := List.mem_map.mp hx
 have : c.nm ≠ b.nm := fun e => nd.1 (e ▸ List.mem_map.mpr ⟨c, hc, rfl⟩)
 simpa using this
theorem sc_law : FnScope ["_law_script", "_law_scale", "_law_names_here", "_law_pins_here", "_law_bars_here", "_law_frame_here", "_law_name", "_law_one", "_law_other", "_law_due", "_law_found", "_law_again"] ["_law_script"] (defScope s_law) := sq
theorem ok_law {f : Addr} {fd : FuncData} {C : Addr} (F : Fun K "law" "law" s_law f fd) (m_len : mg "len" = none) (m_isinstance : mg "isinstance" = none) (m_str : mg "str" = none)
  (G_ag : Fn P w K mg base (CXr P w) 1 "_law_cell_at" ["_law_script", "_law_k"] (spCell K)) (G_b7 : Fn P w K mg base (CXr P w) 1 "_law_names" ["_law_cell", "_law_many"] spNames)
  (G_bp : Fn P w K mg base (CXr P w) 35 "_law_pins" ["_law_script", "_law_names_here", "_law_scale"] (spPinsL K)) (G_bq : Fn P w K mg base (CXr P w) 2 "_law_bars" ["_law_script", "_law_names_here", "_law_pins_here"] (spBarsL K))
  (G_b8 : Fn P w K mg base (CXr P w) 4 "_law_frame" ["_law_pins_here", "_law_bars_here"] (spFrameL K C)) (G_br : Fn P w K mg base (CXr P w) 2 "_law_text" ["_law_pins_here", "_law_bars_here"] (spTextL K)) (G_c6 : Fn P w K mg base (CXr P w) 4 "_law_is" ["_law_frame_here", "_law_pins_here", "_law_bars_here"] (spIsL K C))
  (MTb : MtdOk P w K mg base (CXr P w) 1 C "take_bar" ["self", "name"] (spTakeBar K C)) (MPb : MtdOk P w K mg base (CXr P w) 3 C "put_bar" ["self", "name", "one", "other"] (spPutBar K C))
  (G_as : Fn P w K mg base (CXr P w) 4 "show_frame" ["F"] (spShowF K C)) (G_ar : Fn P w K mg base (CXr P w) 40 "read_frame" ["text"] (spRead K C)) :
  FnOk P w K mg base (CXr P w) 42 f fd ["_law_script"] (spLaw K) := by
 refine F.okG sc_law (fun vs H Q E h => ?_) (fun cdv A outer s H vs Q E hr h => ?_)
 ·obtain ⟨a, ns, rfl, _⟩ := h
  rfl
 obtain ⟨sA, ns, rfl, hS, hn, hb, q⟩ := h
 have tail6 : ∃ t, PSs (cxOf (CXr P w) P w K mg base ["_law_script", "_law_scale", "_law_names_here", "_law_pins_here", "_law_bars_here", "_law_frame_here", "_law_name", "_law_one", "_law_other", "_law_due", "_law_found", "_law_again"] "law" (defScope s_law) f cdv A outer s H E).nox ((defBody s_law).drop 6) t ∧ ∀ (H5 : Hp) (pins : List PinD) (bars : List BarD) (fA lP lB : Addr) (us vs : List V) (o1 o2 o6 o7 o8 : Option V), FrA K H5 C fA pins bars → H5 lP = some (.lst us) → Paired (PinR K H5) us pins → H5 lB = some (.lst vs) → Paired (BarR K H5) vs bars → ReadF pins bars →
   t { nx := fun _ H' => Q .non H', rt := Q } [some (.ref sA), o1, o2, some (.ref lP), some (.ref lB), some (.ref fA), o6, o7, o8, none, none, none] H5 := by
  refine ⟨_, (pss_cons (ps_set (i := 9) sc_law.nd rfl (Or.inl rfl) (pe_fn G_br hr.mo (pY P w) (pac (pv 3) (pac (pv 4) pa_nil)))) (pss_cons (ps_set (i := 10) sc_law.nd rfl (Or.inl rfl) (pe_fn G_as hr.mo (pY P w) (pac (pv 5) pa_nil))) (pss_cons (ps_if (PW.pt (pw_or (pt_not (pt_val (pe_callB call_isi rfl m_isinstance b_isinstance (pac (pv 10) (pac (pe_ty rfl m_str b_str) pa_nil))))) (pw_or1 (pt_cmpR op_ne (pv 10) (pv 9) (nomark _))))) (pss_one (ps_ret pe_bl)) pss_nil) (pss_cons (ps_set (i := 11) sc_law.nd rfl (Or.inl rfl) (pe_fn G_ar hr.mo (pY P w) (pac (pv 9) pa_nil))) (pss_cons (ps_set (i := 8) sc_law.nd rfl (Or.inl rfl) (pe_fn G_ar hr.mo (pY P w) (pac pe_str pa_nil))) (pss_cons (ps_if (PW.pt (pw_or (pt_not (pt_val (pe_fn G_c6 hr.mo (pY P w) (pac (pv 11) (pac (pv 3) (pac (pv 4) pa_nil)))))) (pw_or1 (pt_cmpR op_ne (pe_fn G_as hr.mo (pY P w) (pac (pv 11) pa_nil)) (pv 9) (nomark _))))) (pss_one (ps_ret pe_bl)) pss_nil) (pss_cons (ps_if (pt_cmpR op_ne (pe_fn G_as hr.mo (pY P w) (pac (pv 8) pa_nil)) pe_str (nomark _)) (pss_one (ps_ret pe_bl)) pss_nil) (pss_one (ps_ret (pe_and (pe_fn G_c6 hr.mo (pY P w) (pac (pv 5) (pac (pv 3) (pac (pv 4) pa_nil)))) (pe_one (pe_cmpR op_eq (pe_fn G_as hr.mo (pY P w) (pac (pe_fn G_ar hr.mo (pY P w) (pac pe_str pa_nil)) pa_nil)) pe_str (nomark _))))))))))))), ?_⟩
  intro H5 pins bars fA lP lB us vs o1 o2 o6 o7 o8 R hP pp hB pb rf
  have sn := rf.short
  have ppS : ∀ {H' : Hp}, Same H5 H' → Paired (PinR K H') us pins := fun s => Paired.mapP pp fun _ _ z => z.same s
  have pbS : ∀ {H' : Hp}, Same H5 H' → Paired (BarR K H') vs bars := fun s => Paired.mapP pb fun _ _ z => z.same s
  refine ⟨_, rfl, _, rfl, lP, lB, us, vs, pins, bars, rfl, hP, pp, hB, pb, rf.g, sn, fun H6 s6 => ?_⟩
  refine ⟨_, rfl, fA, pins, bars, rfl, R.same s6, rf.g, sn, fun H7 s7 => ?_⟩
  refine ⟨_, rfl, _, _, _, true, rfl, rfl, .str _, k_ss, _, rfl, ?_⟩
  refine ite2 (fun c => nomatch c) (fun _ => ?_)
  refine ⟨_, rfl, _, rfl, rfl, _, rfl, ?_⟩
  refine ite2 (fun c => by simp at c) (fun _ => ?_)
  have s57 := sm_tr s6 s7
  refine ⟨_, rfl, pins, bars, rfl, rf, fun a8 H8 s8 R8 => ?_⟩
  refine ⟨[demA, demB], [demC], by rw [dem_text]; rfl, dem_read, fun a9 H9 s9 R9 => ?_⟩
  have s59 := sm_tr s57 (sm_tr s8 s9)
  refine ⟨_, rfl, _, rfl, _, rfl, a8, lP, lB, us, vs, pins, bars, rfl, R8.same s9, s59 _ _ hP, ppS s59, s59 _ _ hB, pbS s59, rf.g, fun H10 s10 => ⟨_, rfl, ?_⟩⟩
  refine ite2 (fun c => nomatch c) (fun _ => ?_)
  refine ⟨_, rfl, a8, pins, bars, rfl, (R8.same s9).same s10, rf.g, sn, fun H11 s11 => ⟨_, rfl, rfl, _, rfl, ?_⟩⟩
  refine ite2 (fun c => by simp at c) (fun _ => ?_)
  have s911 := sm_tr s10 s11
  refine ⟨_, rfl, a9, [demA, demB], [demC], rfl, R9.same s911, dem_read.g, dem_read.short, fun H12 s12 => ⟨rfl, _, rfl, ?_⟩⟩
  rw [dem_text]
  refine ite2 (fun c => by simp at c) (fun _ => ?_)
  have s512 := sm_tr s59 (sm_tr s911 s12)
  refine ⟨_, rfl, _, rfl, _, rfl, fA, lP, lB, us, vs, pins, bars, rfl, R.same s512, s512 _ _ hP, ppS s512, s512 _ _ hB, pbS s512, rf.g, fun H13 s13 => ⟨_, rfl, ?_⟩⟩
  refine iteT ?_
  refine ⟨[], [], by rw [no_text]; rfl, no_read, fun a14 H14 s14 R14 => ?_⟩
  refine ⟨a14, [], [], rfl, R14, no_read.g, no_read.short, fun H15 s15 => ?_⟩
  rw [no_text]
  exact ⟨rfl, q H15⟩
 obtain ⟨t6, p6, q6⟩ := tail6
 refine ⟨_, (pss_cons (ps_set (i := 1) sc_law.nd rfl (Or.inl rfl) (pe_op op_mulB (pe_op op_add pe_int (pe_op op_modB (pe_op op_fdivB (pe_fn G_ag hr.mo (pY P w) (pac (pv 0) (pac pe_int pa_nil))) pe_int) pe_int)) (pe_op op_modB (pe_fn G_ag hr.mo (pY P w) (pac (pv 0) (pac pe_int pa_nil))) pe_int))) (pss_cons (ps_set (i := 2) sc_law.nd rfl (Or.inl rfl) (pe_fn G_b7 hr.mo (pY P w) (pac (pe_op op_fdivB (pe_fn G_ag hr.mo (pY P w) (pac (pv 0) (pac pe_int pa_nil))) pe_int) (pac pe_int pa_nil)))) (pss_cons (ps_set (i := 3) sc_law.nd rfl (Or.inl rfl) (pe_fn G_bp hr.mo (pY P w) (pac (pv 0) (pac (pv 2) (pac (pv 1) pa_nil))))) (pss_cons (ps_set (i := 4) sc_law.nd rfl (Or.inl rfl) (pe_fn G_bq hr.mo (pY P w) (pac (pv 0) (pac (pv 2) (pac (pv 3) pa_nil))))) (pss_cons (ps_set (i := 5) sc_law.nd rfl (Or.inl rfl) (pe_fn G_b8 hr.mo (pY P w) (pac (pv 3) (pac (pv 4) pa_nil)))) (pss_cons (ps_if (PW.pt (pw_and (pt_cmpR op_gt (pe_callB call_len_seq rfl m_len b_len (pac (pv 4) pa_nil)) pe_int (nomark _)) (pw_and1 (pt_cmpR op_eq (pe_op op_modB (pe_fn G_ag hr.mo (pY P w) (pac (pv 0) (pac pe_int pa_nil))) pe_int) pe_int (nomark _))))) (pss_cons (ps_asg (pe_lx (pv 4)) (pg_tup rfl (pgs_cons (pg_name (i := 6) sc_law.nd rfl (Or.inl rfl)) (pgs_cons (pg_name (i := 7) sc_law.nd rfl (Or.inl rfl)) (pgs_cons (pg_name (i := 8) sc_law.nd rfl (Or.inl rfl)) pgs_nil)))))
   (pss_cons (ps_expr (pe_mtd (k := 1) (pv 5) hr.mo (pY P w) (pac (pv 6) pa_nil)))
   (pss_cons (ps_expr (pe_mtd (k := 3) (pv 5) hr.mo (pY P w) (pac (pv 6) (pac (pe_tx (pv 8)) (pac (pe_tx (pv 7)) pa_nil)))))
   (pss_one (ps_set (i := 4) sc_law.nd rfl (Or.inl rfl) (pe_op op_cat (pe_slice sl_list (pv 4) (po_some pe_int) po_none) (pe_lst (pac (pe_tup (pac (pv 6) (pac (pv 8) (pac (pv 7) pa_nil)))) pa_nil)))))))) pss_nil) p6)))))), ?_⟩
 have sm : ∀ {z : Int}, -9000000000000000000 < z → z < 9000000000000000000 → intBits z ≤ 33554432 := fun h1 h2 => Nat.le_trans (intBits_le_64 (by omega) (by omega)) (by decide)
 refine ⟨_, rfl, sA, ns, 0, rfl, hS, hb, by decide, by decide, fun c1 b1 => ?_⟩
 have m1 := fmod_in (x := c1.fdiv 2) (m := 997) (by decide)
 refine ⟨_, _, rfl, rfl, ⟨by decide, by decide +kernel⟩, _, _, rfl, rfl, nz (by decide), _, _, rfl, rfl, ?_⟩
 refine ⟨_, rfl, sA, ns, 0, rfl, hS, hb, by decide, by decide, fun c2 b2 => ?_⟩
 have m2 := fmod_in (x := c2) (m := 2) (by decide)
 refine ⟨_, _, rfl, rfl, nz (by decide), _, _, rfl, rfl, ⟨sm (by omega) (by omega), sm (by omega) (by omega)⟩, ?_⟩
 obtain ⟨sc, esc, c0, c9⟩ : ∃ sc : Int, (1 + (c1.fdiv 2).fmod 997) * c2.fmod 2 = sc ∧ 0 ≤ sc ∧ sc ≤ 997 := by
  refine ⟨_, rfl, ?_⟩
  have h : c2.fmod 2 = 0 ∨ c2.fmod 2 = 1 := by omega
  rcases h with h | h <;> rw [h] <;> omega
 dsimp only
 rw [esc]
 refine ⟨_, rfl, sA, ns, 0, rfl, hS, hb, by decide, by decide, fun c3 b3 => ?_⟩
 refine ⟨_, _, rfl, rfl, ⟨by decide, by decide +kernel⟩, _, rfl, fun nA xs H1 lx nx nk s1 nn en => ?_⟩
 refine ⟨_, rfl, _, rfl, _, rfl, sA, nA, ns, xs, sc, rfl, s1.seq hS, hb, en, lx, nx, c0, c9, fun lP us pins H2 s2 nP eP pp gp lp n1 => ?_⟩
 have s12 := sm_tr s1 s2
 refine ⟨_, rfl, _, rfl, _, rfl, sA, nA, lP, ns, xs, us, pins, rfl, s12.seq hS, hb, s2 _ _ en, lx, nx, eP, pp, gp.np, lp, fun lB vs bars H3 s3 nB eB pb gb lb n2 => ?_⟩
 have s13 := sm_tr s12 s3
 have pp3 : Paired (PinR K H3) us pins := Paired.mapP pp fun _ _ z => z.same s3
 refine ⟨_, rfl, _, rfl, lP, lB, us, vs, pins, bars, rfl, s3 _ _ eP, pp3, eB, pb, gp, gb, lp, lb, fun fA H4 s4 R => ?_⟩
 have s14 := sm_tr s13 s4
 have rf := read_of gp gb lp lb n1 n2 nk
 have eP4 := s4 _ _ (s3 _ _ eP)
 have eB4 := s4 _ _ eB
 have pp4 : Paired (PinR K H4) us pins := Paired.mapP pp3 fun _ _ z => z.same s4
 have pb4 : Paired (BarR K H4) vs bars := Paired.mapP pb fun _ _ z => z.same s4
 have lv : vs.length = bars.length := Paired.length pb
 refine ⟨_, rfl, lB, _, rfl, .inl (SqL.of eB4), _, _, rfl, rfl, _, rfl, ?_⟩
 refine ite2 (fun c => ?_) (fun _ => iteF (q6 H4 pins bars fA lP lB us vs _ _ _ _ _ R eP4 pp4 eB4 pb4 rf))
 have pos : 0 < vs.length := by
  have c' : (0 : Int) < (vs.length : Int) := of_decide_eq_true c
  omega
 refine ⟨_, rfl, sA, ns, 18, rfl, s14.seq hS, hb, by decide, by decide, fun c5 b5 => ?_⟩
 refine ⟨_, _, rfl, rfl, nz (by decide), rfl, _, rfl, ?_⟩
 refine ite2 (fun _ => ?_) (fun _ => q6 H4 pins bars fA lP lB us vs _ _ _ _ _ R eP4 pp4 eB4 pb4 rf)
 match vs, bars, pos, pb4, eB4, rf, R with
 | v0 :: vs, b :: bars, _, .cons hb0 pb4, eB4, rf, R =>
 have g := rf.g
 have nb := g.nb
 rw [List.map_cons, List.nodup_cons] at nb
 obtain ⟨e1, e2, e3⟩ := g.ends b List.mem_cons_self
 have hb0' := hb0
 obtain ⟨ta, u1, u2, rfl, h1, hu1, hu2⟩ := hb0'
 refine ⟨_, rfl, lB, _, _, _, rfl, rfl, SqL.of eB4, at_0, ta, _, rfl, h1, rfl, _, _, rfl, _, _, rfl, _, _, rfl, rfl, ?_⟩
 obtain ⟨dx, pP, pW, pB, kP, kW, kB, F4, W4⟩ := R.ex
 refine ⟨_, rfl, fA, C, dx, _, _, _, rfl, F4.obj, rfl, MTb, _, rfl, fA, dx, pP, pW, pB, _, _, kP, kW, kB, b.nm, rfl, F4, by rw [List.map_map]; exact List.mem_cons_self, fun H5 kB5 k5 F5 => ?_⟩
 rw [filt_bars g.nb] at F5
 have q1 := ks_pin k5 F4.br hu1
 have q2 := ks_pin k5 F4.br hu2
 have q1' := q1
 have q2' := q2
 obtain ⟨a1, l1, sv1, us1, rfl, h11, _⟩ := q1'
 obtain ⟨a2, l2, sv2, us2, rfl, h21, _⟩ := q2'
 refine ⟨_, rfl, fA, C, dx, _, _, _, rfl, F5.obj, rfl, MPb, _, rfl, _, rfl, a2, _, _, _, rfl, rfl, h21, rfl, _, rfl, a1, _, _, _, rfl, rfl, h11, rfl, ?_⟩
 refine ⟨fA, dx, pP, pW, pB, _, _, kP, kW, kB5, b.nm, b.other.nm, b.one.nm, rfl, F5, ?_, ?_, ?_, e3.symm, ?_, fun H6 kB6 k6 F6 => ?_⟩
 ·rw [List.map_map]
  exact nb.1
 ·rw [List.map_map]
  exact List.mem_map.mpr ⟨_, e2, rfl⟩
 ·rw [List.map_map]
  exact List.mem_map.mpr ⟨_, e1, rfl⟩
 ·rw [List.length_map]
  have := g.lb
  simp at this
  omega
 have eB6 := ks_l k6 F5.br (ks_l k5 F4.br eB4)
 have eP6 := ks_l k6 F5.br (ks_l k5 F4.br eP4)
 have W6 := ks_ways k6 F5.br (ks_ways k5 F4.br W4)
 refine ⟨_, rfl, 1, rfl, lB, _, rfl, SqL.of eB6, ?_⟩
 rw [cut1]
 intro l7 n7; generalize eX : upd _ l7 _ = H7; have ⟨s7, e7⟩ := nw n7 eX; clear eX
 refine ⟨_, rfl, _, rfl, _, rfl, (by show 3 ≤ sizeLine; decide), ?_⟩
 intro t8 n8; generalize eX : upd _ t8 _ = H8; have ⟨s8, e8⟩ := nw n8 eX; clear eX
 refine ⟨(by show 1 ≤ sizeLine; decide), ?_⟩
 intro l9 n9; generalize eX : upd _ l9 _ = H9; have ⟨s9, e9⟩ := nw n9 eX; clear eX
 have lbs := g.lb
 refine ⟨l7, l9, _, _, rfl, rfl, s9 _ _ (s8 _ _ e7), e9, Nat.le_trans (show vs.length + 1 ≤ 1000 by simp at lv lbs; omega) (by decide), ?_⟩
 intro l10 n10; generalize eX : upd _ l10 _ = H10; have ⟨s10, e10⟩ := nw n10 eX; clear eX
 have s610 := sm_tr s7 (sm_tr s8 (sm_tr s9 s10))
 have s810 := sm_tr s9 s10
 refine q6 H10 pins (bars ++ [flipB b]) fA lP l10 us (vs ++ [.ref t8]) _ _ _ _ _ ⟨⟨dx, pP, pW, pB, kP, kW, kB6, ?_, W6.same s610⟩⟩ (s610 _ _ eP6) (Paired.mapP pp4 fun _ _ z => (ks_pin k6 F5.br (ks_pin k5 F4.br z)).same s610) e10 ?_ (flip_read rf)
 ·rw [List.map_append]
  exact F6.same s610
 ·refine paired_snoc (Paired.mapP pb4 fun _ _ z => (ks_bar k6 F5.br (ks_bar k5 F4.br z)).same s610) ⟨t8, .ref a2, .ref a1, rfl, Ty.Same.seqT s810 (SqT.of e8), (ks_pin k6 F5.br q2).same s610, (ks_pin k6 F5.br q1).same s610⟩
end
theorem all_mk {l : PySem.W.OpenLaw} {w : World} {K : Frag} {h : Heap} {mg : Str → Option Value} {fa : Addr} (X : K.In h) (G : h.Ns mainGlobals mg) (hfa : mg "law" = some (.ref fa))
  (a_bh : nsIn K mainGlobals "ratio_of" = some (some (.ref f_bh))) (l_bh : K.lookup f_bh = some ⟨oc_bh, od_bh, .func (fnOf "ratio_of" "ratio_of" (defArgs s_bh) (defBody s_bh) (defScope s_bh) (.ref td_bh) kV_bh dc_bh pm_bh an_bh cd_bh ct_bh), sl_bh⟩) (c_bh : codeIn K cd_bh "ratio_of" = true) (k_bh : keepIn K (.ref f_bh) = true) (t_bh : K.lookup td_bh = some ⟨tc_bh, tdd_bh, .seq #[.int 1 tk_bh] tn_bh, tsl_bh⟩) (a_c3 : nsIn K mainGlobals "sum_of" = some (some (.ref f_c3))) (l_c3 : K.lookup f_c3 = some ⟨oc_c3, od_c3, .func (fnOf "sum_of" "sum_of" (defArgs s_c3) (defBody s_c3) (defScope s_c3) .none kV_c3 dc_c3 pm_c3 an_c3 cd_c3 ct_c3), sl_c3⟩) (c_c3 : codeIn K cd_c3 "sum_of" = true) (k_c3 : keepIn K (.ref f_c3) = true) (a_bi : nsIn K mainGlobals "is_whole" = some (some (.ref f_bi))) (l_bi : K.lookup f_bi = some ⟨oc_bi, od_bi, .func (fnOf "is_whole" "is_whole" (defArgs s_bi) (defBody s_bi) (defScope s_bi) .none kV_bi dc_bi pm_bi an_bi cd_bi ct_bi), sl_bi⟩) (c_bi : codeIn K cd_bi "is_whole" = true) (k_bi : keepIn K (.ref f_bi) = true) (a_ad : nsIn K mainGlobals "lowest_terms" = some (some (.ref f_ad))) (l_ad : K.lookup f_ad = some ⟨oc_ad, od_ad, .func (fnOf "lowest_terms" "lowest_terms" (defArgs s_ad) (defBody s_ad) (defScope s_ad) .none kV_ad dc_ad pm_ad an_ad cd_ad ct_ad), sl_ad⟩) (c_ad : codeIn K cd_ad "lowest_terms" = true) (k_ad : keepIn K (.ref f_ad) = true) (a_a3 : nsIn K mainGlobals "greatest_shared" = some (some (.ref f_a3))) (l_a3 : K.lookup f_a3 = some ⟨oc_a3, od_a3, .func (fnOf "greatest_shared" "greatest_shared" (defArgs s_a3) (defBody s_a3) (defScope s_a3) .none kV_a3 dc_a3 pm_a3 an_a3 cd_a3 ct_a3), sl_a3⟩) (c_a3 : codeIn K cd_a3 "greatest_shared" = true) (k_a3 : keepIn K (.ref f_a3) = true) (a_an : nsIn K mainGlobals "show_ratio" = some (some (.ref f_an))) (l_an : K.lookup f_an = some ⟨oc_an, od_an, .func (fnOf "show_ratio" "show_ratio" (defArgs s_an) (defBody s_an) (defScope s_an) .none kV_an dc_an pm_an an_an cd_an ct_an), sl_an⟩) (c_an : codeIn K cd_an "show_ratio" = true) (k_an : keepIn K (.ref f_an) = true) (a_ao : nsIn K mainGlobals "read_ratio" = some (some (.ref f_ao))) (l_ao : K.lookup f_ao = some ⟨oc_ao, od_ao, .func (fnOf "read_ratio" "read_ratio" (defArgs s_ao) (defBody s_ao) (defScope s_ao) .none kV_ao dc_ao pm_ao an_ao cd_ao ct_ao), sl_ao⟩) (c_ao : codeIn K cd_ao "read_ratio" = true) (k_ao : keepIn K (.ref f_ao) = true) (a_ap : nsIn K mainGlobals "read_whole" = some (some (.ref f_ap))) (l_ap : K.lookup f_ap = some ⟨oc_ap, od_ap, .func (fnOf "read_whole" "read_whole" (defArgs s_ap) (defBody s_ap) (defScope s_ap) .none kV_ap dc_ap pm_ap an_ap cd_ap ct_ap), sl_ap⟩) (c_ap : codeIn K cd_ap "read_whole" = true) (k_ap : keepIn K (.ref f_ap) = true) (a_bj : nsIn K mainGlobals "pair_sum" = some (some (.ref f_bj))) (l_bj : K.lookup f_bj = some ⟨oc_bj, od_bj, .func (fnOf "pair_sum" "pair_sum" (defArgs s_bj) (defBody s_bj) (defScope s_bj) .none kV_bj dc_bj pm_bj an_bj cd_bj ct_bj), sl_bj⟩) (c_bj : codeIn K cd_bj "pair_sum" = true) (k_bj : keepIn K (.ref f_bj) = true) (a_aq : nsIn K mainGlobals "laid_frame" = some (some (.ref f_aq))) (l_aq : K.lookup f_aq = some ⟨oc_aq, od_aq, .func (fnOf "laid_frame" "laid_frame" (defArgs s_aq) (defBody s_aq) (defScope s_aq) .none kV_aq dc_aq pm_aq an_aq cd_aq ct_aq), sl_aq⟩) (c_aq : codeIn K cd_aq "laid_frame" = true) (k_aq : keepIn K (.ref f_aq) = true) (a_bk : nsIn K mainGlobals "lay_rows" = some (some (.ref f_bk))) (l_bk : K.lookup f_bk = some ⟨oc_bk, od_bk, .func (fnOf "lay_rows" "lay_rows" (defArgs s_bk) (defBody s_bk) (defScope s_bk) .none kV_bk dc_bk pm_bk an_bk cd_bk ct_bk), sl_bk⟩) (c_bk : codeIn K cd_bk "lay_rows" = true) (k_bk : keepIn K (.ref f_bk) = true) (a_bw : nsIn K mainGlobals "lay_pin" = some (some (.ref f_bw))) (l_bw : K.lookup f_bw = some ⟨oc_bw, od_bw, .func (fnOf "lay_pin" "lay_pin" (defArgs s_bw) (defBody s_bw) (defScope s_bw) .none kV_bw dc_bw pm_bw an_bw cd_bw ct_bw), sl_bw⟩) (c_bw : codeIn K cd_bw "lay_pin" = true) (k_bw : keepIn K (.ref f_bw) = true) (a_bx : nsIn K mainGlobals "lay_bar" = some (some (.ref f_bx))) (l_bx : K.lookup f_bx = some ⟨oc_bx, od_bx, .func (fnOf "lay_bar" "lay_bar" (defArgs s_bx) (defBody s_bx) (defScope s_bx) .none kV_bx dc_bx pm_bx an_bx cd_bx ct_bx), sl_bx⟩) (c_bx : codeIn K cd_bx "lay_bar" = true) (k_bx : keepIn K (.ref f_bx) = true) (a_c4 : nsIn K mainGlobals "pin_at" = some (some (.ref f_c4))) (l_c4 : K.lookup f_c4 = some ⟨oc_c4, od_c4, .func (fnOf "pin_at" "pin_at" (defArgs s_c4) (defBody s_c4) (defScope s_c4) .none kV_c4 dc_c4 pm_c4 an_c4 cd_c4 ct_c4), sl_c4⟩) (c_c4 : codeIn K cd_c4 "pin_at" = true) (k_c4 : keepIn K (.ref f_c4) = true) (a_b4 : nsIn K mainGlobals "hold_from" = some (some (.ref f_b4))) (l_b4 : K.lookup f_b4 = some ⟨oc_b4, od_b4, .func (fnOf "hold_from" "hold_from" (defArgs s_b4) (defBody s_b4) (defScope s_b4) .none kV_b4 dc_b4 pm_b4 an_b4 cd_b4 ct_b4), sl_b4⟩) (c_b4 : codeIn K cd_b4 "hold_from" = true) (k_b4 : keepIn K (.ref f_b4) = true) (a_bl : nsIn K mainGlobals "read_row" = some (some (.ref f_bl))) (l_bl : K.lookup f_bl = some ⟨oc_bl, od_bl, .func (fnOf "read_row" "read_row" (defArgs s_bl) (defBody s_bl) (defScope s_bl) .none kV_bl dc_bl pm_bl an_bl cd_bl ct_bl), sl_bl⟩) (c_bl : codeIn K cd_bl "read_row" = true) (k_bl : keepIn K (.ref f_bl) = true) (a_c5 : nsIn K mainGlobals "fitted" = some (some (.ref f_c5))) (l_c5 : K.lookup f_c5 = some ⟨oc_c5, od_c5, .func (fnOf "fitted" "fitted" (defArgs s_c5) (defBody s_c5) (defScope s_c5) .none kV_c5 dc_c5 pm_c5 an_c5 cd_c5 ct_c5), sl_c5⟩) (c_c5 : codeIn K cd_c5 "fitted" = true) (k_c5 : keepIn K (.ref f_c5) = true) (a_bm : nsIn K mainGlobals "value_of" = some (some (.ref f_bm))) (l_bm : K.lookup f_bm = some ⟨oc_bm, od_bm, .func (fnOf "value_of" "value_of" (defArgs s_bm) (defBody s_bm) (defScope s_bm) .none kV_bm dc_bm pm_bm an_bm cd_bm ct_bm), sl_bm⟩) (c_bm : codeIn K cd_bm "value_of" = true) (k_bm : keepIn K (.ref f_bm) = true) (a_by : nsIn K mainGlobals "is_name" = some (some (.ref f_by))) (l_by : K.lookup f_by = some ⟨oc_by, od_by, .func (fnOf "is_name" "is_name" (defArgs s_by) (defBody s_by) (defScope s_by) .none kV_by dc_by pm_by an_by cd_by ct_by), sl_by⟩) (c_by : codeIn K cd_by "is_name" = true) (k_by : keepIn K (.ref f_by) = true) (a_b5 : nsIn K mainGlobals "number_of" = some (some (.ref f_b5))) (l_b5 : K.lookup f_b5 = some ⟨oc_b5, od_b5, .func (fnOf "number_of" "number_of" (defArgs s_b5) (defBody s_b5) (defScope s_b5) .none kV_b5 dc_b5 pm_b5 an_b5 cd_b5 ct_b5), sl_b5⟩) (c_b5 : codeIn K cd_b5 "number_of" = true) (k_b5 : keepIn K (.ref f_b5) = true) (a_ar : nsIn K mainGlobals "read_frame" = some (some (.ref f_ar))) (l_ar : K.lookup f_ar = some ⟨oc_ar, od_ar, .func (fnOf "read_frame" "read_frame" (defArgs s_ar) (defBody s_ar) (defScope s_ar) .none kV_ar dc_ar pm_ar an_ar cd_ar ct_ar), sl_ar⟩) (c_ar : codeIn K cd_ar "read_frame" = true) (k_ar : keepIn K (.ref f_ar) = true) (a_as : nsIn K mainGlobals "show_frame" = some (some (.ref f_as))) (l_as : K.lookup f_as = some ⟨oc_as, od_as, .func (fnOf "show_frame" "show_frame" (defArgs s_as) (defBody s_as) (defScope s_as) .none kV_as dc_as pm_as an_as cd_as ct_as), sl_as⟩) (c_as : codeIn K cd_as "show_frame" = true) (k_as : keepIn K (.ref f_as) = true) (a_at : nsIn K mainGlobals "pair_words" = some (some (.ref f_at))) (l_at : K.lookup f_at = some ⟨oc_at, od_at, .func (fnOf "pair_words" "pair_words" (defArgs s_at) (defBody s_at) (defScope s_at) .none kV_at dc_at pm_at an_at cd_at ct_at), sl_at⟩) (c_at : codeIn K cd_at "pair_words" = true) (k_at : keepIn K (.ref f_at) = true) (a_au : nsIn K mainGlobals "hold_words" = some (some (.ref f_au))) (l_au : K.lookup f_au = some ⟨oc_au, od_au, .func (fnOf "hold_words" "hold_words" (defArgs s_au) (defBody s_au) (defScope s_au) .none kV_au dc_au pm_au an_au cd_au ct_au), sl_au⟩) (c_au : codeIn K cd_au "hold_words" = true) (k_au : keepIn K (.ref f_au) = true) (a_ag : nsIn K mainGlobals "_law_cell_at" = some (some (.ref f_ag))) (l_ag : K.lookup f_ag = some ⟨oc_ag, od_ag, .func (fnOf "_law_cell_at" "_law_cell_at" (defArgs s_ag) (defBody s_ag) (defScope s_ag) .none kV_ag dc_ag pm_ag an_ag cd_ag ct_ag), sl_ag⟩) (c_ag : codeIn K cd_ag "_law_cell_at" = true) (k_ag : keepIn K (.ref f_ag) = true) (a_bn : nsIn K mainGlobals "_law_part" = some (some (.ref f_bn))) (l_bn : K.lookup f_bn = some ⟨oc_bn, od_bn, .func (fnOf "_law_part" "_law_part" (defArgs s_bn) (defBody s_bn) (defScope s_bn) .none kV_bn dc_bn pm_bn an_bn cd_bn ct_bn), sl_bn⟩) (c_bn : codeIn K cd_bn "_law_part" = true) (k_bn : keepIn K (.ref f_bn) = true) (a_av : nsIn K mainGlobals "_law_lowest" = some (some (.ref f_av))) (l_av : K.lookup f_av = some ⟨oc_av, od_av, .func (fnOf "_law_lowest" "_law_lowest" (defArgs s_av) (defBody s_av) (defScope s_av) .none kV_av dc_av pm_av an_av cd_av ct_av), sl_av⟩) (c_av : codeIn K cd_av "_law_lowest" = true) (k_av : keepIn K (.ref f_av) = true) (a_b6 : nsIn K mainGlobals "_law_drawn" = some (some (.ref f_b6))) (l_b6 : K.lookup f_b6 = some ⟨oc_b6, od_b6, .func (fnOf "_law_drawn" "_law_drawn" (defArgs s_b6) (defBody s_b6) (defScope s_b6) .none kV_b6 dc_b6 pm_b6 an_b6 cd_b6 ct_b6), sl_b6⟩) (c_b6 : codeIn K cd_b6 "_law_drawn" = true) (k_b6 : keepIn K (.ref f_b6) = true) (a_b7 : nsIn K mainGlobals "_law_names" = some (some (.ref f_b7))) (l_b7 : K.lookup f_b7 = some ⟨oc_b7, od_b7, .func (fnOf "_law_names" "_law_names" (defArgs s_b7) (defBody s_b7) (defScope s_b7) .none kV_b7 dc_b7 pm_b7 an_b7 cd_b7 ct_b7), sl_b7⟩) (c_b7 : codeIn K cd_b7 "_law_names" = true) (k_b7 : keepIn K (.ref f_b7) = true) (a_bo : nsIn K mainGlobals "_law_ways" = some (some (.ref f_bo))) (l_bo : K.lookup f_bo = some ⟨oc_bo, od_bo, .func (fnOf "_law_ways" "_law_ways" (defArgs s_bo) (defBody s_bo) (defScope s_bo) .none kV_bo dc_bo pm_bo an_bo cd_bo ct_bo), sl_bo⟩) (c_bo : codeIn K cd_bo "_law_ways" = true) (k_bo : keepIn K (.ref f_bo) = true) (a_bp : nsIn K mainGlobals "_law_pins" = some (some (.ref f_bp))) (l_bp : K.lookup f_bp = some ⟨oc_bp, od_bp, .func (fnOf "_law_pins" "_law_pins" (defArgs s_bp) (defBody s_bp) (defScope s_bp) .none kV_bp dc_bp pm_bp an_bp cd_bp ct_bp), sl_bp⟩) (c_bp : codeIn K cd_bp "_law_pins" = true) (k_bp : keepIn K (.ref f_bp) = true) (a_bq : nsIn K mainGlobals "_law_bars" = some (some (.ref f_bq))) (l_bq : K.lookup f_bq = some ⟨oc_bq, od_bq, .func (fnOf "_law_bars" "_law_bars" (defArgs s_bq) (defBody s_bq) (defScope s_bq) .none kV_bq dc_bq pm_bq an_bq cd_bq ct_bq), sl_bq⟩) (c_bq : codeIn K cd_bq "_law_bars" = true) (k_bq : keepIn K (.ref f_bq) = true) (a_b8 : nsIn K mainGlobals "_law_frame" = some (some (.ref f_b8))) (l_b8 : K.lookup f_b8 = some ⟨oc_b8, od_b8, .func (fnOf "_law_frame" "_law_frame" (defArgs s_b8) (defBody s_b8) (defScope s_b8) .none kV_b8 dc_b8 pm_b8 an_b8 cd_b8 ct_b8), sl_b8⟩) (c_b8 : codeIn K cd_b8 "_law_frame" = true) (k_b8 : keepIn K (.ref f_b8) = true) (a_ah : nsIn K mainGlobals "_law_text_of" = some (some (.ref f_ah))) (l_ah : K.lookup f_ah = some ⟨oc_ah, od_ah, .func (fnOf "_law_text_of" "_law_text_of" (defArgs s_ah) (defBody s_ah) (defScope s_ah) .none kV_ah dc_ah pm_ah an_ah cd_ah ct_ah), sl_ah⟩) (c_ah : codeIn K cd_ah "_law_text_of" = true) (k_ah : keepIn K (.ref f_ah) = true) (a_br : nsIn K mainGlobals "_law_text" = some (some (.ref f_br))) (l_br : K.lookup f_br = some ⟨oc_br, od_br, .func (fnOf "_law_text" "_law_text" (defArgs s_br) (defBody s_br) (defScope s_br) .none kV_br dc_br pm_br an_br cd_br ct_br), sl_br⟩) (c_br : codeIn K cd_br "_law_text" = true) (k_br : keepIn K (.ref f_br) = true) (a_c6 : nsIn K mainGlobals "_law_is" = some (some (.ref f_c6))) (l_c6 : K.lookup f_c6 = some ⟨oc_c6, od_c6, .func (fnOf "_law_is" "_law_is" (defArgs s_c6) (defBody s_c6) (defScope s_c6) .none kV_c6 dc_c6 pm_c6 an_c6 cd_c6 ct_c6), sl_c6⟩) (c_c6 : codeIn K cd_c6 "_law_is" = true) (k_c6 : keepIn K (.ref f_c6) = true) (a_law : nsIn K mainGlobals "law" = some (some (.ref f_law))) (l_law : K.lookup f_law = some ⟨oc_law, od_law, .func (fnOf "law" "law" (defArgs s_law) (defBody s_law) (defScope s_law) .none kV_law dc_law pm_law an_law cd_law ct_law), sl_law⟩) (c_law : codeIn K cd_law "law" = true) (k_law : keepIn K (.ref f_law) = true) (a_ba : nsIn K mainGlobals "MOST_PINS" = some (some (.int 24 tk_ba))) (a_bb : nsIn K mainGlobals "MOST_BARS" = some (some (.int 60 tk_bb))) (a_bc : nsIn K mainGlobals "MOST_ROWS" = some (some (.int 500 tk_bc))) (a_af : nsIn K mainGlobals "LONGEST_NAME" = some (some (.int 20 tk_af))) (a_ac : nsIn K mainGlobals "GREATEST_MANY" = some (some (.int 60 tk_ac))) (a_c1 : nsIn K mainGlobals "LETTERS" = some (some (.str "abcdefghijklmnopqrstuvwxyz" tk_c1))) (a_bz : nsIn K mainGlobals "FIGURES" = some (some (.str "0123456789" tk_bz))) (a_ae : nsIn K mainGlobals "MOST_FIGURES" = some (some (.int 60 tk_ae))) (a_c7 : nsIn K mainGlobals "NOUGHT" = some (some (.ref c_c7))) (t_c7 : K.lookup c_c7 = some ⟨.type "tuple", cd_c7, .seq #[.int 0 ck0_c7, .int 1 ck1_c7] cn_c7, cs_c7⟩) (a_c0 : nsIn K mainGlobals "NO_MOVE" = some (some (.ref c_c0))) (t_c0 : K.lookup c_c0 = some ⟨.type "tuple", cd_c0, .seq #[.ref c_bd, .ref c_be] cn_c0, cs_c0⟩) (t_bd : K.lookup c_bd = some ⟨.type "tuple", cd_bd, .seq #[.int 0 ck0_bd, .int 1 ck1_bd] cn_bd, cs_bd⟩) (t_be : K.lookup c_be = some ⟨.type "tuple", cd_be, .seq #[.int 0 ck0_be, .int 1 ck1_be] cn_be, cs_be⟩) (a_cd : nsIn K mainGlobals "FORMS" = some (some (.ref c_cd))) (t_cd : K.lookup c_cd = some ⟨.type "tuple", cd_cd, .seq #[.str "pin NAME NUMBER NUMBER" ck0_cd, .str "pin NAME NUMBER NUMBER fixed" ck1_cd, .str "pin NAME NUMBER NUMBER roller NUMBER NUMBER" ck2_cd, .str "bar NAME NAME NAME" ck3_cd, .str "piece NAME" ck4_cd, .str "end" ck5_cd, .str "lay NAME NAME NUMBER NUMBER" ck6_cd, .str "lay NAME NAME NUMBER NUMBER MANY NUMBER NUMBER" ck7_cd] cn_cd, cs_cd⟩) (z_ValueError : nsIn K mainGlobals "ValueError" = some none) (z_abs : nsIn K mainGlobals "abs" = some none) (z_all : nsIn K mainGlobals "all" = some none) (z_bool : nsIn K mainGlobals "bool" = some none) (z_enumerate : nsIn K mainGlobals "enumerate" = some none) (z_int : nsIn K mainGlobals "int" = some none) (z_isinstance : nsIn K mainGlobals "isinstance" = some none) (z_len : nsIn K mainGlobals "len" = some none) (z_list : nsIn K mainGlobals "list" = some none) (z_range : nsIn K mainGlobals "range" = some none) (z_str : nsIn K mainGlobals "str" = some none) (z_zip : nsIn K mainGlobals "zip" = some none) (a_bf : nsIn K mainGlobals "YardError" = some (some (.ref C_bf))) (a_bs : nsIn K mainGlobals "NoNumber" = some (some (.ref C_bs))) (a_c8 : nsIn K mainGlobals "NoText" = some (some (.ref C_c8))) (a_ce : nsIn K mainGlobals "NoWay" = some (some (.ref C_ce))) (a_bt : nsIn K mainGlobals "PinThere" = some (some (.ref C_bt))) (a_bg : nsIn K mainGlobals "SpotTaken" = some (some (.ref C_bg))) (a_cf : nsIn K mainGlobals "NoPin" = some (some (.ref C_cf))) (a_bu : nsIn K mainGlobals "BarThere" = some (some (.ref C_bu))) (a_cg : nsIn K mainGlobals "NoBar" = some (some (.ref C_cg))) (a_bv : nsIn K mainGlobals "NoLength" = some (some (.ref C_bv))) (a_c2 : nsIn K mainGlobals "TooMany" = some (some (.ref C_c2))) (a_c9 : nsIn K mainGlobals "NoLine" = some (some (.ref C_c9))) (a_ch : nsIn K mainGlobals "Frame" = some (some (.ref C_ch))) (a_ck : nsIn K mainGlobals "Hold" = some (some (.ref C_ck))) (a_ca : nsIn K mainGlobals "Roller" = some (some (.ref C_ca))) (a_ci : nsIn K mainGlobals "Fixed" = some (some (.ref C_ci))) (a_cb : nsIn K mainGlobals "Ground" = some (some (.ref C_cb))) (a_cc : nsIn K mainGlobals "Laying" = some (some (.ref C_cc))) (a_cj : nsIn K mainGlobals "Sheet" = some (some (.ref C_cj))) (pg_ch : PySem.W.plainGet K C_ch Str.empty = true) (hd_ch : PySem.W.hasDictIn K C_ch = true) (po_ch : PySem.W.plainOver K C_ch = true) (sa_ch : PySem.W.findIn K (.ref C_ch) "__setattr__" = some (some (.builtin "object.__setattr__"))) (mk_ch : PySem.W.makesIn K C_ch = true) (kc_ch : keepIn K (.ref C_ch) = true) (a_aw : PySem.W.findIn K (.ref C_ch) "__init__" = some (some (.ref f_aw))) (i_aw : PySem.W.isFn K (.ref f_aw) = true) (l_aw : K.lookup f_aw = some ⟨oc_aw, od_aw, .func (fnOf "__init__" "Frame.__init__" (defArgs s_aw) (defBody s_aw) (defScope s_aw) .none kV_aw dc_aw pm_aw an_aw cd_aw ct_aw), sl_aw⟩) (c_aw : codeIn K cd_aw "Frame.__init__" = true) (k_aw : keepIn K (.ref f_aw) = true) (a_aa : PySem.W.findIn K (.ref C_ch) "put_pin" = some (some (.ref f_aa))) (i_aa : PySem.W.isFn K (.ref f_aa) = true) (l_aa : K.lookup f_aa = some ⟨oc_aa, od_aa, .func (fnOf "put_pin" "Frame.put_pin" (defArgs s_aa) (defBody s_aa) (defScope s_aa) (.ref td_aa) kV_aa dc_aa pm_aa an_aa cd_aa ct_aa), sl_aa⟩) (t_aa : K.lookup td_aa = some ⟨tc_aa, tdd_aa, .seq #[.none] tn_aa, tsl_aa⟩) (c_aa : codeIn K cd_aa "Frame.put_pin" = true) (k_aa : keepIn K (.ref f_aa) = true) (a_ab : PySem.W.findIn K (.ref C_ch) "put_bar" = some (some (.ref f_ab))) (i_ab : PySem.W.isFn K (.ref f_ab) = true) (l_ab : K.lookup f_ab = some ⟨oc_ab, od_ab, .func (fnOf "put_bar" "Frame.put_bar" (defArgs s_ab) (defBody s_ab) (defScope s_ab) .none kV_ab dc_ab pm_ab an_ab cd_ab ct_ab), sl_ab⟩) (c_ab : codeIn K cd_ab "Frame.put_bar" = true) (k_ab : keepIn K (.ref f_ab) = true) (a_a4 : PySem.W.findIn K (.ref C_ch) "check_bar" = some (some (.ref f_a4))) (i_a4 : PySem.W.isFn K (.ref f_a4) = true) (l_a4 : K.lookup f_a4 = some ⟨oc_a4, od_a4, .func (fnOf "check_bar" "Frame.check_bar" (defArgs s_a4) (defBody s_a4) (defScope s_a4) .none kV_a4 dc_a4 pm_a4 an_a4 cd_a4 ct_a4), sl_a4⟩) (c_a4 : codeIn K cd_a4 "Frame.check_bar" = true) (k_a4 : keepIn K (.ref f_a4) = true) (a_a5 : PySem.W.findIn K (.ref C_ch) "check_pin" = some (some (.ref f_a5))) (i_a5 : PySem.W.isFn K (.ref f_a5) = true) (l_a5 : K.lookup f_a5 = some ⟨oc_a5, od_a5, .func (fnOf "check_pin" "Frame.check_pin" (defArgs s_a5) (defBody s_a5) (defScope s_a5) .none kV_a5 dc_a5 pm_a5 an_a5 cd_a5 ct_a5), sl_a5⟩) (c_a5 : codeIn K cd_a5 "Frame.check_pin" = true) (k_a5 : keepIn K (.ref f_a5) = true) (a_a8 : PySem.W.findIn K (.ref C_ch) "take_bar" = some (some (.ref f_a8))) (i_a8 : PySem.W.isFn K (.ref f_a8) = true) (l_a8 : K.lookup f_a8 = some ⟨oc_a8, od_a8, .func (fnOf "take_bar" "Frame.take_bar" (defArgs s_a8) (defBody s_a8) (defScope s_a8) .none kV_a8 dc_a8 pm_a8 an_a8 cd_a8 ct_a8), sl_a8⟩) (c_a8 : codeIn K cd_a8 "Frame.take_bar" = true) (k_a8 : keepIn K (.ref f_a8) = true) (a_ax : PySem.W.findIn K (.ref C_ch) "pins" = some (some (.ref f_ax))) (i_ax : PySem.W.isFn K (.ref f_ax) = true) (l_ax : K.lookup f_ax = some ⟨oc_ax, od_ax, .func (fnOf "pins" "Frame.pins" (defArgs s_ax) (defBody s_ax) (defScope s_ax) .none kV_ax dc_ax pm_ax an_ax cd_ax ct_ax), sl_ax⟩) (c_ax : codeIn K cd_ax "Frame.pins" = true) (k_ax : keepIn K (.ref f_ax) = true) (a_ay : PySem.W.findIn K (.ref C_ch) "bars" = some (some (.ref f_ay))) (i_ay : PySem.W.isFn K (.ref f_ay) = true) (l_ay : K.lookup f_ay = some ⟨oc_ay, od_ay, .func (fnOf "bars" "Frame.bars" (defArgs s_ay) (defBody s_ay) (defScope s_ay) .none kV_ay dc_ay pm_ay an_ay cd_ay ct_ay), sl_ay⟩) (c_ay : codeIn K cd_ay "Frame.bars" = true) (k_ay : keepIn K (.ref f_ay) = true) (a_ai : PySem.W.findIn K (.ref C_ch) "place" = some (some (.ref f_ai))) (i_ai : PySem.W.isFn K (.ref f_ai) = true) (l_ai : K.lookup f_ai = some ⟨oc_ai, od_ai, .func (fnOf "place" "Frame.place" (defArgs s_ai) (defBody s_ai) (defScope s_ai) .none kV_ai dc_ai pm_ai an_ai cd_ai ct_ai), sl_ai⟩) (c_ai : codeIn K cd_ai "Frame.place" = true) (k_ai : keepIn K (.ref f_ai) = true) (a_az : PySem.W.findIn K (.ref C_ch) "ways" = some (some (.ref f_az))) (i_az : PySem.W.isFn K (.ref f_az) = true) (l_az : K.lookup f_az = some ⟨oc_az, od_az, .func (fnOf "ways" "Frame.ways" (defArgs s_az) (defBody s_az) (defScope s_az) .none kV_az dc_az pm_az an_az cd_az ct_az), sl_az⟩) (c_az : codeIn K cd_az "Frame.ways" = true) (k_az : keepIn K (.ref f_az) = true) (a_b0 : PySem.W.findIn K (.ref C_ch) "ends" = some (some (.ref f_b0))) (i_b0 : PySem.W.isFn K (.ref f_b0) = true) (l_b0 : K.lookup f_b0 = some ⟨oc_b0, od_b0, .func (fnOf "ends" "Frame.ends" (defArgs s_b0) (defBody s_b0) (defScope s_b0) .none kV_b0 dc_b0 pm_b0 an_b0 cd_b0 ct_b0), sl_b0⟩) (c_b0 : codeIn K cd_b0 "Frame.ends" = true) (k_b0 : keepIn K (.ref f_b0) = true) (pg_ck : PySem.W.plainGet K C_ck Str.empty = true) (hd_ck : PySem.W.hasDictIn K C_ck = true) (po_ck : PySem.W.plainOver K C_ck = true) (sa_ck : PySem.W.findIn K (.ref C_ck) "__setattr__" = some (some (.builtin "object.__setattr__"))) (mk_ck : PySem.W.makesIn K C_ck = true) (kc_ck : keepIn K (.ref C_ck) = true) (oi_ck : PySem.W.findIn K (.ref C_ck) "__init__" = some (some (.builtin "object.__init__"))) (a_b9 : PySem.W.findIn K (.ref C_ck) "ways" = some (some (.ref f_b9))) (i_b9 : PySem.W.isFn K (.ref f_b9) = true) (l_b9 : K.lookup f_b9 = some ⟨oc_b9, od_b9, .func (fnOf "ways" "Hold.ways" (defArgs s_b9) (defBody s_b9) (defScope s_b9) .none kV_b9 dc_b9 pm_b9 an_b9 cd_b9 ct_b9), sl_b9⟩) (c_b9 : codeIn K cd_b9 "Hold.ways" = true) (k_b9 : keepIn K (.ref f_b9) = true) (pg_ca : PySem.W.plainGet K C_ca Str.empty = true) (hd_ca : PySem.W.hasDictIn K C_ca = true) (po_ca : PySem.W.plainOver K C_ca = true) (sa_ca : PySem.W.findIn K (.ref C_ca) "__setattr__" = some (some (.builtin "object.__setattr__"))) (mk_ca : PySem.W.makesIn K C_ca = true) (kc_ca : keepIn K (.ref C_ca) = true) (a_aj : PySem.W.findIn K (.ref C_ca) "__init__" = some (some (.ref f_aj))) (i_aj : PySem.W.isFn K (.ref f_aj) = true) (l_aj : K.lookup f_aj = some ⟨oc_aj, od_aj, .func (fnOf "__init__" "Roller.__init__" (defArgs s_aj) (defBody s_aj) (defScope s_aj) .none kV_aj dc_aj pm_aj an_aj cd_aj ct_aj), sl_aj⟩) (c_aj : codeIn K cd_aj "Roller.__init__" = true) (k_aj : keepIn K (.ref f_aj) = true) (a_ak : PySem.W.findIn K (.ref C_ca) "ways" = some (some (.ref f_ak))) (i_ak : PySem.W.isFn K (.ref f_ak) = true) (l_ak : K.lookup f_ak = some ⟨oc_ak, od_ak, .func (fnOf "ways" "Roller.ways" (defArgs s_ak) (defBody s_ak) (defScope s_ak) .none kV_ak dc_ak pm_ak an_ak cd_ak ct_ak), sl_ak⟩) (c_ak : codeIn K cd_ak "Roller.ways" = true) (k_ak : keepIn K (.ref f_ak) = true) (pg_ci : PySem.W.plainGet K C_ci Str.empty = true) (hd_ci : PySem.W.hasDictIn K C_ci = true) (po_ci : PySem.W.plainOver K C_ci = true) (sa_ci : PySem.W.findIn K (.ref C_ci) "__setattr__" = some (some (.builtin "object.__setattr__"))) (mk_ci : PySem.W.makesIn K C_ci = true) (kc_ci : keepIn K (.ref C_ci) = true) (oi_ci : PySem.W.findIn K (.ref C_ci) "__init__" = some (some (.builtin "object.__init__"))) (a_b1 : PySem.W.findIn K (.ref C_ci) "ways" = some (some (.ref f_b1))) (i_b1 : PySem.W.isFn K (.ref f_b1) = true) (l_b1 : K.lookup f_b1 = some ⟨oc_b1, od_b1, .func (fnOf "ways" "Fixed.ways" (defArgs s_b1) (defBody s_b1) (defScope s_b1) .none kV_b1 dc_b1 pm_b1 an_b1 cd_b1 ct_b1), sl_b1⟩) (c_b1 : codeIn K cd_b1 "Fixed.ways" = true) (k_b1 : keepIn K (.ref f_b1) = true) (pg_cb : PySem.W.plainGet K C_cb Str.empty = true) (hd_cb : PySem.W.hasDictIn K C_cb = true) (po_cb : PySem.W.plainOver K C_cb = true) (sa_cb : PySem.W.findIn K (.ref C_cb) "__setattr__" = some (some (.builtin "object.__setattr__"))) (mk_cb : PySem.W.makesIn K C_cb = true) (kc_cb : keepIn K (.ref C_cb) = true) (a_al : PySem.W.findIn K (.ref C_cb) "__init__" = some (some (.ref f_al))) (i_al : PySem.W.isFn K (.ref f_al) = true) (l_al : K.lookup f_al = some ⟨oc_al, od_al, .func (fnOf "__init__" "Ground.__init__" (defArgs s_al) (defBody s_al) (defScope s_al) .none kV_al dc_al pm_al an_al cd_al ct_al), sl_al⟩) (c_al : codeIn K cd_al "Ground.__init__" = true) (k_al : keepIn K (.ref f_al) = true) (a_a0 : PySem.W.findIn K (.ref C_cb) "count_row" = some (some (.ref f_a0))) (i_a0 : PySem.W.isFn K (.ref f_a0) = true) (l_a0 : K.lookup f_a0 = some ⟨oc_a0, od_a0, .func (fnOf "count_row" "Ground.count_row" (defArgs s_a0) (defBody s_a0) (defScope s_a0) .none kV_a0 dc_a0 pm_a0 an_a0 cd_a0 ct_a0), sl_a0⟩) (c_a0 : codeIn K cd_a0 "Ground.count_row" = true) (k_a0 : keepIn K (.ref f_a0) = true) (pg_cc : PySem.W.plainGet K C_cc Str.empty = true) (hd_cc : PySem.W.hasDictIn K C_cc = true) (po_cc : PySem.W.plainOver K C_cc = true) (sa_cc : PySem.W.findIn K (.ref C_cc) "__setattr__" = some (some (.builtin "object.__setattr__"))) (mk_cc : PySem.W.makesIn K C_cc = true) (kc_cc : keepIn K (.ref C_cc) = true) (a_am : PySem.W.findIn K (.ref C_cc) "__init__" = some (some (.ref f_am))) (i_am : PySem.W.isFn K (.ref f_am) = true) (l_am : K.lookup f_am = some ⟨oc_am, od_am, .func (fnOf "__init__" "Laying.__init__" (defArgs s_am) (defBody s_am) (defScope s_am) .none kV_am dc_am pm_am an_am cd_am ct_am), sl_am⟩) (c_am : codeIn K cd_am "Laying.__init__" = true) (k_am : keepIn K (.ref f_am) = true) (a_a1 : PySem.W.findIn K (.ref C_cc) "full_name" = some (some (.ref f_a1))) (i_a1 : PySem.W.isFn K (.ref f_a1) = true) (l_a1 : K.lookup f_a1 = some ⟨oc_a1, od_a1, .func (fnOf "full_name" "Laying.full_name" (defArgs s_a1) (defBody s_a1) (defScope s_a1) .none kV_a1 dc_a1 pm_a1 an_a1 cd_a1 ct_a1), sl_a1⟩) (c_a1 : codeIn K cd_a1 "Laying.full_name" = true) (k_a1 : keepIn K (.ref f_a1) = true) (a_a2 : PySem.W.findIn K (.ref C_cc) "check_new" = some (some (.ref f_a2))) (i_a2 : PySem.W.isFn K (.ref f_a2) = true) (l_a2 : K.lookup f_a2 = some ⟨oc_a2, od_a2, .func (fnOf "check_new" "Laying.check_new" (defArgs s_a2) (defBody s_a2) (defScope s_a2) .none kV_a2 dc_a2 pm_a2 an_a2 cd_a2 ct_a2), sl_a2⟩) (c_a2 : codeIn K cd_a2 "Laying.check_new" = true) (k_a2 : keepIn K (.ref f_a2) = true) (a_a6 : PySem.W.findIn K (.ref C_cc) "name_pin" = some (some (.ref f_a6))) (i_a6 : PySem.W.isFn K (.ref f_a6) = true) (l_a6 : K.lookup f_a6 = some ⟨oc_a6, od_a6, .func (fnOf "name_pin" "Laying.name_pin" (defArgs s_a6) (defBody s_a6) (defScope s_a6) .none kV_a6 dc_a6 pm_a6 an_a6 cd_a6 ct_a6), sl_a6⟩) (c_a6 : codeIn K cd_a6 "Laying.name_pin" = true) (k_a6 : keepIn K (.ref f_a6) = true) (a_a9 : PySem.W.findIn K (.ref C_cc) "own_pin" = some (some (.ref f_a9))) (i_a9 : PySem.W.isFn K (.ref f_a9) = true) (l_a9 : K.lookup f_a9 = some ⟨oc_a9, od_a9, .func (fnOf "own_pin" "Laying.own_pin" (defArgs s_a9) (defBody s_a9) (defScope s_a9) .none kV_a9 dc_a9 pm_a9 an_a9 cd_a9 ct_a9), sl_a9⟩) (c_a9 : codeIn K cd_a9 "Laying.own_pin" = true) (k_a9 : keepIn K (.ref f_a9) = true) (pg_cj : PySem.W.plainGet K C_cj Str.empty = true) (hd_cj : PySem.W.hasDictIn K C_cj = true) (po_cj : PySem.W.plainOver K C_cj = true) (sa_cj : PySem.W.findIn K (.ref C_cj) "__setattr__" = some (some (.builtin "object.__setattr__"))) (mk_cj : PySem.W.makesIn K C_cj = true) (kc_cj : keepIn K (.ref C_cj) = true) (a_b2 : PySem.W.findIn K (.ref C_cj) "__init__" = some (some (.ref f_b2))) (i_b2 : PySem.W.isFn K (.ref f_b2) = true) (l_b2 : K.lookup f_b2 = some ⟨oc_b2, od_b2, .func (fnOf "__init__" "Sheet.__init__" (defArgs s_b2) (defBody s_b2) (defScope s_b2) .none kV_b2 dc_b2 pm_b2 an_b2 cd_b2 ct_b2), sl_b2⟩) (c_b2 : codeIn K cd_b2 "Sheet.__init__" = true) (k_b2 : keepIn K (.ref f_b2) = true) (a_a7 : PySem.W.findIn K (.ref C_cj) "may_stand" = some (some (.ref f_a7))) (i_a7 : PySem.W.isFn K (.ref f_a7) = true) (l_a7 : K.lookup f_a7 = some ⟨oc_a7, od_a7, .func (fnOf "may_stand" "Sheet.may_stand" (defArgs s_a7) (defBody s_a7) (defScope s_a7) .none kV_a7 dc_a7 pm_a7 an_a7 cd_a7 ct_a7), sl_a7⟩) (c_a7 : codeIn K cd_a7 "Sheet.may_stand" = true) (k_a7 : keepIn K (.ref f_a7) = true) (a_b3 : PySem.W.findIn K (.ref C_cj) "keep" = some (some (.ref f_b3))) (i_b3 : PySem.W.isFn K (.ref f_b3) = true) (l_b3 : K.lookup f_b3 = some ⟨oc_b3, od_b3, .func (fnOf "keep" "Sheet.keep" (defArgs s_b3) (defBody s_b3) (defScope s_b3) .none kV_b3 dc_b3 pm_b3 an_b3 cd_b3 ct_b3), sl_b3⟩) (c_b3 : codeIn K cd_b3 "Sheet.keep" = true) (k_b3 : keepIn K (.ref f_b3) = true) (n_places : PySem.W.findIn K (.ref C_ch) "pin_places" = some none) (n_ways : PySem.W.findIn K (.ref C_ch) "pin_ways" = some none) (n_ends : PySem.W.findIn K (.ref C_ch) "bar_ends" = some none) (n_way : PySem.W.findIn K (.ref C_ca) "way" = some none) (ht : l.prog.given.tree = none) (q_c8 : PySem.W.excIn K C_c8 bmVE "ValueError.__new__" = true) (q_bs : PySem.W.excIn K C_bs bmVE "ValueError.__new__" = true) (is_c8 : (PySem.W.clsIn K C_c8).isSome = true) (e1 : PySem.W.exmOne K (.ref C_c8) (.ref C_c8) = some true) (n_so : PySem.W.findIn K (.ref C_cj) "outside" = some none) (n_sp : PySem.W.findIn K (.ref C_cj) "pieces" = some none) (n_sc : PySem.W.findIn K (.ref C_cj) "current" = some none) (n_gf : PySem.W.findIn K (.ref C_cb) "frame" = some none) (n_gp : PySem.W.findIn K (.ref C_cb) "pieces" = some none) (n_gd : PySem.W.findIn K (.ref C_cb) "done" = some none) (n_lp : PySem.W.findIn K (.ref C_cc) "prefix" = some none) (n_ls : PySem.W.findIn K (.ref C_cc) "spot" = some none) (n_lo : PySem.W.findIn K (.ref C_cc) "own" = some none) :
  ∃ fd : FuncData, (∀ (s : Shared) (v : Value), BindsTo s fd ⟨[v], []⟩ [("_law_script", v)]) ∧ ∀ base : Heap, K.In base → base.Ns mainGlobals mg → FnOk l.prog w K mg base (CXr l.prog w) 42 fa fd ["_law_script"] (spLaw K) := by
 have e := hfa.symm.trans (mg_of X G a_law)
 cases e
 have B1_bh : Binds K (fnOf "ratio_of" "ratio_of" (defArgs s_bh) (defBody s_bh) (defScope s_bh) (.ref td_bh) kV_bh dc_bh pm_bh an_bh cd_bh ct_bh) ["top", "bottom"] [] := fun s us X hl => match us, hl with | [_, _], _ => BindsTo.of_defaults rfl (X _ _ t_bh) rfl rfl rfl
 have B2_bh : Binds K (fnOf "ratio_of" "ratio_of" (defArgs s_bh) (defBody s_bh) (defScope s_bh) (.ref td_bh) kV_bh dc_bh pm_bh an_bh cd_bh ct_bh) ["top", "bottom"] [.int 1 tk_bh] := fun s us X hl => match us, (show us.length = 1 by simpa using hl) with | [_], _ => BindsTo.of_defaults rfl (X _ _ t_bh) rfl rfl rfl
 have D_bh : DefD K mg "ratio_of" s_bh ["top", "bottom"] [.int 1 tk_bh] := ⟨f_bh, _, _, _, _, _, _, _, _, _, _, l_bh, c_bh, k_bh, B1_bh, B2_bh, mg_of X G a_bh⟩
 have D_c3 : Def K mg "sum_of" s_c3 ["one", "other"] := dof X G l_c3 c_c3 k_c3 a_c3
 have D_bi : Def K mg "is_whole" s_bi ["value"] := dof X G l_bi c_bi k_bi a_bi
 have D_ad : Def K mg "lowest_terms" s_ad ["top", "bottom"] := dof X G l_ad c_ad k_ad a_ad
 have D_a3 : Def K mg "greatest_shared" s_a3 ["one", "other"] := dof X G l_a3 c_a3 k_a3 a_a3
 have D_an : Def K mg "show_ratio" s_an ["one"] := dof X G l_an c_an k_an a_an
 have D_ao : Def K mg "read_ratio" s_ao ["text"] := dof X G l_ao c_ao k_ao a_ao
 have D_ap : Def K mg "read_whole" s_ap ["text"] := dof X G l_ap c_ap k_ap a_ap
 have D_bj : Def K mg "pair_sum" s_bj ["one", "other"] := dof X G l_bj c_bj k_bj a_bj
 have D_aq : Def K mg "laid_frame" s_aq ["rows", "pieces"] := dof X G l_aq c_aq k_aq a_aq
 have D_bk : Def K mg "lay_rows" s_bk ["ground", "rows", "prefix", "spot"] := dof X G l_bk c_bk k_bk a_bk
 have D_bw : Def K mg "lay_pin" s_bw ["ground", "laying", "row"] := dof X G l_bw c_bw k_bw a_bw
 have D_bx : Def K mg "lay_bar" s_bx ["ground", "laying", "row"] := dof X G l_bx c_bx k_bx a_bx
 have D_c4 : Def K mg "pin_at" s_c4 ["F", "spot"] := dof X G l_c4 c_c4 k_c4 a_c4
 have D_b4 : Def K mg "hold_from" s_b4 ["values"] := dof X G l_b4 c_b4 k_b4 a_b4
 have D_bl : Def K mg "read_row" s_bl ["forms", "row"] := dof X G l_bl c_bl k_bl a_bl
 have D_c5 : Def K mg "fitted" s_c5 ["kinds", "words"] := dof X G l_c5 c_c5 k_c5 a_c5
 have D_bm : Def K mg "value_of" s_bm ["kind", "word"] := dof X G l_bm c_bm k_bm a_bm
 have D_by : Def K mg "is_name" s_by ["word"] := dof X G l_by c_by k_by a_by
 have D_b5 : Def K mg "number_of" s_b5 ["word"] := dof X G l_b5 c_b5 k_b5 a_b5
 have D_ar : Def K mg "read_frame" s_ar ["text"] := dof X G l_ar c_ar k_ar a_ar
 have D_as : Def K mg "show_frame" s_as ["F"] := dof X G l_as c_as k_as a_as
 have D_at : Def K mg "pair_words" s_at ["two"] := dof X G l_at c_at k_at a_at
 have D_au : Def K mg "hold_words" s_au ["ways"] := dof X G l_au c_au k_au a_au
 have D_ag : Def K mg "_law_cell_at" s_ag ["_law_script", "_law_k"] := dof X G l_ag c_ag k_ag a_ag
 have D_bn : Def K mg "_law_part" s_bn ["_law_cell", "_law_k"] := dof X G l_bn c_bn k_bn a_bn
 have D_av : Def K mg "_law_lowest" s_av ["_law_top", "_law_bottom"] := dof X G l_av c_av k_av a_av
 have D_b6 : Def K mg "_law_drawn" s_b6 ["_law_cell", "_law_scale"] := dof X G l_b6 c_b6 k_b6 a_b6
 have D_b7 : Def K mg "_law_names" s_b7 ["_law_cell", "_law_many"] := dof X G l_b7 c_b7 k_b7 a_b7
 have D_bo : Def K mg "_law_ways" s_bo ["_law_cell"] := dof X G l_bo c_bo k_bo a_bo
 have D_bp : Def K mg "_law_pins" s_bp ["_law_script", "_law_names_here", "_law_scale"] := dof X G l_bp c_bp k_bp a_bp
 have D_bq : Def K mg "_law_bars" s_bq ["_law_script", "_law_names_here", "_law_pins_here"] := dof X G l_bq c_bq k_bq a_bq
 have D_b8 : Def K mg "_law_frame" s_b8 ["_law_pins_here", "_law_bars_here"] := dof X G l_b8 c_b8 k_b8 a_b8
 have D_ah : Def K mg "_law_text_of" s_ah ["_law_one"] := dof X G l_ah c_ah k_ah a_ah
 have D_br : Def K mg "_law_text" s_br ["_law_pins_here", "_law_bars_here"] := dof X G l_br c_br k_br a_br
 have D_c6 : Def K mg "_law_is" s_c6 ["_law_frame_here", "_law_pins_here", "_law_bars_here"] := dof X G l_c6 c_c6 k_c6 a_c6
 have cls_ch : Cls K C_ch := ⟨pg_ch, hd_ch, po_ch, sa_ch⟩
 have M_ch : Mk K C_ch f_aw := ⟨mk_ch, a_aw, i_aw, kc_ch⟩
 have F_aw := fun_mk (st := s_aw) l_aw c_aw k_aw
 have b_aw := F_aw.bnd (ps := ["self"])
 have m_aw : Meth K C_ch "__init__" f_aw := ⟨a_aw, i_aw, k_aw⟩
 have F_aa := fun_mkD (st := s_aa) l_aa c_aa k_aa
 have b_aa : Binds K (fnOf "put_pin" "Frame.put_pin" (defArgs s_aa) (defBody s_aa) (defScope s_aa) (.ref td_aa) kV_aa dc_aa pm_aa an_aa cd_aa ct_aa) ["self", "name", "x", "y", "hold"] [] := fun s us X hl => match us, hl with | [_, _, _, _, _], _ => BindsTo.of_defaults rfl (X _ _ t_aa) rfl rfl rfl
 have bd_aa : Binds K (fnOf "put_pin" "Frame.put_pin" (defArgs s_aa) (defBody s_aa) (defScope s_aa) (.ref td_aa) kV_aa dc_aa pm_aa an_aa cd_aa ct_aa) ["self", "name", "x", "y", "hold"] [.none] := fun s us X hl => match us, (show us.length = 4 by simpa using hl) with | [_, _, _, _], _ => BindsTo.of_defaults rfl (X _ _ t_aa) rfl rfl rfl
 have m_aa : Meth K C_ch "put_pin" f_aa := ⟨a_aa, i_aa, k_aa⟩
 have F_ab := fun_mk (st := s_ab) l_ab c_ab k_ab
 have b_ab := F_ab.bnd (ps := ["self", "name", "one", "other"])
 have m_ab : Meth K C_ch "put_bar" f_ab := ⟨a_ab, i_ab, k_ab⟩
 have F_a4 := fun_mk (st := s_a4) l_a4 c_a4 k_a4
 have b_a4 := F_a4.bnd (ps := ["self", "name", "one", "other"])
 have m_a4 : Meth K C_ch "check_bar" f_a4 := ⟨a_a4, i_a4, k_a4⟩
 have F_a5 := fun_mk (st := s_a5) l_a5 c_a5 k_a5
 have b_a5 := F_a5.bnd (ps := ["self", "pin"])
 have m_a5 : Meth K C_ch "check_pin" f_a5 := ⟨a_a5, i_a5, k_a5⟩
 have F_a8 := fun_mk (st := s_a8) l_a8 c_a8 k_a8
 have b_a8 := F_a8.bnd (ps := ["self", "name"])
 have m_a8 : Meth K C_ch "take_bar" f_a8 := ⟨a_a8, i_a8, k_a8⟩
 have F_ax := fun_mk (st := s_ax) l_ax c_ax k_ax
 have b_ax := F_ax.bnd (ps := ["self"])
 have m_ax : Meth K C_ch "pins" f_ax := ⟨a_ax, i_ax, k_ax⟩
 have F_ay := fun_mk (st := s_ay) l_ay c_ay k_ay
 have b_ay := F_ay.bnd (ps := ["self"])
 have m_ay : Meth K C_ch "bars" f_ay := ⟨a_ay, i_ay, k_ay⟩
 have F_ai := fun_mk (st := s_ai) l_ai c_ai k_ai
 have b_ai := F_ai.bnd (ps := ["self", "pin"])
 have m_ai : Meth K C_ch "place" f_ai := ⟨a_ai, i_ai, k_ai⟩
 have F_az := fun_mk (st := s_az) l_az c_az k_az
 have b_az := F_az.bnd (ps := ["self", "pin"])
 have m_az : Meth K C_ch "ways" f_az := ⟨a_az, i_az, k_az⟩
 have F_b0 := fun_mk (st := s_b0) l_b0 c_b0 k_b0
 have b_b0 := F_b0.bnd (ps := ["self", "bar"])
 have m_b0 : Meth K C_ch "ends" f_b0 := ⟨a_b0, i_b0, k_b0⟩
 have cls_ck : Cls K C_ck := ⟨pg_ck, hd_ck, po_ck, sa_ck⟩
 have M_ck : Mk0 K C_ck := ⟨mk_ck, oi_ck, kc_ck⟩
 have F_b9 := fun_mk (st := s_b9) l_b9 c_b9 k_b9
 have b_b9 := F_b9.bnd (ps := ["self"])
 have m_b9 : Meth K C_ck "ways" f_b9 := ⟨a_b9, i_b9, k_b9⟩
 have cls_ca : Cls K C_ca := ⟨pg_ca, hd_ca, po_ca, sa_ca⟩
 have M_ca : Mk K C_ca f_aj := ⟨mk_ca, a_aj, i_aj, kc_ca⟩
 have F_aj := fun_mk (st := s_aj) l_aj c_aj k_aj
 have b_aj := F_aj.bnd (ps := ["self", "x", "y"])
 have m_aj : Meth K C_ca "__init__" f_aj := ⟨a_aj, i_aj, k_aj⟩
 have F_ak := fun_mk (st := s_ak) l_ak c_ak k_ak
 have b_ak := F_ak.bnd (ps := ["self"])
 have m_ak : Meth K C_ca "ways" f_ak := ⟨a_ak, i_ak, k_ak⟩
 have cls_ci : Cls K C_ci := ⟨pg_ci, hd_ci, po_ci, sa_ci⟩
 have M_ci : Mk0 K C_ci := ⟨mk_ci, oi_ci, kc_ci⟩
 have F_b1 := fun_mk (st := s_b1) l_b1 c_b1 k_b1
 have b_b1 := F_b1.bnd (ps := ["self"])
 have m_b1 : Meth K C_ci "ways" f_b1 := ⟨a_b1, i_b1, k_b1⟩
 have cls_cb : Cls K C_cb := ⟨pg_cb, hd_cb, po_cb, sa_cb⟩
 have M_cb : Mk K C_cb f_al := ⟨mk_cb, a_al, i_al, kc_cb⟩
 have F_al := fun_mk (st := s_al) l_al c_al k_al
 have b_al := F_al.bnd (ps := ["self", "pieces"])
 have m_al : Meth K C_cb "__init__" f_al := ⟨a_al, i_al, k_al⟩
 have F_a0 := fun_mk (st := s_a0) l_a0 c_a0 k_a0
 have b_a0 := F_a0.bnd (ps := ["self"])
 have m_a0 : Meth K C_cb "count_row" f_a0 := ⟨a_a0, i_a0, k_a0⟩
 have cls_cc : Cls K C_cc := ⟨pg_cc, hd_cc, po_cc, sa_cc⟩
 have M_cc : Mk K C_cc f_am := ⟨mk_cc, a_am, i_am, kc_cc⟩
 have F_am := fun_mk (st := s_am) l_am c_am k_am
 have b_am := F_am.bnd (ps := ["self", "prefix", "spot"])
 have m_am : Meth K C_cc "__init__" f_am := ⟨a_am, i_am, k_am⟩
 have F_a1 := fun_mk (st := s_a1) l_a1 c_a1 k_a1
 have b_a1 := F_a1.bnd (ps := ["self", "name"])
 have m_a1 : Meth K C_cc "full_name" f_a1 := ⟨a_a1, i_a1, k_a1⟩
 have F_a2 := fun_mk (st := s_a2) l_a2 c_a2 k_a2
 have b_a2 := F_a2.bnd (ps := ["self", "name"])
 have m_a2 : Meth K C_cc "check_new" f_a2 := ⟨a_a2, i_a2, k_a2⟩
 have F_a6 := fun_mk (st := s_a6) l_a6 c_a6 k_a6
 have b_a6 := F_a6.bnd (ps := ["self", "name", "pin"])
 have m_a6 : Meth K C_cc "name_pin" f_a6 := ⟨a_a6, i_a6, k_a6⟩
 have F_a9 := fun_mk (st := s_a9) l_a9 c_a9 k_a9
 have b_a9 := F_a9.bnd (ps := ["self", "name"])
 have m_a9 : Meth K C_cc "own_pin" f_a9 := ⟨a_a9, i_a9, k_a9⟩
 have cls_cj : Cls K C_cj := ⟨pg_cj, hd_cj, po_cj, sa_cj⟩
 have M_cj : Mk K C_cj f_b2 := ⟨mk_cj, a_b2, i_b2, kc_cj⟩
 have F_b2 := fun_mk (st := s_b2) l_b2 c_b2 k_b2
 have b_b2 := F_b2.bnd (ps := ["self"])
 have m_b2 : Meth K C_cj "__init__" f_b2 := ⟨a_b2, i_b2, k_b2⟩
 have F_a7 := fun_mk (st := s_a7) l_a7 c_a7 k_a7
 have b_a7 := F_a7.bnd (ps := ["self", "values"])
 have m_a7 : Meth K C_cj "may_stand" f_a7 := ⟨a_a7, i_a7, k_a7⟩
 have F_b3 := fun_mk (st := s_b3) l_b3 c_b3 k_b3
 have b_b3 := F_b3.bnd (ps := ["self", "values"])
 have m_b3 : Meth K C_cj "keep" f_b3 := ⟨a_b3, i_b3, k_b3⟩
 have m_ba := mg_of X G a_ba
 have m_bb := mg_of X G a_bb
 have m_bc := mg_of X G a_bc
 have m_af := mg_of X G a_af
 have m_ac := mg_of X G a_ac
 have m_c1 := mg_of X G a_c1
 have m_bz := mg_of X G a_bz
 have m_ae := mg_of X G a_ae
 have m_c7 : mg "NOUGHT" = some (.ref c_c7) := mg_of X G a_c7
 have m_c0 : mg "NO_MOVE" = some (.ref c_c0) := mg_of X G a_c0
 have m_cd : mg "FORMS" = some (.ref c_cd) := mg_of X G a_cd
 have m_bf : mg "YardError" = some (.ref C_bf) := mg_of X G a_bf
 have m_bs : mg "NoNumber" = some (.ref C_bs) := mg_of X G a_bs
 have m_c8 : mg "NoText" = some (.ref C_c8) := mg_of X G a_c8
 have m_ce : mg "NoWay" = some (.ref C_ce) := mg_of X G a_ce
 have m_bt : mg "PinThere" = some (.ref C_bt) := mg_of X G a_bt
 have m_bg : mg "SpotTaken" = some (.ref C_bg) := mg_of X G a_bg
 have m_cf : mg "NoPin" = some (.ref C_cf) := mg_of X G a_cf
 have m_bu : mg "BarThere" = some (.ref C_bu) := mg_of X G a_bu
 have m_cg : mg "NoBar" = some (.ref C_cg) := mg_of X G a_cg
 have m_bv : mg "NoLength" = some (.ref C_bv) := mg_of X G a_bv
 have m_c2 : mg "TooMany" = some (.ref C_c2) := mg_of X G a_c2
 have m_c9 : mg "NoLine" = some (.ref C_c9) := mg_of X G a_c9
 have m_ch : mg "Frame" = some (.ref C_ch) := mg_of X G a_ch
 have m_ck : mg "Hold" = some (.ref C_ck) := mg_of X G a_ck
 have m_ca : mg "Roller" = some (.ref C_ca) := mg_of X G a_ca
 have m_ci : mg "Fixed" = some (.ref C_ci) := mg_of X G a_ci
 have m_cb : mg "Ground" = some (.ref C_cb) := mg_of X G a_cb
 have m_cc : mg "Laying" = some (.ref C_cc) := mg_of X G a_cc
 have m_cj : mg "Sheet" = some (.ref C_cj) := mg_of X G a_cj
 have m_ValueError : mg "ValueError" = none := mg_none_of X G z_ValueError
 have m_abs : mg "abs" = none := mg_none_of X G z_abs
 have m_all : mg "all" = none := mg_none_of X G z_all
 have m_bool : mg "bool" = none := mg_none_of X G z_bool
 have m_enumerate : mg "enumerate" = none := mg_none_of X G z_enumerate
 have m_int : mg "int" = none := mg_none_of X G z_int
 have m_isinstance : mg "isinstance" = none := mg_none_of X G z_isinstance
 have m_len : mg "len" = none := mg_none_of X G z_len
 have m_list : mg "list" = none := mg_none_of X G z_list
 have m_range : mg "range" = none := mg_none_of X G z_range
 have m_str : mg "str" = none := mg_none_of X G z_str
 have m_zip : mg "zip" = none := mg_none_of X G z_zip
 have F := fun_mk (st := s_law) l_law c_law k_law
 refine ⟨fnOf "law" "law" (defArgs s_law) (defBody s_law) (defScope s_law) .none kV_law dc_law pm_law an_law cd_law ct_law, fun s v => .of_eq rfl, fun base _ _ => ?_⟩
 have hM : Mute (CXr l.prog w) := CXr.mute
 have nm : ∀ {c : Addr} {o : Option Addr} {k0 k1 : Tok} {n : Nat} {sl : Array (Option Value)}, K.lookup c = some ⟨.type "tuple", o, .seq #[.int 0 k0, .int 1 k1] n, sl⟩ → ∀ H : Hp, NmK K H (.ref c) (0, 1) := fun t H => ⟨_, rfl, .inr ⟨_, _, _, t, rfl, rfl, (by show 2 ≤ sizeLine; decide), .cons ⟨_, rfl⟩ (.cons ⟨_, rfl⟩ .nil)⟩⟩
 have hN : ∀ H : Hp, NmK K H (.ref c_c7) (0, 1) := nm t_c7
 have nq : ∀ {c : Addr} {H : Hp}, NmK K H (.ref c) (0, 1) → NmR K H (.ref c) 0 := fun h => by
  show NmK K _ _ (qr 0)
  rw [qr_nought]
  exact h
 have hMo : ∀ H : Hp, PtR K H (.ref c_c0) (0, 0) := fun H => ⟨_, .ref c_bd, .ref c_be, rfl, .inr ⟨_, _, _, t_c0, rfl, rfl, (by show 2 ≤ sizeLine; decide), .cons rfl (.cons rfl .nil)⟩, nq (nm t_bd H), nq (nm t_be H)⟩
 have hF : ∀ H : Hp, SqT K H c_cd (formsL.map V.str) := fun H => .inr ⟨_, _, _, t_cd, rfl, rfl, (by show 8 ≤ sizeLine; decide), .cons ⟨_, rfl⟩ (.cons ⟨_, rfl⟩ (.cons ⟨_, rfl⟩ (.cons ⟨_, rfl⟩ (.cons ⟨_, rfl⟩ (.cons ⟨_, rfl⟩ (.cons ⟨_, rfl⟩ (.cons ⟨_, rfl⟩ .nil)))))))⟩
 have fc : FrC K C_ch := ⟨cls_ch, n_places, n_ways, n_ends⟩
 have shc : ShC K C_cj := ⟨cls_cj, n_so, n_sp, n_sc⟩
 have gc : GrC K C_cb := ⟨cls_cb, n_gf, n_gp, n_gd⟩
 have lc : LyC K C_cc := ⟨cls_cc, n_lp, n_ls, n_lo⟩
 have G1 := ok_a3 (P := l.prog) (w := w) (base := base) (CX := CXr l.prog w) D_a3 m_abs
 have G2 := ok_ad ht D_ad G1
 have GS := fn_add (ok_c3 hM D_c3 G2)
 have GPS := ok_bj hM D_bj GS
 have GI := ok_aw (P := l.prog) (w := w) (mg := mg) (base := base) F_aw fc
 have MBs : MtdOk l.prog w K mg base (CXr l.prog w) 1 C_ch "bars" ["self"] (spBars K C_ch) := ⟨_, _, cls_ch, m_ay, ok_ay F_ay fc m_list, b_ay⟩
 have MPn : MtdOk l.prog w K mg base (CXr l.prog w) 1 C_ch "pins" ["self"] (spPins K C_ch) := ⟨_, _, cls_ch, m_ax, ok_ax F_ax fc m_list, b_ax⟩
 have MCp : MtdOk l.prog w K mg base (CXr l.prog w) 1 C_ch "check_pin" ["self", "pin"] (spCheckPin K C_ch) := ⟨_, _, cls_ch, m_a5, ok_a5 F_a5 fc, b_a5⟩
 have MCb : MtdOk l.prog w K mg base (CXr l.prog w) 2 C_ch "check_bar" ["self", "name", "one", "other"] (spCheckBar K C_ch) := ⟨_, _, cls_ch, m_a4, ok_a4 F_a4 fc m_bb m_len MCp, b_a4⟩
 have MPb : MtdOk l.prog w K mg base (CXr l.prog w) 3 C_ch "put_bar" ["self", "name", "one", "other"] (spPutBar K C_ch) := ⟨_, _, cls_ch, m_ab, ok_ab F_ab fc MCb, b_ab⟩
 have MPp : MtdOk l.prog w K mg base (CXr l.prog w) 3 C_ch "put_pin" ["self", "name", "x", "y", "hold"] (spPutPinW l.prog w K mg base C_ch) := ⟨_, _, cls_ch, m_aa, ok_aa F_aa fc m_ba m_len m_list, b_aa⟩
 have MTb : MtdOk l.prog w K mg base (CXr l.prog w) 1 C_ch "take_bar" ["self", "name"] (spTakeBar K C_ch) := ⟨_, _, cls_ch, m_a8, ok_a8 F_a8 fc, b_a8⟩
 have MPl : MtdOk l.prog w K mg base (CXr l.prog w) 2 C_ch "place" ["self", "pin"] (spPlace K C_ch) := ⟨_, _, cls_ch, m_ai, ok_ai F_ai fc MCp, b_ai⟩
 have ME : MtdOk l.prog w K mg base (CXr l.prog w) 1 C_ch "ends" ["self", "bar"] (spEnds K C_ch) := ⟨_, _, cls_ch, m_b0, ok_b0 F_b0 fc, b_b0⟩
 have MW : MtdOk l.prog w K mg base (CXr l.prog w) 2 C_ch "ways" ["self", "pin"] (spWays K C_ch) := ⟨_, _, cls_ch, m_az, ok_az F_az fc m_list MCp, b_az⟩
 have wH : MtdOk l.prog w K mg base (CXr l.prog w) 1 C_ck "ways" ["self"] (spHold K) := ⟨_, _, cls_ck, m_b9, ok_b9 F_b9, b_b9⟩
 have wR : MtdOk l.prog w K mg base (CXr l.prog w) 1 C_ca "ways" ["self"] (spRWays K C_ca) := ⟨_, _, cls_ca, m_ak, ok_ak F_ak cls_ca n_way, b_ak⟩
 have wF : MtdOk l.prog w K mg base (CXr l.prog w) 1 C_ci "ways" ["self"] (spFixed K) := ⟨_, _, cls_ci, m_b1, ok_b1 F_b1, b_b1⟩
 have GRI := ok_aj (P := l.prog) (w := w) (mg := mg) (base := base) F_aj cls_ca n_way
 have GSK := ok_an (P := l.prog) (w := w) (base := base) (CX := CXr l.prog w) D_an m_str
 have GPW := ok_at hM D_at (fn_show GSK)
 have GHW := ok_au hM D_au m_len GPW
 have GSF := ok_as D_as MPn MBs MPl MW ME GPW GHW
 have GR := ok_bh D_bh m_bs q_bs (ok_bi D_bi m_isinstance m_int m_bool) G2
 have GRW := ok_ap (P := l.prog) (w := w) (base := base) D_ap m_len m_all m_int m_bz m_ae m_c8 q_c8
 have GRR := ok_ao D_ao m_isinstance m_str m_c8 q_c8 GRW GR.1 GSK
 have GNu := ok_b5 D_b5 m_c8 e1 is_c8 GRR
 have GIN := ok_by (P := l.prog) (w := w) (base := base) hM D_by m_all m_bz m_c1
 have GV := ok_bm hM D_bm m_len m_af GNu GIN
 have GFi := ok_c5 hM D_c5 m_len m_zip GV
 have GRo := ok_bl hM D_bl GFi
 have SI := ok_b2 (P := l.prog) (w := w) (mg := mg) (base := base) F_b2 shc
 have MS : MtdOk l.prog w K mg base (CXr l.prog w) 1 C_cj "may_stand" ["self", "values"] (spStand K) := ⟨_, _, cls_cj, m_a7, ok_a7 F_a7 m_c7 hN, b_a7⟩
 have MK : MtdOk l.prog w K mg base (CXr l.prog w) 1 C_cj "keep" ["self", "values"] (spKeep K C_cj) := ⟨_, _, cls_cj, m_b3, ok_b3 F_b3 shc, b_b3⟩
 have GGI := ok_al (P := l.prog) (w := w) (mg := mg) (base := base) F_al gc M_ch m_ch GI b_aw
 have MC : MtdOk l.prog w K mg base (CXr l.prog w) 1 C_cb "count_row" ["self"] (spCount K C_cb) := ⟨_, _, cls_cb, m_a0, ok_a0 F_a0 gc m_bc, b_a0⟩
 have LI := ok_am (P := l.prog) (w := w) (mg := mg) (base := base) F_am lc
 have MF : MtdOk l.prog w K mg base (CXr l.prog w) 1 C_cc "full_name" ["self", "name"] (spFull K C_cc) := ⟨_, _, cls_cc, m_a1, ok_a1 F_a1 lc, b_a1⟩
 have MN : MtdOk l.prog w K mg base (CXr l.prog w) 2 C_cc "check_new" ["self", "name"] (spNew K C_cc) := ⟨_, _, cls_cc, m_a2, ok_a2 F_a2 lc, b_a2⟩
 have MP : MtdOk l.prog w K mg base (CXr l.prog w) 3 C_cc "name_pin" ["self", "name", "pin"] (spNamePin K C_cc) := ⟨_, _, cls_cc, m_a6, ok_a6 F_a6 lc MN, b_a6⟩
 have MO : MtdOk l.prog w K mg base (CXr l.prog w) 1 C_cc "own_pin" ["self", "name"] (spOwn K C_cc) := ⟨_, _, cls_cc, m_a9, ok_a9 F_a9 lc, b_a9⟩
 have GPA := ok_c4 D_c4 MPn MPl
 have GHF := ok_b4 D_b4 m_len m_ca m_ci M_ci M_ca GRI b_aj (wR.mono (by decide)) (wF.mono (by decide))
 have GLP := ok_bw D_bw gc lc GPS MN MF MP GPA GHF MPp
 have GLB := ok_bx D_bx gc lc MO MF MPb
 have GLR := ok_bk D_bk M_cc m_cc LI b_am MC GLP GLB
 have GLF := ok_aq D_aq gc M_cb m_cb GGI b_al m_c0 hMo GLR
 have GRF := ok_ar D_ar m_isinstance m_str m_enumerate shc M_cj m_cj SI b_b2 MS MK m_cd hF GRo GLF
 have GC := ok_ag (P := l.prog) (w := w) (base := base) (CX := CXr l.prog w) D_ag m_len
 have GPt := ok_bn (P := l.prog) (w := w) (base := base) (CX := CXr l.prog w) D_bn m_range
 have GLw := ok_av (w := w) (base := base) ht D_av m_abs
 have GDr := ok_b6 D_b6 GLw
 have GNa := ok_b7 (P := l.prog) (w := w) (base := base) (CX := CXr l.prog w) D_b7 m_range m_len
 have GPi := ok_bp D_bp m_range GC GPt GDr (ok_bo D_bo GLw)
 have GBa := ok_bq D_bq m_range m_len GC
 have GFr := ok_b8 D_b8 m_len M_ch m_ch GI b_aw m_ck m_ca m_ci M_ck M_ci M_ca GRI b_aj (wH.mono (by decide)) (wR.mono (by decide)) (wF.mono (by decide)) MPp MPb
 have GTx := ok_br D_br m_len (fn_show (ok_ah (P := l.prog) (w := w) (base := base) (CX := CXr l.prog w) D_ah m_str))
 have GIs := ok_c6 D_c6 MPn MBs MPl MW ME
 exact ok_law F m_len m_isinstance m_str GC GNa GPi GBa GFr GTx GIs MTb MPb GSF GRF
end T_k81
open PySem PySem.W PyProof.Rows
set_option maxRecDepth 100000 in
set_option maxHeartbeats 0 in
theorem PySem.Challenge.cw_trussyard_k81_shown_and_read_holds : PySem.Challenge.rw_trussyard_k81_shown_and_read.Holds := by
 w_on; o_law; k_head; (case hw => w_witness2)
 k_fill
 refine Ty.walk (l := PySem.Challenge.rw_trussyard_k81_shown_and_read) (x := "_law_script") (k := 42) (CX := fun w => Ty.CXr (PySem.Challenge.rw_trussyard_k81_shown_and_read).prog w) rfl rfl (by first | rfl | decide +kernel) ⟨rfl, by decide, by decide⟩ (fun w h Y => PySem.W.kIn_of Y) (fun w => Ty.CXr.mute) ?F
 case F =>
  intro w mg fa h KX G hmg
  refine' T_k81.all_mk KX G hmg ?A0 ?A1 ?A2 ?A3 ?A4 ?A5 ?A6 ?A7 ?A8 ?A9 ?Aa ?Ab ?Ac ?Ad ?Ae ?Af ?Ag ?Ah ?Ai ?Aj ?Ak ?Al ?Am ?An ?Ao ?Ap ?Aq ?Ar ?As ?At ?Au ?Av ?Aw ?Ax ?Ay ?Az ?B0 ?B1 ?B2 ?B3 ?B4 ?B5 ?B6 ?B7 ?B8 ?B9 ?Ba ?Bb ?Bc ?Bd ?Be ?Bf ?Bg ?Bh ?Bi ?Bj ?Bk ?Bl ?Bm ?Bn ?Bo ?Bp ?Bq ?Br ?Bs ?Bt ?Bu ?Bv ?Bw ?Bx ?By ?Bz ?C0 ?C1 ?C2 ?C3 ?C4 ?C5 ?C6 ?C7 ?C8 ?C9 ?Ca ?Cb ?Cc ?Cd ?Ce ?Cf ?Cg ?Ch ?Ci ?Cj ?Ck ?Cl ?Cm ?Cn ?Co ?Cp ?Cq ?Cr ?Cs ?Ct ?Cu ?Cv ?Cw ?Cx ?Cy ?Cz ?D0 ?D1 ?D2 ?D3 ?D4 ?D5 ?D6 ?D7 ?D8 ?D9 ?Da ?Db ?Dc ?Dd ?De ?Df ?Dg ?Dh ?Di ?Dj ?Dk ?Dl ?Dm ?Dn ?Do ?Dp ?Dq ?Dr ?Ds ?Dt ?Du ?Dv ?Dw ?Dx ?Dy ?Dz ?E0 ?E1 ?E2 ?E3 ?E4 ?E5 ?E6 ?E7 ?E8 ?E9 ?Ea ?Eb ?Ec ?Ed ?Ee ?Ef ?Eg ?Eh ?Ei ?Ej ?Ek ?El ?Em ?En ?Eo ?Ep ?Eq ?Er ?Es ?Et ?Eu ?Ev ?Ew ?Ex ?Ey ?Ez ?F0 ?F1 ?F2 ?F3 ?F4 ?F5 ?F6 ?F7 ?F8 ?F9 ?Fa ?Fb ?Fc ?Fd ?Fe ?Ff ?Fg ?Fh ?Fi ?Fj ?Fk ?Fl ?Fm ?Fn ?Fo ?Fp ?Fq ?Fr ?Fs ?Ft ?Fu ?Fv ?Fw ?Fx ?Fy ?Fz ?G0 ?G1 ?G2 ?G3 ?G4 ?G5 ?G6 ?G7 ?G8 ?G9 ?Ga ?Gb ?Gc ?Gd ?Ge ?Gf ?Gg ?Gh ?Gi ?Gj ?Gk ?Gl ?Gm ?Gn ?Go ?Gp ?Gq ?Gr ?Gs ?Gt ?Gu ?Gv ?Gw ?Gx ?Gy ?Gz ?H0 ?H1 ?H2 ?H3 ?H4 ?H5 ?H6 ?H7 ?H8 ?H9 ?Ha ?Hb ?Hc ?Hd ?He ?Hf ?Hg ?Hh ?Hi ?Hj ?Hk ?Hl ?Hm ?Hn ?Ho ?Hp ?Hq ?Hr ?Hs ?Ht ?Hu ?Hv ?Hw ?Hx ?Hy ?Hz ?I0 ?I1 ?I2 ?I3 ?I4 ?I5 ?I6 ?I7 ?I8 ?I9 ?Ia ?Ib ?Ic ?Id ?Ie ?If ?Ig ?Ih ?Ii ?Ij ?Ik ?Il ?Im ?In ?Io ?Ip ?Iq ?Ir ?Is ?It ?Iu ?Iv ?Iw ?Ix ?Iy ?Iz ?J0 ?J1 ?J2 ?J3 ?J4 ?J5 ?J6 ?J7 ?J8 ?J9 ?Ja ?Jb ?Jc ?Jd ?Je ?Jf ?Jg ?Jh ?Ji ?Jj ?Jk ?Jl ?Jm ?Jn ?Jo ?Jp ?Jq ?Jr ?Js ?Jt ?Ju ?Jv ?Jw ?Jx ?Jy ?Jz ?K0 ?K1 ?K2 ?K3 ?K4 ?K5 ?K6 ?K7 ?K8 ?K9 ?Ka ?Kb ?Kc ?Kd ?Ke ?Kf ?Kg ?Kh ?Ki ?Kj ?Kk ?Kl ?Km ?Kn
  (case A0=>k_is);(case A1=>k_is);(case A2=>k_is);(case A3=>k_is);(case A4=>k_is);(case A5=>k_is);(case A6=>k_is);(case A7=>k_is);(case A8=>k_is);(case A9=>k_is);(case Aa=>k_is);(case Ab=>k_is);(case Ac=>k_is);(case Ad=>k_is);(case Ae=>k_is);(case Af=>k_is);(case Ag=>k_is);(case Ah=>k_is);(case Ai=>k_is);(case Aj=>k_is);(case Ak=>k_is);(case Al=>k_is);(case Am=>k_is);(case An=>k_is);(case Ao=>k_is);(case Ap=>k_is);(case Aq=>k_is);(case Ar=>k_is);(case As=>k_is);(case At=>k_is);(case Au=>k_is);(case Av=>k_is);(case Aw=>k_is);(case Ax=>k_is);(case Ay=>k_is);(case Az=>k_is);(case B0=>k_is);(case B1=>k_is);(case B2=>k_is);(case B3=>k_is);(case B4=>k_is);(case B5=>k_is);(case B6=>k_is);(case B7=>k_is);(case B8=>k_is);(case B9=>k_is);(case Ba=>k_is);(case Bb=>k_is);(case Bc=>k_is);(case Bd=>k_is);(case Be=>k_is);(case Bf=>k_is);(case Bg=>k_is);(case Bh=>k_is);(case Bi=>k_is);(case Bj=>k_is);(case Bk=>k_is);(case Bl=>k_is);(case Bm=>k_is);(case Bn=>k_is);(case Bo=>k_is);(case Bp=>k_is);(case Bq=>k_is);(case Br=>k_is);(case Bs=>k_is);(case Bt=>k_is);(case Bu=>k_is);(case Bv=>k_is);(case Bw=>k_is);(case Bx=>k_is);(case By=>k_is);(case Bz=>k_is);(case C0=>k_is);(case C1=>k_is);(case C2=>k_is);(case C3=>k_is);(case C4=>k_is);(case C5=>k_is);(case C6=>k_is);(case C7=>k_is);(case C8=>k_is);(case C9=>k_is);(case Ca=>k_is);(case Cb=>k_is);(case Cc=>k_is);(case Cd=>k_is);(case Ce=>k_is);(case Cf=>k_is);(case Cg=>k_is);(case Ch=>k_is);(case Ci=>k_is);(case Cj=>k_is);(case Ck=>k_is);(case Cl=>k_is);(case Cm=>k_is);(case Cn=>k_is);(case Co=>k_is);(case Cp=>k_is);(case Cq=>k_is);(case Cr=>k_is);(case Cs=>k_is);(case Ct=>k_is);(case Cu=>k_is);(case Cv=>k_is);(case Cw=>k_is);(case Cx=>k_is);(case Cy=>k_is);(case Cz=>k_is);(case D0=>k_is);(case D1=>k_is);(case D2=>k_is);(case D3=>k_is);(case D4=>k_is);(case D5=>k_is);(case D6=>k_is);(case D7=>k_is);(case D8=>k_is);(case D9=>k_is);(case Da=>k_is);(case Db=>k_is);(case Dc=>k_is);(case Dd=>k_is);(case De=>k_is);(case Df=>k_is);(case Dg=>k_is);(case Dh=>k_is);(case Di=>k_is);(case Dj=>k_is);(case Dk=>k_is);(case Dl=>k_is);(case Dm=>k_is);(case Dn=>k_is);(case Do=>k_is);(case Dp=>k_is);(case Dq=>k_is);(case Dr=>k_is);(case Ds=>k_is);(case Dt=>k_is);(case Du=>k_is);(case Dv=>k_is);(case Dw=>k_is);(case Dx=>k_is);(case Dy=>k_is);(case Dz=>k_is);(case E0=>k_is);(case E1=>k_is);(case E2=>k_is);(case E3=>k_is);(case E4=>k_is);(case E5=>k_is);(case E6=>k_is);(case E7=>k_is);(case E8=>k_is);(case E9=>k_is);(case Ea=>k_is);(case Eb=>k_is);(case Ec=>k_is);(case Ed=>k_is);(case Ee=>k_is);(case Ef=>k_is);(case Eg=>k_is);(case Eh=>k_is);(case Ei=>k_is);(case Ej=>k_is);(case Ek=>k_is);(case El=>k_is);(case Em=>k_is);(case En=>k_is);(case Eo=>k_is);(case Ep=>k_is);(case Eq=>k_is);(case Er=>k_is);(case Es=>k_is);(case Et=>k_is);(case Eu=>k_is);(case Ev=>k_is);(case Ew=>k_is);(case Ex=>k_is);(case Ey=>k_is);(case Ez=>k_is);(case F0=>k_is);(case F1=>k_is);(case F2=>k_is);(case F3=>k_is);(case F4=>k_is);(case F5=>k_is);(case F6=>k_is);(case F7=>k_is);(case F8=>k_is);(case F9=>k_is);(case Fa=>k_is);(case Fb=>k_is);(case Fc=>k_is);(case Fd=>k_is);(case Fe=>k_is);(case Ff=>k_is);(case Fg=>k_is);(case Fh=>k_is);(case Fi=>k_is);(case Fj=>k_is);(case Fk=>k_is);(case Fl=>k_is);(case Fm=>k_is);(case Fn=>k_is);(case Fo=>k_is);(case Fp=>k_is);(case Fq=>k_is);(case Fr=>k_is);(case Fs=>k_is);(case Ft=>k_is);(case Fu=>k_is);(case Fv=>k_is);(case Fw=>k_is);(case Fx=>k_is);(case Fy=>k_is);(case Fz=>k_is);(case G0=>k_is);(case G1=>k_is);(case G2=>k_is);(case G3=>k_is);(case G4=>k_is);(case G5=>k_is);(case G6=>k_is);(case G7=>k_is);(case G8=>k_is);(case G9=>k_is);(case Ga=>k_is);(case Gb=>k_is);(case Gc=>k_is);(case Gd=>k_is);(case Ge=>k_is);(case Gf=>k_is);(case Gg=>k_is);(case Gh=>k_is);(case Gi=>k_is);(case Gj=>k_is);(case Gk=>k_is);(case Gl=>k_is);(case Gm=>k_is);(case Gn=>k_is);(case Go=>k_is);(case Gp=>k_is);(case Gq=>k_is);(case Gr=>k_is);(case Gs=>k_is);(case Gt=>k_is);(case Gu=>k_is);(case Gv=>k_is);(case Gw=>k_is);(case Gx=>k_is);(case Gy=>k_is);(case Gz=>k_is);(case H0=>k_is);(case H1=>k_is);(case H2=>k_is);(case H3=>k_is);(case H4=>k_is);(case H5=>k_is);(case H6=>k_is);(case H7=>k_is);(case H8=>k_is);(case H9=>k_is);(case Ha=>k_is);(case Hb=>k_is);(case Hc=>k_is);(case Hd=>k_is);(case He=>k_is);(case Hf=>k_is);(case Hg=>k_is);(case Hh=>k_is);(case Hi=>k_is);(case Hj=>k_is);(case Hk=>k_is);(case Hl=>k_is);(case Hm=>k_is);(case Hn=>k_is);(case Ho=>k_is);(case Hp=>k_is);(case Hq=>k_is);(case Hr=>k_is);(case Hs=>k_is);(case Ht=>k_is);(case Hu=>k_is);(case Hv=>k_is);(case Hw=>k_is);(case Hx=>k_is);(case Hy=>k_is);(case Hz=>k_is);(case I0=>k_is);(case I1=>k_is);(case I2=>k_is);(case I3=>k_is);(case I4=>k_is);(case I5=>k_is);(case I6=>k_is);(case I7=>k_is);(case I8=>k_is);(case I9=>k_is);(case Ia=>k_is);(case Ib=>k_is);(case Ic=>k_is);(case Id=>k_is);(case Ie=>k_is);(case If=>k_is);(case Ig=>k_is);(case Ih=>k_is);(case Ii=>k_is);(case Ij=>k_is);(case Ik=>k_is);(case Il=>k_is);(case Im=>k_is);(case In=>k_is);(case Io=>k_is);(case Ip=>k_is);(case Iq=>k_is);(case Ir=>k_is);(case Is=>k_is);(case It=>k_is);(case Iu=>k_is);(case Iv=>k_is);(case Iw=>k_is);(case Ix=>k_is);(case Iy=>k_is);(case Iz=>k_is);(case J0=>k_is);(case J1=>k_is);(case J2=>k_is);(case J3=>k_is);(case J4=>k_is);(case J5=>k_is);(case J6=>k_is);(case J7=>k_is);(case J8=>k_is);(case J9=>k_is);(case Ja=>k_is);(case Jb=>k_is);(case Jc=>k_is);(case Jd=>k_is);(case Je=>k_is);(case Jf=>k_is);(case Jg=>k_is);(case Jh=>k_is);(case Ji=>k_is);(case Jj=>k_is);(case Jk=>k_is);(case Jl=>k_is);(case Jm=>k_is);(case Jn=>k_is);(case Jo=>k_is);(case Jp=>k_is);(case Jq=>k_is);(case Jr=>k_is);(case Js=>k_is);(case Jt=>k_is);(case Ju=>k_is);(case Jv=>k_is);(case Jw=>k_is);(case Jx=>k_is);(case Jy=>k_is);(case Jz=>k_is);(case K0=>k_is);(case K1=>k_is);(case K2=>k_is);(case K3=>k_is);(case K4=>k_is);(case K5=>k_is);(case K6=>k_is);(case K7=>k_is);(case K8=>k_is);(case K9=>k_is);(case Ka=>rfl);(case Kb=>kernel_rfl);(case Kc=>kernel_rfl);(case Kd=>kernel_rfl);(case Ke=>kernel_rfl);(case Kf=>k_is);(case Kg=>k_is);(case Kh=>k_is);(case Ki=>k_is);(case Kj=>k_is);(case Kk=>k_is);(case Kl=>k_is);(case Km=>k_is);(case Kn=>k_is)
#print axioms PySem.Challenge.cw_trussyard_k81_shown_and_read_holds
