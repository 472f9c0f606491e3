import PyProof.Rows.All
import Wide.All
import OpenK.AllK
import Wide.FinOn
import Lean
import PyProof.EqAt
import PyProof.EqKinds
import PyProof.TupleCall
import PyProof.ZipIter
import PyProof.SumWalkG
import PyProof.ListCopy
import PyProof.ListStr
import PyProof.DictItems
import PyProof.DictWalks
import PyProof.DictTruth
import PyProof.EnumMake
import PyProof.InstStoreFacts
import PyProof.Rows.SortWalk
import PyProof.ListRange
import PyProof.DictValues
import KE.KRevSl
import KE.KDictOf
import PyProof.DictIter
import PyProof.FactsAll.dict_1
import PyProof.AttrMissHeap
import KE.KEqDict
import KE.KDictList
import KE.KItemsList
import PySem.Challenge.RW_trussyard_k32_no_such_pin
set_option Elab.async false
set_option linter.all false
set_option maxRecDepth 100000
theorem gE.{u}{α:Type u}{l:List α}{i:Nat}(h:i < l.length):l[i]? =some l[i]:=List.getElem?_eq_getElem h
def PySem.W.Fast.tw365255539559782979:Unit:=()
def PySem.W.Fast.tw12044175287856889682:Unit:=()
def PySem.W.Fast.tw1569292748095349638:Unit:=()
def PySem.W.Fast.tw13034188691340299585:Unit:=()
def PySem.W.Fast.tw11299987391225924332:Unit:=()
def PySem.W.Fast.tw8846055322744181229:Unit:=()
def PySem.W.Fast.tw15189649977646221489:Unit:=()
def PySem.W.Fast.tw7257064507149296919:Unit:=()
def PySem.W.Fast.tw2022222716855460691:Unit:=()
def PySem.W.Fast.tw13090107573184778754:Unit:=()
def PySem.W.Fast.tw14830631459759378107:Unit:=()
def PySem.W.Fast.tw8719210227469648873:Unit:=()
def PySem.W.Fast.tw7101093673399629671:Unit:=()
def PySem.W.Fast.tw9356513016816418090:Unit:=()
def PySem.W.Fast.tw16336941800621587583:Unit:=()
def PySem.W.Fast.tw16471186962932896958:Unit:=()
def PySem.W.Fast.tw759975834901042607:Unit:=()
def PySem.W.Fast.tw14641367132712178594:Unit:=()
def PySem.W.Fast.tw1388088891565642032:Unit:=()
def PySem.W.Fast.tw9706095098810520388:Unit:=()
def PySem.W.Fast.tw18374682845965009897:Unit:=()
def PySem.W.Fast.tw6131326091053243822:Unit:=()
def PySem.W.Fast.tw17078269917878527504:Unit:=()
def PySem.W.Fast.tw8514030249864630779:Unit:=()
def PySem.W.Fast.tw12257445773774940644:Unit:=()
def PySem.W.Fast.tw5191708988622920905:Unit:=()
def PySem.W.Fast.tw14007054080881234213:Unit:=()
def PySem.W.Fast.tw12528310996785467013:Unit:=()
def PySem.W.Fast.tw6382498407562166111:Unit:=()
def PySem.W.Fast.tw12518289114822152515:Unit:=()
def PySem.W.Fast.tw13871834616796416502:Unit:=()
def PySem.W.Fast.tw5423787666602857317:Unit:=()
def PySem.W.Fast.tw8819766843170633158:Unit:=()
def PySem.W.Fast.tw15144997475252426417:Unit:=()
def PySem.W.Fast.tw14960362086150693628:Unit:=()
def PySem.W.Fast.tw11004518219511918142:Unit:=()
def PySem.W.Fast.tw11994551768245081397:Unit:=()
def PySem.W.Fast.tw7738162370357545127:Unit:=()
def PySem.W.Fast.tw4531642456711749403:Unit:=()
def PySem.W.Fast.tw14842745395366343651:Unit:=()
def PySem.W.Fast.tw16788311833087038187:Unit:=()
open PySem.W (Frag nsIn codeIn keepIn fnOf mg_of mg_none_of)
def PySem.W.Fast.tw10787749741872606130:Unit:=()
def PySem.W.Fast.tw13011515690140835864:Unit:=()
def PySem.W.Fast.tw7578504018484003943:Unit:=()
def PySem.W.Fast.tw8447613341571659086:Unit:=()
def PySem.W.Fast.tw11532401771466818591:Unit:=()
def PySem.W.Fast.tw18108156166515580184:Unit:=()
def PySem.W.Fast.tw14281753254655370829:Unit:=()
def PySem.W.Fast.tw8712560668293172991:Unit:=()
def PySem.W.Fast.tw34266497853216091:Unit:=()
def PySem.W.Fast.tw5152630763886434355:Unit:=()
def PySem.W.Fast.tw11886517823906041011:Unit:=()
def PySem.W.Fast.tw755186688351505523:Unit:=()
def PySem.W.Fast.tw13680547194825430929:Unit:=()
def PySem.W.Fast.tw8292982469296028364:Unit:=()
def PySem.W.Fast.tw730374321905907732:Unit:=()
def PySem.W.Fast.tw4365063225896294230:Unit:=()
def PySem.W.Fast.tw13769282214488929815:Unit:=()
def PySem.W.Fast.tw3833884107142660910:Unit:=()
def PySem.W.Fast.tw2883143584367325618:Unit:=()
def PySem.W.Fast.tw9079746923221478733:Unit:=()
def PySem.W.Fast.tw13234746072628355957:Unit:=()
namespace L2
open PySem PySem.Spec PyProof.Rows
abbrev Key:=Sum Int Str
def keyIs:Key→Value→Bool
 | .inl k,v=>Value.isInt k v
 | .inr x,v=>Value.isStrOf x v
def keyH (w:World):Key→Int
 | .inl k=>hashInt k
 | .inr x=>hashStr w x
theorem keyIs_shape:∀{k:Key} {v:Value},keyIs k v=true→(∃i t,k=Sum.inl i∧v=Value.int i t)∨(∃x t,k=Sum.inr x∧v=Value.str x t)
 | .inl i,v,h=>by
  obtain ⟨t,e⟩:=Value.isInt_shape (k:=i) (v:=v) h
  exact .inl ⟨i,t,rfl,e⟩
 | .inr x,v,h=>by
  obtain ⟨t,e⟩:=Value.isStrOf_shape (x:=x) (v:=v) h
  exact .inr ⟨x,t,rfl,e⟩
theorem keyIs_int (i:Int)(t:Tok):keyIs (.inl i) (.int i t)=true:=by simp [keyIs,Value.isInt]
theorem keyIs_str (x:Str)(t:Tok):keyIs (.inr x) (.str x t)=true:=by simp [keyIs,Value.isStrOf]
theorem key_ll (a b:Int):decide ((Sum.inl a:Key)=Sum.inl b)=(a==b):=by
 by_cases e:a=b
 ·subst e;simp
 ·have h:¬ (Sum.inl a:Key)=Sum.inl b:=fun q=>e (Sum.inl.inj q)
  rw [decide_eq_false h]
  exact (beq_eq_false_iff_ne.mpr e).symm
theorem key_rr (a b:Str):decide ((Sum.inr a:Key)=Sum.inr b)=decide (a=b):=by
 by_cases e:a=b
 ·subst e;simp
 ·have h:¬ (Sum.inr a:Key)=Sum.inr b:=fun q=>e (Sum.inr.inj q)
  rw [decide_eq_false h,decide_eq_false e]
theorem key_lr (a:Int)(b:Str):decide ((Sum.inl a:Key)=Sum.inr b)=false:=decide_eq_false (fun q=>nomatch q)
theorem key_rl (a:Str)(b:Int):decide ((Sum.inr a:Key)=Sum.inl b)=false:=decide_eq_false (fun q=>nomatch q)
def mixKind (prog:Program)(w:World):PySem.KeyKind prog w Key where
 is:=keyIs
 hash:=keyH w
 inj:=fun v a b ha hb=>by
  rcases keyIs_shape ha with ⟨i,t,rfl,rfl⟩ | ⟨x,t,rfl,rfl⟩
  ·rcases keyIs_shape hb with ⟨j,u,rfl,e⟩ | ⟨y,u,rfl,e⟩
   ·injection e with e1 _;rw [e1]
   ·exact nomatch e
  ·rcases keyIs_shape hb with ⟨j,u,rfl,e⟩ | ⟨y,u,rfl,e⟩
   ·exact nomatch e
   ·injection e with e1 _;rw [e1]
 byValue:=fun k v h=>by
  rcases keyIs_shape h with ⟨i,t,rfl,rfl⟩ | ⟨x,t,rfl,rfl⟩ <;> rfl
 pyHash:=fun hv h=>by
  rcases keyIs_shape hv with ⟨i,t,rfl,rfl⟩ | ⟨x,t,rfl,rfl⟩
  ·exact wpAny_pyHash_int h
  ·exact wpAny_pyHash_str h
 eqBool:=fun hu hv h=>by
  rcases keyIs_shape hu with ⟨i,t,rfl,rfl⟩ | ⟨x,t,rfl,rfl⟩
  ·rcases keyIs_shape hv with ⟨j,u,rfl,rfl⟩ | ⟨y,u,rfl,rfl⟩
   ·rw [key_ll] at h;exact wpAny_eqBool_int h
   ·rw [key_lr] at h;exact SeqAt.EqAt.int_str i t y u _ _ _ _ h
  ·rcases keyIs_shape hv with ⟨j,u,rfl,rfl⟩ | ⟨y,u,rfl,rfl⟩
   ·rw [key_rl] at h;exact SeqAt.EqAt.str_int x t j u _ _ _ _ h
   ·rw [key_rr] at h;exact wpAny_eqBool_str h
 «strs»:=fun k x t v h=>by
  rcases keyIs_shape h with ⟨i,u,rfl,e⟩ | ⟨y,u,rfl,e⟩
  ·exact nomatch e
  ·injection e with e1 _
   subst e1
   cases v <;> rfl
theorem mixKind_int (prog:Program)(w:World)(i:Int)(t:Tok):(mixKind prog w).is (.inl i) (.int i t)=true:=keyIs_int i t
theorem mixKind_str (prog:Program)(w:World)(x:Str)(t:Tok):(mixKind prog w).is (.inr x) (.str x t)=true:=keyIs_str x t
end L2
namespace L2
open PySem PySem.Spec PyProof.Rows
inductive V where
 | non | bl (b:Bool) | int (i:Int) | str (x:Str) | byt (b:Array UInt8) | flt (b:UInt64) | ref (a:Addr) | ty (n:String)
 deriving DecidableEq
def RelV:V→Value→Prop
 | .non,u=>u=Value.none
 | .bl b,u=>u=Value.bool b
 | .int i,u=>∃t,u=Value.int i t
 | .str x,u=>∃t,u=Value.str x t
 | .byt b,u=>∃t,u=Value.bytes b t
 | .flt b,u=>∃t,u=Value.float b t
 | .ref a,u=>u=Value.ref a
 | .ty n,u=>u=Value.type n
abbrev Vals:List V→List Value→Prop:=Paired RelV
theorem Vals.length {xs:List V}{us:List Value}(r:Vals xs us):xs.length=us.length:=Paired.length r
theorem Vals.get:∀{xs:List V} {us:List Value} {i:Nat} {x:V},Vals xs us→xs[i]? =some x→∃u,us[i]? =some u∧RelV x u
 | _,_,_,_,.nil,e=>by simp at e
 | _,_,0,_,.cons r _,e=>by simp at e;subst e;exact ⟨_,rfl,r⟩
 | _,_,i+1,x,.cons _ t,e=>by
  obtain ⟨u,h1,h2⟩:=Vals.get (i:=i) (x:=x) t (by simpa using e)
  exact ⟨u,by simpa using h1,h2⟩
theorem Vals.set {x:V}{u:Value}(r:RelV x u):∀{xs:List V} {us:List Value} (i:Nat),Vals xs us→Vals (xs.set i x) (us.set i u)
 | _,_,_,.nil=>.nil
 | _,_,0,.cons _ t=>.cons r t
 | _,_,i+1,.cons q t=>.cons q (Vals.set r i t)
theorem Vals.append:∀{xs ys:List V} {us ws:List Value},Vals xs us→Vals ys ws→Vals (xs++ys) (us++ws)
 | _,_,_,_,.nil,s=>s
 | _,_,_,_,.cons r t,s=>.cons r (Vals.append t s)
theorem Vals.take:∀{xs:List V} {us:List Value} (n:Nat),Vals xs us→Vals (xs.take n) (us.take n)
 | _,_,0,_=>.nil
 | _,_,_+1,.nil=>.nil
 | _,_,n+1,.cons r t=>.cons r (Vals.take n t)
theorem Vals.drop:∀{xs:List V} {us:List Value} (n:Nat),Vals xs us→Vals (xs.drop n) (us.drop n)
 | _,_,0,r=>r
 | _,_,_+1,.nil=>.nil
 | _,_,n+1,.cons _ t=>Vals.drop n t
def RelO:Option V→Option Value→Prop
 | some v,some u=>RelV v u
 | none,none=>True
 | _,_=>False
def KV {κ:Type}:List (κ×V)→List (κ×Value)→Prop:=Paired fun (p:κ×V) (q:κ×Value)=>p.1=q.1∧RelV p.2 q.2
def kV:Key→V
 | .inl i=>.int i
 | .inr x=>.str x
inductive HO where
 | lst (xs:List V)
 | tup (xs:List V)
 | dK (kvs:List (Key×V)) | dT (kvs:List (List Key×V))
 | set (S:Int→Bool) (n:Nat)
 | ins (C dx:Addr) (fs:List (Str×V))
 | own (x:Addr)
 | xd (fs:List (Str×V))
 | met (f x:Addr)
 | rng (lo hi:Int)
 | frz (o:Obj) (u:HO)
 | tbl (ps:Array Value)
 | ext (φ:Heap→Prop)
abbrev Hp:=Addr→Option HO
def upd (H:Hp)(a:Addr)(o:HO):Hp:=fun b=>if b=a then some o else H b
theorem upd_same {H:Hp}{a:Addr}{o:HO}:upd H a o a=some o:=by unfold upd;rw [if_pos rfl]
theorem upd_ne {H:Hp}{a b:Addr}{o:HO}(h:b≠a):upd H a o b=H b:=by unfold upd;rw [if_neg h]
theorem ne_of {H:Hp}{a b:Addr}{o u:HO}(h:H a=some o)(h' :H b=some u)(d:o≠u):a≠b:=by
 intro e;subst e;rw [h] at h';exact d (Option.some.inj h')
theorem ne_of_none {H:Hp}{a b:Addr}{o:HO}(h:H a=some o)(h' :H b=none):a≠b:=by
 intro e;subst e;rw [h] at h';cases h'
section
variable (P:Program)(w:World)
def ObjOk (H:Hp)(h:Heap)(a:Addr):HO→Prop
 | .lst xs=>xs.length≤sizeLine∧∃(its:List Value) (n:Nat),Vals xs its∧h.get? a=some {cls:=.type "list",data:=.seq its.toArray n}
 | .tup xs=>xs.length≤sizeLine∧∃its:List Value,Vals xs its∧IsTup h a its.toArray
 | .dK kvs=>kvs.length≤sizeLine∧(a==sysModules)=false∧∃vs,KV kvs vs∧h.DictOf (mixKind P w) a vs
 | .dT kvs=>kvs.length≤sizeLine∧(a==sysModules)=false∧∃xs:List (List Key×Addr×Value),
   Paired (fun (p:List Key×V) (q:List Key×Addr×Value)=>p.1=q.1∧H q.2.1=some (.tup (p.1.map kV))∧RelV p.2 q.2.2) kvs xs∧
   ∃o es ep,h.get? a=some o∧o.ExactDict∧o.data=.dict es ep∧es.toList=xs.map (entryOfKey (tupleKind (mixKind P w)))∧(xs.map (·.1)).Nodup
 | .set S n=>h.SetOf (intKind P w) a S n
 | .ins C dx fs=>H dx=some (.own a)∧fs.length≤1000∧dx≠a∧h.get? a=some (PySem.W.instObj C dx)∧
   ∃mA,h.Ns1 dx mA∧(∀f,RelO (fs.lookup f) (mA f))∧PySem.Within mA (fs.map (·.1))
 | .own _=>∃o,h.get? a=some o
 | .xd fs=>∃mA,h.Ns1 a mA∧∀f,RelO (fs.lookup f) (mA f)
 | .rng lo hi=>∃t u v,h.get? a=some {cls:=.type "range",data:=.fields #[.int lo t,.int hi u,.int 1 v]}
 | .frz o u=>h.get? a=some o∧ObjOk H h a u
 | .tbl ps=>h.get? a=some {cls:=.none,data:=.fields ps}
 | .met f x=>h.get? a=some (PySem.W.methodObj (.ref f) (.ref x))
 | .ext φ=>φ h∧(∃o,h.get? a=some o)∧∀h1 h2:Heap,φ h1→(∀o,h1.get? a=some o→h2.get? a=some o)→φ h2
def HOk (H:Hp)(h:Heap):Prop:=∀a o,H a=some o→ObjOk P w H h a o
end
section
variable {P:Program}{w:World}{H H' :Hp}{h h' :Heap}{a:Addr}{o:HO}
theorem ObjOk.lt (x:ObjOk P w H h a o):a < h.objs.size:=by
 cases o with
 | lst xs=>obtain ⟨_,_,_,_,e⟩:=x;exact Heap.lt_size e
 | tup xs=>obtain ⟨_,_,_,p⟩:=x;exact p.lt
 | dK kvs=>obtain ⟨_,_,_,_,o,_,_,e,_⟩:=x;exact Heap.lt_size e
 | dT kvs=>obtain ⟨_,_,_,_,o,_,_,e,_⟩:=x;exact Heap.lt_size e
 | set S n=>obtain ⟨o,_,_,_,e,_⟩:=x;exact Heap.lt_size e
 | ins C dx fs=>obtain ⟨_,_,_,e,_⟩:=x;exact Heap.lt_size e
 | own y=>obtain ⟨_,e⟩:=x;exact Heap.lt_size e
 | xd fs=>obtain ⟨_,⟨_,_,_,e,_⟩,_⟩:=x;exact Heap.lt_size e
 | rng lo hi=>obtain ⟨_,_,_,e⟩:=x;exact Heap.lt_size e
 | frz ob u=>obtain ⟨e,_⟩:=x;exact Heap.lt_size e
 | tbl ps=>exact Heap.lt_size (show h.get? a=some _ from x)
 | met f y=>exact Heap.lt_size (show h.get? a=some _ from x)
 | ext φ=>obtain ⟨_,⟨_,e⟩,_⟩:=x;exact Heap.lt_size e
theorem Paired.mapP {α β:Type}{F G:α→β→Prop}:∀{l₁:List α} {l₂:List β},Paired F l₁ l₂→(∀a b,F a b→G a b)→Paired G l₁ l₂
 | _,_,.nil,_=>.nil
 | _,_,.cons r t,f=>.cons (f _ _ r) (Paired.mapP t f)
theorem ObjOk.stay (x:ObjOk P w H h a o)(k:∀b u,(b=a∨H b=some (.own a))→h.get? b=some u→h'.get? b=some u)
  (ho:∀b,H b=some (.own a)→H' b=some (.own a)) (ht:∀b xs,H b=some (.tup xs)→H' b=some (.tup xs)):ObjOk P w H' h' a o:=by
 induction o with
 | lst xs=>obtain ⟨z,its,n,r,e⟩:=x;exact ⟨z,its,n,r,k _ _ (.inl rfl) e⟩
 | tup xs=>obtain ⟨z,its,r,ob,e,c⟩:=x;exact ⟨z,its,r,ob,k _ _ (.inl rfl) e,c⟩
 | dK kvs=>obtain ⟨z,y,vs,r,ob,es,ep,e,c⟩:=x;exact ⟨z,y,vs,r,ob,es,ep,k _ _ (.inl rfl) e,c⟩
 | dT kvs=>
  obtain ⟨z,y,xs,r,ob,es,ep,e,c⟩:=x
  exact ⟨z,y,xs,Paired.mapP r fun p q z=>⟨z.1,ht _ _ z.2.1,z.2.2⟩,ob,es,ep,k _ _ (.inl rfl) e,c⟩
 | set S n=>obtain ⟨ob,es,ep,t,e,c⟩:=x;exact ⟨ob,es,ep,t,k _ _ (.inl rfl) e,c⟩
 | ins C dx fs=>
  obtain ⟨d,z,ne,e,mA,⟨od,es,ep,e2,c⟩,r⟩:=x
  exact ⟨ho _ d,z,ne,k _ _ (.inl rfl) e,mA,⟨od,es,ep,k _ _ (.inr d) e2,c⟩,r⟩
 | own y=>obtain ⟨ob,e⟩:=x;exact ⟨ob,k _ _ (.inl rfl) e⟩
 | xd fs=>obtain ⟨mA,⟨od,es,ep,e,c⟩,r⟩:=x;exact ⟨mA,⟨od,es,ep,k _ _ (.inl rfl) e,c⟩,r⟩
 | rng lo hi=>obtain ⟨t,u,v,e⟩:=x;exact ⟨t,u,v,k _ _ (.inl rfl) e⟩
 | frz ob u ih=>obtain ⟨e,q⟩:=x;exact ⟨k _ _ (.inl rfl) e,ih q⟩
 | tbl ps=>
  have e:h.get? a=some {cls:=.none,data:=.fields ps}:=x
  show h'.get? a=some {cls:=.none,data:=.fields ps}
  exact k a _ (.inl rfl) e
 | met f y=>
  have e:h.get? a=some (PySem.W.methodObj (.ref f) (.ref y)):=x
  show h'.get? a=some (PySem.W.methodObj (.ref f) (.ref y))
  exact k a _ (.inl rfl) e
 | ext φ=>obtain ⟨p,⟨o,e⟩,st⟩:=x;exact ⟨st _ _ p fun o q=>k _ _ (.inl rfl) q,⟨o,k _ _ (.inl rfl) e⟩,st⟩
theorem HOk.lt (x:HOk P w H h)(e:H a=some o):a < h.objs.size:=(x a o e).lt
theorem HOk.fresh (x:HOk P w H h)(e:h.objs.size≤a):H a=none:=by
 cases q:H a with
 | none=>rfl
 | some u=>exact absurd (Nat.lt_of_lt_of_le (x.lt q) e) (Nat.lt_irrefl _)
theorem HOk.kept (x:HOk P w H h)(k:∀b u,h.get? b=some u→h'.get? b=some u):HOk P w H h' :=fun a o e=>
 (x a o e).stay (fun b u _ q=>k b u q) (fun _ q=>q) fun _ _ q=>q
theorem HOk.laid (x:HOk P w H h)(k:∀b u,h.get? b=some u→h'.get? b=some u)(hp:h.objs.size≤a)(new:ObjOk P w (upd H a o) h' a o):HOk P w (upd H a o) h' :=fun b u e=>by
 have hn:=x.fresh hp
 by_cases hb:b=a
 ·subst hb;rw [upd_same] at e;cases e;exact new
 ·rw [upd_ne hb] at e
  exact (x b u e).stay (fun c v _ q=>k c v q) (fun c q=>by rw [upd_ne (ne_of_none q hn)];exact q) fun c xs q=>by rw [upd_ne (ne_of_none q hn)];exact q
end
def Rd (H:Hp)(a:Addr)(u:HO):Prop:=H a=some u∨∃o,H a=some (.frz o u)
theorem Rd.of {H:Hp}{a:Addr}{u:HO}(h:H a=some u):Rd H a u:=.inl h
theorem Rd.ok {P:Program}{w:World}{H:Hp}{h:Heap}{a:Addr}{u:HO}(r:Rd H a u)(x:HOk P w H h):ObjOk P w H h a u:=by
 rcases r with r | ⟨o,r⟩
 ·exact x a u r
 ·obtain ⟨_,q⟩:=x a _ r
  exact q
def Mut:Option HO→Prop
 | some (.lst _)=>True
 | some (.dK _)=>True
 | some (.dT _)=>True
 | some (.set _ _)=>True
 | some (.ins _ _ _)=>True
 | some (.ext _)=>True
 | _=>False
section
variable {P:Program}{w:World}{H:Hp}{h h' :Heap}{x e:Addr}{o' :HO}
theorem HOk.write (ok:HOk P w H h)(mu:Mut (H x))(he:e=x∨H e=some (.own x))(k:∀b u,b≠e→h.get? b=some u→h'.get? b=some u)(heo:∃u,h'.get? e=some u)
  (new:ObjOk P w (upd H x o') h' x o'):HOk P w (upd H x o') h' :=fun b u q=>by
 have nown:∀c y,H c=some (.own y)→c≠x:=fun c y r z=>by subst z;rw [r] at mu;exact mu
 have ntup:∀c xs,H c=some (.tup xs)→c≠x:=fun c xs r z=>by subst z;rw [r] at mu;exact mu
 by_cases hb:b=x
 ·subst hb;rw [upd_same] at q;cases q;exact new
 ·rw [upd_ne hb] at q
  by_cases hbe:b=e
  ·have q' :H b=some (.own x):=by
    rcases he with z | z
    ·exact absurd (hbe.trans z) hb
    ·rw [hbe];exact z
   rw [q] at q';cases q'
   obtain ⟨v,hv⟩:=heo
   exact ⟨v,by rw [hbe];exact hv⟩
  ·refine (ok b u q).stay (fun c v hc r=>k c v ?_ r) (fun c r=>by rw [upd_ne (nown c b r)];exact r) fun c xs r=>by rw [upd_ne (ntup c xs r)];exact r
   rcases hc with rfl | hc
   ·exact hbe
   ·rintro rfl
    rcases he with z | z
    ·exact nown c b hc z
    ·rw [hc] at z;cases z;exact hb rfl
end
structure Un (fs ex:List Addr)(H H' :Hp)(h h' :Heap):Prop where
 keep:∀b o,h.get? b=some o→H b=none→b∉fs→b∉ex→h'.get? b=some o
 slot:∀b o,h.get? b=some o→H b=none→b∈fs→b∉ex→∃sl,h'.get? b=some {o with slots:=sl}
 free:∀b o,h.get? b=some o→H b=none→b∉ex→H' b=none
 there:∀b o,h.get? b=some o→b∉ex→∃o',h'.get? b=some o'
 tups:∀b xs,H b=some (.tup xs)→H' b=some (.tup xs)
 frzs:∀b o u,H b=some (.frz o u)→H' b=some (.frz o u)
 tbls:∀b ps,H b=some (.tbl ps)→∃more,H' b=some (.tbl (ps++more))
section
variable {fs fs' ex ex' :List Addr}{H H1 H2:Hp}{h h1 h2 h' :Heap}{a x e:Addr}{o:HO}
theorem Un.any (u:Un fs ex H H1 h h1){b:Addr}{ob:Obj}(q:h.get? b=some ob)(n:H b=none)(hx:b∉ex):∃sl,h1.get? b=some {ob with slots:=sl}:=by
 by_cases hb:b∈fs
 ·exact u.slot b ob q n hb hx
 ·exact ⟨ob.slots,u.keep b ob q n hb hx⟩
theorem Un.trans (a:Un fs ex H H1 h h1)(b:Un fs ex H1 H2 h1 h2):Un fs ex H H2 h h2 where
 keep:=fun c ob q n hc hx=>b.keep c ob (a.keep c ob q n hc hx) (a.free c ob q n hx) hc hx
 slot:=fun c ob q n hc hx=>by
  obtain ⟨sl,e1⟩:=a.slot c ob q n hc hx
  obtain ⟨sl',e2⟩:=b.slot c _ e1 (a.free c ob q n hx) hc hx
  exact ⟨sl',e2⟩
 free:=fun c ob q n hx=>by
  obtain ⟨o',e1⟩:=a.there c ob q hx
  exact b.free c o' e1 (a.free c ob q n hx) hx
 there:=fun c ob q hx=>by
  obtain ⟨o',e1⟩:=a.there c ob q hx
  exact b.there c o' e1 hx
 tups:=fun c xs q=>b.tups c xs (a.tups c xs q)
 frzs:=fun c ob xs q=>b.frzs c ob xs (a.frzs c ob xs q)
 tbls:=fun c ps q=>by
  obtain ⟨m1,e1⟩:=a.tbls c ps q
  obtain ⟨m2,e2⟩:=b.tbls c _ e1
  exact ⟨m1++m2,by rw [e2,Array.append_assoc]⟩
theorem Un.kept (k:∀b u,h.get? b=some u→h'.get? b=some u):Un fs ex H H h h' :=
 ⟨fun b ob q _ _ _=>k b ob q,fun b ob q _ _ _=>⟨ob.slots,k b ob q⟩,fun _ _ _ n _=>n,fun b ob q _=>⟨ob,k b ob q⟩,fun _ _ q=>q,fun _ _ _ q=>q,fun _ ps q=>⟨#[],by rw [q];simp⟩⟩
theorem Un.refl:Un fs ex H H h h:=Un.kept fun _ _ q=>q
theorem Un.laid (k:∀b u,h.get? b=some u→h'.get? b=some u)(hp:h.objs.size≤a)(hn:H a=none):Un fs ex H (upd H a o) h h' where
 keep:=fun b u q _ _ _=>k b u q
 slot:=fun b u q _ _ _=>⟨u.slots,k b u q⟩
 free:=fun b u q n _=>by rw [upd_ne (Nat.ne_of_lt (Nat.lt_of_lt_of_le (Heap.lt_size q) hp))];exact n
 there:=fun b u q _=>⟨u,k b u q⟩
 tups:=fun b xs q=>by rw [upd_ne (ne_of_none q hn)];exact q
 frzs:=fun b u xs q=>by rw [upd_ne (ne_of_none q hn)];exact q
 tbls:=fun b ps q=>⟨#[],by rw [upd_ne (ne_of_none q hn),q];simp⟩
theorem Un.write (mu:Mut (H x))(he:e=x∨H e=some (.own x))(k:∀b u,b≠e→h.get? b=some u→h'.get? b=some u)(heo:∃u,h'.get? e=some u):Un fs ex H (upd H x o) h h' :=by
 have hx:∀b,H b=none→b≠x:=fun b n z=>by subst z;rw [n] at mu;exact mu
 have hb:∀b,H b=none→b≠e:=fun b n z=>by
  subst z
  rcases he with r | r
  ·exact hx b n r
  ·rw [n] at r;cases r
 have hm:∀b u,H b=some u→¬ Mut (some u)→b≠x:=fun b u q nm z=>by subst z;rw [q] at mu;exact nm mu
 refine ⟨fun b u q n _ _=>k b u (hb b n) q,fun b u q n _ _=>⟨u.slots,k b u (hb b n) q⟩,fun b u q n _=>by rw [upd_ne (hx b n)];exact n,fun b u q _=> ?_,
  fun b xs q=>by rw [upd_ne (hm b _ q fun z=>z)];exact q,fun b u xs q=>by rw [upd_ne (hm b _ q fun z=>z)];exact q,fun b ps q=>⟨#[],by rw [upd_ne (hm b _ q fun z=>z),q];simp⟩⟩
 by_cases hbe:b=e
 ·subst hbe;exact heo
 ·exact ⟨u,k b u hbe q⟩
theorem Un.mono (u:Un fs ex H H1 h h1)(hs:∀b∈fs,b∈fs')(hx:∀b∈ex,b∈ex'):Un fs' ex' H H1 h h1:=
 ⟨fun b ob q n hb he=>u.keep b ob q n (fun z=>hb (hs b z)) fun z=>he (hx b z),fun _ _ q n _ he=>u.any q n fun z=>he (hx _ z),fun b ob q n he=>u.free b ob q n fun z=>he (hx b z),fun b ob q he=>u.there b ob q fun z=>he (hx b z),u.tups,u.frzs,u.tbls⟩
end
def trk (h:Heap)(H:Hp):List Addr:=(List.range h.objs.size).filter fun a=>(H a).isSome
def hidT (h:Heap)(H:Hp):Heap:=PySem.W.hideAll h (trk h H)
theorem hidT_size (h:Heap)(H:Hp):(hidT h H).objs.size=h.objs.size:=PySem.W.hideAll_size _ _
theorem hidT_get {h:Heap}{H:Hp}{b:Addr}{o:Obj}(e:h.get? b=some o)(n:H b=none):(hidT h H).get? b=some o:=
 PySem.W.hideAll_get _ e fun hm=>by
  have q:(H b).isSome=true:=(List.mem_filter.mp hm).2
  rw [n] at q;simp at q
theorem of_hidT {h:Heap}{H:Hp}{b:Addr}{o:Obj}(e:(hidT h H).get? b=some o):h.get? b=some o∧H b=none:=by
 have e' :h.get? b=some o:=PySem.W.of_hideAll (trk h H) e
 refine ⟨e',?_⟩
 cases q:H b with
 | none=>rfl
 | some x=>
  have hm:b∈trk h H:=List.mem_filter.mpr ⟨List.mem_range.mpr (Heap.lt_size e'),by simp [q]⟩
  have z:(hidT h H).get? b=none:=PySem.W.hideAll_none (trk h H) hm
  rw [z] at e;cases e
def allNews (g h:Heap)(L:Addr):List (Addr×Obj):=(List.range h.objs.size).filterMap fun a=>if a=L∨(g.get? a).isSome=true then none else (h.get? a).map fun o=>(a,o)
def rest (g h:Heap)(L d:Addr):List (Addr×Obj):=(allNews g h L).filter fun p=>decide (p.1≠d)
end L2
namespace L2
open PySem PySem.Spec PyProof.Rows
structure Mod (K:Frag)(mg:Str→Option Value)(base:Heap):Prop where
 kin:K.In base
 glob:base.Ns mainGlobals mg
 blt:∃mb,base.Ns builtinsNs mb∧∀x:Str,x≠ "__name__"→mb x=bootBuiltins x
 nolimit:base.NoLimit
 seer:base.NoSeer
structure Cx where
 prog:Program
 w:World
 K:Frag
 mg:Str→Option Value
 base:Heap
 A:Around
 N:List Str
 s₀:Shared
 H₀:Hp
 env:Env
 outer:List Env
 stack:List Env
 ex:List Addr
 fn:Str→Bool
 calm:Bool
 pn:List (Addr×Obj)
 xe:Value→Shared→Prop
def frs (l:List Env):List Addr:=l.filterMap (·.frame)
abbrev Cx.fs (X:Cx):List Addr:=frs X.outer
def Vis (sc:Scope)(x:Str):Prop:=sc.names.lookup x=some .local∨sc.names.lookup x=some .cell∨sc.names.lookup x=some .free
def Loc (sc:Scope)(x:Str):Prop:=sc.names.lookup x=some .local∨sc.names.lookup x=some .cell
def Look (env:Env)(h:Heap)(m:Str→Option Value)(x:Str)(u:Value):Prop:=
 (env.kindOf x=some .local∧m x=some u)∨((env.kindOf x=some .cell∨env.kindOf x=some .free)∧∃c,env.cells.lookup x=some c∧h.IsCell c (some u))
structure Cx.Ok (X:Cx):Prop where
 mod:Mod X.K X.mg X.base
 kind:X.env.scope.kind=.function
 glob:X.env.globals=mainGlobals
 blt:X.env.builtins=builtinsNs
 above:X.s₀.heap.objs.size≤X.env.locals
 inj:∀x y c,X.env.cells.lookup x=some c→X.env.cells.lookup y=some c→x=y
 has:∀x,(X.env.kindOf x=some .cell∨X.env.kindOf x=some .free)→∃c,X.env.cells.lookup x=some c
 cab:∀x c,X.fn x=true→X.env.cells.lookup x=some c→X.s₀.heap.objs.size≤c
 hd:X.calm=true→X.A.handled=none
 frames:X.A.frames=some X.stack
 stk:X.stack=X.outer∨(X.stack=X.env::X.outer∧X.env.frame=some X.env.locals)
 exf:∀b∈X.ex,b≠X.env.locals∧∀x c,X.env.cells.lookup x=some c→c≠b
 bs:∀b o,X.base.get? b=some o→X.s₀.heap.get? b=some o∧X.H₀ b=none
 bsz:X.base.objs.size≤X.s₀.heap.objs.size
 noex:∀b o,X.base.get? b=some o→b∉X.ex
 exfs:∀b∈X.ex,b∉X.fs
 funs:X.s₀.heap.FunFrames X.base X.outer
 frf:∀b∈X.fs,X.H₀ b=none
structure Inv (X:Cx)(pins:List (Addr×Obj))(σ:List (Option V))(H:Hp)(s:Shared):Prop where
 ok:X.Ok
 os:s.os=X.s₀.os
 bare:AllBare s.gens
 base:Un X.fs X.ex X.H₀ H X.s₀.heap s.heap
 loc:∃m,s.heap.Ns X.env.locals m∧∀(i:Nat) (x:Str) (v:V),X.N[i]? =some x→σ[i]? =some (some v)→Vis X.env.scope x→∃u,RelV v u∧Look X.env s.heap m x u
 cell:∀x c,X.env.cells.lookup x=some c→∃v,s.heap.IsCell c v
 free:H X.env.locals=none
 freeC:∀x c,X.env.cells.lookup x=some c→H c=none
 pin:∀p∈X.pn++pins,s.heap.get? p.1=some p.2∧H p.1=none∧p.1≠X.env.locals∧p.1∉X.fs∧∀v,p.2.data≠.cell v
 hok:HOk X.prog X.w H s.heap
 len:σ.length=X.N.length
section
variable {X:Cx}{pins:List (Addr×Obj)}{σ:List (Option V)}{H H' :Hp}{s:Shared}{h' :Heap}
theorem Cx.Ok.nofr (ok:X.Ok){b:Addr}{o:Obj}(e:X.base.get? b=some o):b∉X.fs:=fun hb=>by
 have:=(ok.funs.mem hb).1
 rw [e] at this;cases this
theorem Inv.bs (I:Inv X pins σ H s):∀b o,X.base.get? b=some o→s.heap.get? b=some o∧H b=none:=fun b o e=>
 ⟨I.base.keep b o (I.ok.bs b o e).1 (I.ok.bs b o e).2 (I.ok.nofr e) (I.ok.noex b o e),I.base.free b o (I.ok.bs b o e).1 (I.ok.bs b o e).2 (I.ok.noex b o e)⟩
theorem Inv.bk (I:Inv X pins σ H s):∀b o,X.base.get? b=some o→s.heap.get? b=some o:=fun b o e=>(I.bs b o e).1
theorem Inv.mod (I:Inv X pins σ H s):Mod X.K X.mg X.base:=I.ok.mod
theorem Inv.kIn (I:Inv X pins σ H s):X.K.In s.heap:=I.ok.mod.kin.keeps I.bk
theorem Inv.nolimit (I:Inv X pins σ H s):s.heap.NoLimit:=I.ok.mod.nolimit.keeps I.bk
theorem Inv.lt (I:Inv X pins σ H s):X.env.locals < s.heap.objs.size:=let ⟨_,hn,_⟩:=I.loc;hn.lt
theorem Inv.sz (I:Inv X pins σ H s):X.s₀.heap.objs.size≤s.heap.objs.size:=Nat.le_trans I.ok.above (Nat.le_of_lt I.lt)
theorem Inv.nofs (I:Inv X pins σ H s){a:Addr}(h:s.heap.objs.size≤a):a∉X.fs:=fun hb=>by
 obtain ⟨_,o,ho,_⟩:=I.ok.funs.mem hb
 exact absurd (Nat.lt_of_lt_of_le (Heap.lt_size ho) (Nat.le_trans I.sz h)) (Nat.lt_irrefl _)
theorem Inv.cne (I:Inv X pins σ H s):∀x c,X.env.cells.lookup x=some c→c≠X.env.locals:=fun x c e z=>by
 obtain ⟨v,o,ho,hd⟩:=I.cell x c e
 obtain ⟨m,⟨o',es,ep,ho',hd',_⟩,_⟩:=I.loc
 rw [z,ho'] at ho;cases ho;rw [hd'] at hd;cases hd
theorem Inv.funs (I:Inv X pins σ H s):s.heap.FunFrames X.base X.outer:=by
 have all:∀(l:List Env),(∀b∈frs l,b∈X.fs)→X.s₀.heap.FunFrames X.base l→s.heap.FunFrames X.base l:=by
  intro l
  induction l with
  | nil=>intro _ _;trivial
  | cons env r ih=>
   intro hs hl
   obtain ⟨hk,⟨L,o,hf,hn,ho,hd⟩,hr⟩:=hl
   have hL:L∈X.fs:=hs L (by unfold frs;rw [List.filterMap_cons,hf];exact List.mem_cons_self)
   obtain ⟨sl,e⟩:=I.base.slot L o ho (I.ok.frf L hL) hL fun z=>I.ok.exfs L z hL
   exact ⟨hk,⟨L,_,hf,hn,e,hd⟩,ih (fun b hb=>hs b (by unfold frs;rw [List.filterMap_cons,hf];exact List.mem_cons_of_mem _ hb)) hr⟩
 exact all X.outer (fun _ hb=>hb) I.ok.funs
theorem Inv.stack (I:Inv X pins σ H s):s.heap.FunFrames X.base X.stack:=by
 rcases I.ok.stk with e | ⟨e,hf⟩
 ·rw [e];exact I.funs
 ·rw [e]
  obtain ⟨m,hn,_⟩:=I.loc
  refine .cons (by rw [I.ok.kind];decide) hf hn ?_ I.funs
  exact Heap.get?_none_of_le (Nat.le_trans I.ok.bsz I.ok.above)
theorem Inv.stkSub (I:Inv X pins σ H s):∀b∈frs X.stack,b∈X.env.locals::X.fs:=fun b hb=>by
 rcases I.ok.stk with e | ⟨e,hf⟩
 ·rw [e] at hb;exact List.mem_cons_of_mem _ hb
 ·rw [e] at hb
  unfold frs at hb
  rw [List.filterMap_cons,hf] at hb
  exact hb
theorem Inv.stkFree (I:Inv X pins σ H s):∀b∈frs X.stack,H b=none:=fun b hb=>by
 rcases List.mem_cons.mp (I.stkSub b hb) with e | hb
 ·rw [e];exact I.free
 ·obtain ⟨_,o,ho,_⟩:=I.ok.funs.mem hb
  exact I.base.free b o ho (I.ok.frf b hb) fun z=>I.ok.exfs b z hb
theorem Inv.step {g' :Array GenState}{t' :Nat}{d' :Drawn}{ch:List Addr}(I:Inv X pins σ H s)
  (hch:∀b∈ch,(b∈X.ex∨X.s₀.heap.objs.size≤b)∧b≠X.env.locals∧(∀x c,X.env.cells.lookup x=some c→c≠b)∧∀p∈X.pn++pins,p.1≠b)
  (keep:∀b o,b≠X.env.locals→b∉X.fs→b∉ch→s.heap.get? b=some o→H b=none→h'.get? b=some o)
  (slot:∀b o,b≠X.env.locals→b∈X.fs→b∉ch→s.heap.get? b=some o→H b=none→∃sl,h'.get? b=some {o with slots:=sl}) (free:∀b o,b∉ch→s.heap.get? b=some o→H b=none→H' b=none)
  (there:∀b o,b∉ch→s.heap.get? b=some o→∃o',h'.get? b=some o')
  (tups:∀b xs,H b=some (.tup xs)→H' b=some (.tup xs)) (frzs:∀b o u,H b=some (.frz o u)→H' b=some (.frz o u)) (tbls:∀b ps,H b=some (.tbl ps)→∃more,H' b=some (.tbl (ps++more)))
  (ns:∀m,s.heap.Ns X.env.locals m→h'.Ns X.env.locals m) (hok:HOk X.prog X.w H' h') (hg:AllBare g'):
  Inv X pins σ H' {s with heap:=h',gens:=g',drawn:=d',toks:=t' }:=by
 have neL:∀b o,X.s₀.heap.get? b=some o→b≠X.env.locals:=fun b o e=>Nat.ne_of_lt (Nat.lt_of_lt_of_le (Heap.lt_size e) I.ok.above)
 have neC:∀b o,X.s₀.heap.get? b=some o→b∉X.ex→b∉ch:=fun b o e hx hb=>by
  rcases (hch b hb).1 with z | z
  ·exact hx z
  ·exact absurd (Nat.lt_of_lt_of_le (Heap.lt_size e) z) (Nat.lt_irrefl _)
 have cellK:∀x c,X.env.cells.lookup x=some c→∀v,s.heap.IsCell c v→h'.IsCell c v:=fun x c e v ⟨o,ho,hd⟩=>by
  have nch:c∉ch:=fun z=>(hch c z).2.2.1 x c e rfl
  by_cases hc:c∈X.fs
  ·obtain ⟨sl,q⟩:=slot c o (I.cne x c e) hc nch ho (I.freeC x c e)
   exact ⟨_,q,hd⟩
  ·exact ⟨o,keep c o (I.cne x c e) hc nch ho (I.freeC x c e),hd⟩
 refine ⟨I.ok,I.os,hg,⟨fun b o e n hb hx=> ?_,fun b o e n hb hx=> ?_,fun b o e n hx=> ?_,fun b o e hx=> ?_,fun b xs e=>tups b xs (I.base.tups b xs e),fun b o xs e=>frzs b o xs (I.base.frzs b o xs e),fun b ps e=> ?_⟩,?_,fun x c e=> ?_,?_,fun x c e=> ?_,fun p hp=> ?_,hok,I.len⟩
 ·exact keep b o (neL b o e) hb (neC b o e hx) (I.base.keep b o e n hb hx) (I.base.free b o e n hx)
 ·obtain ⟨sl,e1⟩:=I.base.slot b o e n hb hx
  obtain ⟨sl',e2⟩:=slot b _ (neL b o e) hb (neC b o e hx) e1 (I.base.free b o e n hx)
  exact ⟨sl',e2⟩
 ·obtain ⟨o',e1⟩:=I.base.there b o e hx
  exact free b o' (neC b o e hx) e1 (I.base.free b o e n hx)
 ·obtain ⟨o',e1⟩:=I.base.there b o e hx
  exact there b o' (neC b o e hx) e1
 ·obtain ⟨m1,e1⟩:=I.base.tbls b ps e
  obtain ⟨m2,e2⟩:=tbls b _ e1
  exact ⟨m1++m2,by rw [e2,Array.append_assoc]⟩
 ·obtain ⟨m,hn,hl⟩:=I.loc
  refine ⟨m,ns m hn,fun i x v e1 e2 e3=> ?_⟩
  obtain ⟨u,r,l⟩:=hl i x v e1 e2 e3
  refine ⟨u,r,?_⟩
  rcases l with l | ⟨k,c,e,z⟩
  ·exact .inl l
  ·exact .inr ⟨k,c,e,cellK x c e _ z⟩
 ·obtain ⟨v,z⟩:=I.cell x c e
  exact ⟨v,cellK x c e v z⟩
 ·obtain ⟨m,⟨o,_,_,ho,_⟩,_⟩:=I.loc
  exact free _ o (fun z=>(hch _ z).2.1 rfl) ho I.free
 ·obtain ⟨v,o,ho,hd⟩:=I.cell x c e
  exact free c o (fun z=>(hch c z).2.2.1 x c e rfl) ho (I.freeC x c e)
 ·obtain ⟨e,n,ne,nf,d⟩:=I.pin p hp
  have nch:p.1∉ch:=fun z=>(hch p.1 z).2.2.2 p hp rfl
  exact ⟨keep p.1 p.2 ne nf nch e n,free p.1 p.2 nch e n,ne,nf,d⟩
theorem Inv.un {t' :Nat}(I:Inv X pins σ H s)(u:Un X.fs [] H H' s.heap h')(hok:HOk X.prog X.w H' h'):Inv X pins σ H' {s with heap:=h',toks:=t' }:=by
 obtain ⟨m,⟨o,es,ep,ho,r⟩,_⟩:=id I.loc
 obtain ⟨sl,hL⟩:=u.any ho I.free (by simp)
 exact I.step (g' :=s.gens) (d' :=s.drawn) (ch:=[]) (fun _ z=>nomatch z) (fun b o _ hb _ e n=>u.keep b o e n hb (by simp)) (fun b o _ hb _ e n=>u.slot b o e n hb (by simp)) (fun b o _ e n=>u.free b o e n (by simp)) (fun b o _ e=>u.there b o e (by simp)) u.tups u.frzs u.tbls (fun m' hm=>by
  obtain ⟨o',es',ep',ho',r'⟩:=hm
  rw [ho] at ho';cases ho'
  exact ⟨_,es',ep',hL,r'⟩) hok I.bare
theorem Inv.call {g' :Array GenState}{t' :Nat}{d' :Drawn}{ch:List Addr}(I:Inv X pins σ H s)(u:Un (frs X.stack) ch H H' s.heap h')(hok:HOk X.prog X.w H' h')(hg:AllBare g')
  (hch:∀b∈ch,(b∈X.ex∨X.s₀.heap.objs.size≤b)∧b≠X.env.locals∧(∀x c,X.env.cells.lookup x=some c→c≠b)∧∀p∈X.pn++pins,p.1≠b):
  Inv X pins σ H' {s with heap:=h',gens:=g',drawn:=d',toks:=t' }:=by
 obtain ⟨m,⟨o,es,ep,ho,r⟩,_⟩:=id I.loc
 obtain ⟨sl,hL⟩:=u.any ho I.free fun z=>(hch _ z).2.1 rfl
 exact I.step (ch:=ch) hch (fun b o hL hb hc e n=>u.keep b o e n (fun z=>(List.mem_cons.mp (I.stkSub b z)).elim hL hb) hc) (fun b o _ _ hc e n=>u.any e n hc) (fun b o hc e n=>u.free b o e n hc) (fun b o hc e=>u.there b o e hc) u.tups u.frzs u.tbls (fun m' hm=>by
  obtain ⟨o',es',ep',ho',r'⟩:=hm
  rw [ho] at ho';cases ho'
  exact ⟨_,es',ep',hL,r'⟩) hok hg
theorem Inv.turned {t' :Nat}{it:Addr}(I:Inv X pins σ H s)(k:∀b o,b≠it→s.heap.get? b=some o→h'.get? b=some o)(hn:H it=none)(hL:it≠X.env.locals)
  (h1:it∈X.ex∨X.s₀.heap.objs.size≤it) (h2:∀x c,X.env.cells.lookup x=some c→c≠it) (h3:∀p∈X.pn++pins,p.1≠it):Inv X pins σ H {s with heap:=h',toks:=t' }:=by
 have nit:∀b u,H b=some u→b≠it:=fun b u e z=>by rw [z,hn] at e;cases e
 refine I.step (g' :=s.gens) (d' :=s.drawn) (ch:=[it]) (fun b hb=> ?_) (fun b o _ _ hc e _=>k b o (fun z=>hc (by simp [z])) e) (fun b o _ _ hc e _=>⟨o.slots,k b o (fun z=>hc (by simp [z])) e⟩) (fun _ _ _ _ n=>n)
  (fun b o hc e=>⟨o,k b o (fun z=>hc (by simp [z])) e⟩) (fun _ _ e=>e) (fun _ _ _ e=>e) (fun b ps e=>⟨#[],by rw [e];simp⟩) (fun m hm=> ?_) (fun b u e=> ?_) I.bare
 ·have e:b=it:=by simpa using hb
  subst e
  exact ⟨h1,hL,h2,h3⟩
 ·obtain ⟨o,es,ep,ho,r⟩:=hm
  exact ⟨o,es,ep,k _ o (Ne.symm hL) ho,r⟩
 ·refine (I.hok b u e).stay (fun c v hc q=>k c v ?_ q) (fun _ q=>q) fun _ _ q=>q
  rcases hc with z | z
  ·rw [z];exact nit b u e
  ·exact nit c _ z
theorem Inv.tok (I:Inv X pins σ H s)(t:Nat):Inv X pins σ H {s with toks:=t}:=I.un (h' :=s.heap) (t' :=t) Un.refl I.hok
theorem Inv.kept {t' :Nat}(I:Inv X pins σ H s)(k:∀b u,s.heap.get? b=some u→h'.get? b=some u):Inv X pins σ H {s with heap:=h',toks:=t' }:=I.un (Un.kept k) (I.hok.kept k)
theorem Inv.laid {a:Addr}{o:HO}{t' :Nat}(I:Inv X pins σ H s)(k:∀b u,s.heap.get? b=some u→h'.get? b=some u)(hp:s.heap.objs.size≤a)(new:ObjOk X.prog X.w (upd H a o) h' a o):
  Inv X pins σ (upd H a o) {s with heap:=h',toks:=t' }:=I.un (Un.laid k hp (I.hok.fresh hp)) (I.hok.laid k hp new)
theorem Inv.write {x e:Addr}{o:HO}{t' :Nat}(I:Inv X pins σ H s)(mu:Mut (H x))(he:e=x∨H e=some (.own x))(k:∀b u,b≠e→s.heap.get? b=some u→h'.get? b=some u)(heo:∃u,h'.get? e=some u)
  (new:ObjOk X.prog X.w (upd H x o) h' x o):Inv X pins σ (upd H x o) {s with heap:=h',toks:=t' }:=I.un (Un.write mu he k heo) (I.hok.write mu he k heo new)
theorem Inv.pins_of {pins' :List (Addr×Obj)}(I:Inv X pins σ H s)(h:∀p∈pins',s.heap.get? p.1=some p.2∧H p.1=none∧p.1≠X.env.locals∧p.1∉X.fs∧∀v,p.2.data≠.cell v):Inv X pins' σ H s:=
 ⟨I.ok,I.os,I.bare,I.base,I.loc,I.cell,I.free,I.freeC,fun p hp=>(List.mem_append.mp hp).elim (fun z=>I.pin p (List.mem_append_left _ z)) (h p),I.hok,I.len⟩
theorem nodup_ix {N:List Str}(hN:N.Nodup){i j:Nat}{x:Str}(a:N[i]? =some x)(b:N[j]? =some x):i=j:=by
 obtain ⟨h1,e1⟩:=List.getElem?_eq_some_iff.mp a
 obtain ⟨h2,e2⟩:=List.getElem?_eq_some_iff.mp b
 exact (List.getElem_inj hN).mp (e1.trans e2.symm)
theorem store_ok2 {M:Model}{A:Around}{E:Value→Shared→Prop}{i:Nat}{x:Str}{v:V}{u:Value}{Q:Unit→Shared→Prop}(I:Inv X pins σ H s)(hN:X.N.Nodup)(hi:X.N[i]? =some x)(hx:Loc X.env.scope x)(r:RelV v u)
  (h:∀s',Inv X pins (σ.set i (some v)) H s' →(∃a,Heap.SameBut a s.heap s'.heap∧(a=X.env.locals∨X.env.cells.lookup x=some a))→Q () s') (hf:X.fn x=true∨X.env.scope.names.lookup x=some .local:=by first | exact .inl rfl | exact .inr rfl | assumption):wpAny M A (storeName X.env x u) Q E s:=by
 obtain ⟨m,hn,hl⟩:=id I.loc
 have hcls:(X.env.scope.kind==.class || (X.env.scope.kind==.module && X.env.locals !=X.env.globals))=false:=by rw [I.ok.kind];rfl
 have hiσ:i < σ.length:=by rw [I.len];exact (List.getElem?_eq_some_iff.mp hi).1
 have cne:=I.cne
 have tracked:∀{a:Addr} {h' :Heap},(∃o,s.heap.get? a=some o∧H a=none)→Heap.SameBut a s.heap h' →HOk X.prog X.w H h' :=fun {a h'} ha hs b ob e=>by
  obtain ⟨_,_,hfree⟩:=ha
  refine (I.hok b ob e).stay (fun c w' hc q=>(hs.2 c ?_).trans q) (fun _ q=>q) fun _ _ q=>q
  rintro rfl
  rcases hc with rfl | hc
  ·rw [hfree] at e;cases e
  ·rw [hfree] at hc;cases hc
 rcases hx with hk | hk
 ·refine wpAny_storeName_local hk hn (fun h' hn' hs=> ?_) hcls
  obtain ⟨oL,_,_,hoL,_⟩:=id hn
  refine h _ ⟨I.ok,I.os,I.bare,⟨fun b o e n hb hx=> ?_,fun b o e n hb hx=> ?_,I.base.free,fun b o e hx=> ?_,I.base.tups,I.base.frzs,I.base.tbls⟩,⟨_,hn',fun j y v' e1 e2 e3=> ?_⟩,fun y c e=> ?_,I.free,I.freeC,fun p hp=> ?_,tracked ⟨oL,hoL,I.free⟩ hs,by simpa using I.len⟩ ⟨_,hs,.inl rfl⟩
  ·exact (hs.2 b (Nat.ne_of_lt (Nat.lt_of_lt_of_le (Heap.lt_size e) I.ok.above))).trans (I.base.keep b o e n hb hx)
  ·obtain ⟨sl,e1⟩:=I.base.slot b o e n hb hx
   exact ⟨sl,(hs.2 b (Nat.ne_of_lt (Nat.lt_of_lt_of_le (Heap.lt_size e) I.ok.above))).trans e1⟩
  ·obtain ⟨o',e1⟩:=I.base.there b o e hx
   exact ⟨o',(hs.2 b (Nat.ne_of_lt (Nat.lt_of_lt_of_le (Heap.lt_size e) I.ok.above))).trans e1⟩
  ·by_cases hj:j=i
   ·subst hj
    rw [hi] at e1;cases e1
    rw [List.getElem?_set_self hiσ] at e2
    cases e2
    exact ⟨u,r,.inl ⟨hk,by simp⟩⟩
   ·rw [List.getElem?_set_ne (Ne.symm hj)] at e2
    obtain ⟨u',r',q⟩:=hl j y v' e1 e2 e3
    refine ⟨u',r',?_⟩
    rcases q with ⟨k,e⟩ | ⟨k,c,e,z⟩
    ·refine .inl ⟨k,?_⟩
     have:y≠x:=fun e=>hj (nodup_ix hN e1 (e▸hi))
     simp [this,e]
    ·exact .inr ⟨k,c,e,z.sameBut hs (cne y c e)⟩
  ·obtain ⟨w',z⟩:=I.cell y c e
   exact ⟨w',z.sameBut hs (cne y c e)⟩
  ·obtain ⟨e,n,ne,nf,d⟩:=I.pin p hp
   exact ⟨(hs.2 p.1 ne).trans e,n,ne,nf,d⟩
 ·have hfn:X.fn x=true:=by
   rcases hf with z | z
   ·exact z
   ·rw [z] at hk;cases hk
  obtain ⟨c,hc⟩:=I.ok.has x (.inl hk)
  obtain ⟨w',z⟩:=I.cell x c hc
  refine wpAny_storeName_cell I.ok.kind hk hc z (fun h' hc' hs=> ?_)
  obtain ⟨oc,hoc,hocd⟩:=id z
  refine h {s with heap:=h' } ⟨I.ok,I.os,I.bare,⟨fun b o e n hb hx=> ?_,fun b o e n hb hx=> ?_,I.base.free,fun b o e hx=> ?_,I.base.tups,I.base.frzs,I.base.tbls⟩,⟨m,hn.sameBut hs (Ne.symm (cne x c hc)),fun j y v' e1 e2 e3=> ?_⟩,fun y c' e=> ?_,I.free,I.freeC,fun p hp=> ?_,tracked ⟨oc,hoc,I.freeC x c hc⟩ hs,by simpa using I.len⟩ ⟨c,hs,.inr hc⟩
  ·exact (hs.2 b (Nat.ne_of_lt (Nat.lt_of_lt_of_le (Heap.lt_size e) (I.ok.cab x c hfn hc)))).trans (I.base.keep b o e n hb hx)
  ·obtain ⟨sl,e1⟩:=I.base.slot b o e n hb hx
   exact ⟨sl,(hs.2 b (Nat.ne_of_lt (Nat.lt_of_lt_of_le (Heap.lt_size e) (I.ok.cab x c hfn hc)))).trans e1⟩
  ·obtain ⟨o',e1⟩:=I.base.there b o e hx
   exact ⟨o',(hs.2 b (Nat.ne_of_lt (Nat.lt_of_lt_of_le (Heap.lt_size e) (I.ok.cab x c hfn hc)))).trans e1⟩
  ·by_cases hj:j=i
   ·subst hj
    rw [hi] at e1;cases e1
    rw [List.getElem?_set_self hiσ] at e2
    cases e2
    exact ⟨u,r,.inr ⟨.inl hk,c,hc,hc'⟩⟩
   ·rw [List.getElem?_set_ne (Ne.symm hj)] at e2
    obtain ⟨u',r',q⟩:=hl j y v' e1 e2 e3
    refine ⟨u',r',?_⟩
    rcases q with q | ⟨k,c',e,z'⟩
    ·exact .inl q
    ·refine .inr ⟨k,c',e,z'.sameBut hs ?_⟩
     rintro rfl
     exact hj (nodup_ix hN e1 (I.ok.inj _ _ _ e hc▸hi))
  ·by_cases hcc:c' =c
   ·subst hcc;exact ⟨_,hc'⟩
   ·obtain ⟨w2,z2⟩:=I.cell y c' e
    exact ⟨w2,z2.sameBut hs hcc⟩
  ·obtain ⟨e,n,ne,nf,d⟩:=I.pin p hp
   refine ⟨(hs.2 p.1 ?_).trans e,n,ne,nf,d⟩
   intro q
   rw [q,hoc] at e
   have q' :oc=p.2:=Option.some.inj e
   exact d w' (by rw [← q'];exact hocd)
theorem store_ok {M:Model}{A:Around}{E:Value→Shared→Prop}{i:Nat}{x:Str}{v:V}{u:Value}{Q:Unit→Shared→Prop}(I:Inv X pins σ H s)(hN:X.N.Nodup)(hi:X.N[i]? =some x)(hx:Loc X.env.scope x)(r:RelV v u)
  (h:∀s',Inv X pins (σ.set i (some v)) H s' →Q () s') (hf:X.fn x=true∨X.env.scope.names.lookup x=some .local:=by first | exact .inl rfl | exact .inr rfl | assumption):wpAny M A (storeName X.env x u) Q E s:=
 store_ok2 I hN hi hx r (fun s' I' _=>h s' I') hf
theorem Inv.call' {s' :Shared}{ch:List Addr}(I:Inv X pins σ H s)(ho:s'.os=s.os)(u:Un (frs X.stack) ch H H' s.heap s'.heap)(hok:HOk X.prog X.w H' s'.heap)(hg:AllBare s'.gens)
  (hch:∀b∈ch,(b∈X.ex∨X.s₀.heap.objs.size≤b)∧b≠X.env.locals∧(∀x c,X.env.cells.lookup x=some c→c≠b)∧∀p∈X.pn++pins,p.1≠b):Inv X pins σ H' s' :=by
 obtain ⟨h',g',d',t',o'⟩:=s'
 have e:o' =s.os:=ho
 subst e
 exact I.call (g' :=g') (t' :=t') (d' :=d') u hok hg hch
end
abbrev XK:=Value→Option Addr→Hp→Prop
abbrev St:=List (Option V)
abbrev VK:=V→Hp→Prop
abbrev TE:=St→Hp→VK→Prop
abbrev TT:=St→Hp→(Bool→Hp→Prop)→Prop
abbrev TA:=St→Hp→(List V→Hp→Prop)→Prop
structure Ends where
 nx:St→Hp→Prop
 rt:VK
 bk:St→Hp→Prop:=fun _ _=>False
 ct:St→Hp→Prop:=fun _ _=>False
abbrev TS:=Ends→St→Hp→Prop
def EP (X:Cx)(pins:List (Addr×Obj))(σ:St)(Q:VK)(u:Value)(s' :Shared):Prop:=∃v H',Inv X pins σ H' s' ∧RelV v u∧Q v H'
def TP (X:Cx)(pins:List (Addr×Obj))(σ:St)(Q:Bool→Hp→Prop)(b:Bool)(s' :Shared):Prop:=∃H',Inv X pins σ H' s' ∧Q b H'
def AP (X:Cx)(pins:List (Addr×Obj))(σ:St)(Q:List V→Hp→Prop)(us:List Value)(s' :Shared):Prop:=∃vs H',Inv X pins σ H' s' ∧Vals vs us∧Q vs H'
def SP (X:Cx)(pins:List (Addr×Obj))(D:Ends)(f:Flow)(s' :Shared):Prop:=
 match f with
 | .next=>∃σ' H',Inv X pins σ' H' s' ∧D.nx σ' H'
 | .brk=>∃σ' H',Inv X pins σ' H' s' ∧D.bk σ' H'
 | .cont=>∃σ' H',Inv X pins σ' H' s' ∧D.ct σ' H'
 | .ret u=>∃v σ' H',Inv X pins σ' H' s' ∧RelV v u∧D.rt v H'
def PE (X:Cx)(e:Expr)(t:TE):Prop:=
 ∀(pins:List (Addr×Obj)) (s:Shared) (σ:St) (H:Hp) (Q:VK),Inv X pins σ H s→t σ H Q→wpAny (model X.prog X.w) X.A (eval e X.env) (EP X pins σ Q) X.xe s
def PT (X:Cx)(e:Expr)(t:TT):Prop:=
 ∀(pins:List (Addr×Obj)) (s:Shared) (σ:St) (H:Hp) (Q:Bool→Hp→Prop),Inv X pins σ H s→t σ H Q→wpAny (model X.prog X.w) X.A (isTrue e X.env (eval e X.env)) (TP X pins σ Q) X.xe s
def PW (X:Cx)(e:Expr)(t:TT):Prop:=
 ∀(whole:Sem Value) (pins:List (Addr×Obj)) (s:Shared) (σ:St) (H:Hp) (Q:Bool→Hp→Prop),Inv X pins σ H s→t σ H Q→wpAny (model X.prog X.w) X.A (isTrue e X.env whole) (TP X pins σ Q) X.xe s
theorem PW.pt {X:Cx}{e:Expr}{t:TT}(h:PW X e t):PT X e t:=h _
def PA (X:Cx)(es:List Expr)(t:TA):Prop:=
 ∀(pos:Pos) (pins:List (Addr×Obj)) (s:Shared) (σ:St) (H:Hp) (Q:List V→Hp→Prop),Inv X pins σ H s→t σ H Q→wpAny (model X.prog X.w) X.A (spliced (backTo pos (starEach es X.env))) (AP X pins σ Q) X.xe s
def PS (X:Cx)(st:Stmt)(t:TS):Prop:=
 ∀(pins:List (Addr×Obj)) (s:Shared) (σ:St) (H:Hp) (D:Ends),Inv X pins σ H s→t D σ H→wpAny (model X.prog X.w) X.A (exec st X.env) (SP X pins D) X.xe s
def PSs (X:Cx)(st:List Stmt)(t:TS):Prop:=
 ∀(pins:List (Addr×Obj)) (s:Shared) (σ:St) (H:Hp) (D:Ends),Inv X pins σ H s→t D σ H→wpAny (model X.prog X.w) X.A (execs st X.env) (SP X pins D) X.xe s
theorem thn {α:Type}{t:Sem α}{Q Q' :α→Shared→Prop}{M:Model}{A:Around}{E:Value→Shared→Prop}{s:Shared}(h:wpAny M A t Q E s)(hQ:∀a s,Q a s→Q' a s):wpAny M A t Q' E s:=wpAny_mono h hQ fun _ _ x=>x
end L2
namespace L2
open PySem PySem.Spec PyProof.Rows
section
variable {X:Cx}
inductive tVar (i:Nat)(σ:St)(H:Hp)(Q:VK):Prop where
 | mk (v:_) (_:σ[i]? =some (some v)) (_:Q v H):tVar i σ H Q
def tC (v:V):TE:=fun _ H Q=>Q v H
theorem pe_var {i:Nat}{x:Str}{pos:Pos}(hN:X.N[i]? =some x)(hv:Vis X.env.scope x)(hd:(x==("__debug__":Str))=false:=by decide)(hcd:(x==("__classdict__":Str))=false:=by decide):PE X (.Name x pos) (tVar i):=by
 intro pins s σ H Q I h
 obtain ⟨v,e,h⟩:=h
 obtain ⟨m,hn,hl⟩:=I.loc
 obtain ⟨u,r,l⟩:=hl i x v hN e hv
 have fin:EP X pins σ Q u s:=⟨v,H,I,r,h⟩
 rcases l with ⟨hk,hm⟩ | ⟨hk,c,hc,hcell⟩
 ·exact wpAny_Name (wpAny_loadName_local I.ok.kind hk hn hm fin) hd
 ·rcases hk with hk | hk
  ·exact wpAny_Name (wpAny_loadName_cell I.ok.kind hk hc hcell fin) hd
  ·exact wpAny_Name (wpAny_loadName_free I.ok.kind hk hc hcell fin hcd) hd
theorem pe_int {i j pos}:PE X (.Constant (.int i) j pos) (tC (.int i)):=fun _ _ _ H _ I h=>wpAny_Constant_int ⟨.int i,H,I.tok _,⟨_,rfl⟩,h⟩
theorem pe_bl {b j pos}:PE X (.Constant (.bool b) j pos) (tC (.bl b)):=fun _ _ _ H _ I h=>Constant_bool ⟨.bl b,H,I,rfl,h⟩
theorem pe_non {j pos}:PE X (.Constant .none j pos) (tC .non):=fun _ _ _ H _ I h=>Constant_none ⟨.non,H,I,rfl,h⟩
theorem pe_str {x j pos}:PE X (.Constant (.str x) j pos) (tC (.str x)):=fun _ _ _ H _ I h=>Calls.Constant_str ⟨.str x,H,I.tok _,⟨_,rfl⟩,h⟩
def Gl (X:Cx)(x:Str):Prop:=X.env.kindOf x=some .globalImplicit
theorem ld_glob {E:Value→Shared→Prop}{pins:List (Addr×Obj)}{s:Shared}{σ:St}{H:Hp}{x:Str}{u:Value}{pos:Pos}{Q:Value→Shared→Prop}(I:Inv X pins σ H s)(hg:Gl X x)(hm:X.mg x=some u)(h:Q u s)
  (hd:(x==("__debug__":Str))=false:=by decide):wpAny (model X.prog X.w) X.A (eval (.Name x pos) X.env) Q E s:=
 Calls.Name_function_global I.ok.kind hg (Calls.loadGlobal_global (by rw [I.ok.glob];exact I.mod.glob.keeps I.bk) hm h) hd
theorem ld_blt {E:Value→Shared→Prop}{pins:List (Addr×Obj)}{s:Shared}{σ:St}{H:Hp}{x:Str}{u:Value}{pos:Pos}{Q:Value→Shared→Prop}(I:Inv X pins σ H s)(hg:Gl X x)(hm:X.mg x=none)(hv:bootBuiltins x=some u)(h:Q u s)
  (hn:x≠ "__name__":=by decide) (hd:(x==("__debug__":Str))=false:=by decide):wpAny (model X.prog X.w) X.A (eval (.Name x pos) X.env) Q E s:=by
 obtain ⟨mb,h1,h2⟩:=I.mod.blt
 exact Calls.Name_function_global I.ok.kind hg (Calls.loadGlobal_builtin (by rw [I.ok.glob];exact I.mod.glob.keeps I.bk) hm (by rw [I.ok.blt];exact h1.keeps I.bk) ((h2 x hn).trans hv) h) hd
theorem pe_glob {x:Str}{v:V}{u:Value}{pos:Pos}(hg:Gl X x)(hm:X.mg x=some u)(r:RelV v u)(hd:(x==("__debug__":Str))=false:=by decide):PE X (.Name x pos) (tC v):=
 fun _ _ _ H _ I h=>ld_glob I hg hm ⟨v,H,I,r,h⟩ hd
theorem pe_bltn {x:Str}{v:V}{u:Value}{pos:Pos}(hg:Gl X x)(hm:X.mg x=none)(hv:bootBuiltins x=some u)(r:RelV v u)(hn:x≠ "__name__":=by decide)(hd:(x==("__debug__":Str))=false:=by decide):PE X (.Name x pos) (tC v):=
 fun _ _ _ H _ I h=>ld_blt I hg hm hv ⟨v,H,I,r,h⟩ hn hd
variable {a b:Expr}{ta tb:TE}{pos:Pos}
def PC (X:Cx)(op:CmpOp)(a b:Expr)(t:TE):Prop:=
 ∀(pins:List (Addr×Obj)) (s:Shared) (σ:St) (H:Hp) (Q:VK),Inv X pins σ H s→t σ H Q→
  wpAny (model X.prog X.w) X.A (eval a X.env) (fun v s₁=>wpAny (model X.prog X.w) X.A (eval b X.env) (fun u s₂=>wpAny (model X.prog X.w) X.A (compareOp op v u) (EP X pins σ Q) X.xe s₂) X.xe s₁) X.xe s
inductive tB_ (Q:(Bool→Hp→Prop))(x:V)(H1:Hp):Prop where
 | mk (c:_) (_:x=.bl c) (_:Q c H1):tB_ Q x H1
def tB (t:TE):TT:=fun σ H Q=>t σ H fun x H1=>tB_ Q x H1
theorem pt_cmp {op:CmpOp}{t:TE}(h:PC X op a b t)(h1:behindInMarks op b=false:=by first | exact nobehind _ (by decide) (by decide) | rfl):PT X (.Compare a [op] [b] pos) (tB t):=by
 intro pins s σ H Q I hw
 refine wpAny_isTrue_Compare1 (thn (h pins s σ H _ I hw) fun v s1 h1=>thn h1 fun u s2 h2=>thn h2 fun c s3 ⟨x,H1,I1,r1,q1⟩=> ?_) h1
 obtain ⟨d,rfl,q⟩:=q1
 cases r1
 exact wpAny_truthy_bool ⟨H1,I1,q⟩
theorem pt_val {e:Expr}{t:TE}(h:PE X e t)(he:∀whole,isTrue e X.env whole=(do let v ← whole;standAt e.pos;holding [v] (truthy v)):=by intro _;rfl):PT X e (tB t):=by
 intro pins s σ H Q I hw
 refine isTrue_plain (thn (h pins s σ H _ I hw) fun v s1 ⟨x,H1,I1,r1,q1⟩=> ?_) (he _)
 obtain ⟨d,rfl,q⟩:=q1
 cases r1
 exact wpAny_truthy_bool ⟨H1,I1,q⟩
variable {tA tB' :TT}{rest:List Expr}
def tAnd (t u:TT):TT:=fun σ H Q=>t σ H fun c H1=>if c=true then u σ H1 Q else Q false H1
def tOr (t u:TT):TT:=fun σ H Q=>t σ H fun c H1=>if c=true then Q true H1 else u σ H1 Q
def tNot (t:TT):TT:=fun σ H Q=>t σ H fun c H1=>Q (!c) H1
theorem pw_and1 (ha:PT X a tA):PW X (.BoolOp .And [a] pos) tA:=by
 intro wh pins s σ H Q I h
 refine isTrue_and (thn (ha pins s σ H Q I h) fun c s1 e=> ?_)
 cases c with
 | true=>exact isTrue_and_nil e
 | false=>exact e
theorem pw_or1 (ha:PT X a tA):PW X (.BoolOp .Or [a] pos) tA:=by
 intro wh pins s σ H Q I h
 refine isTrue_or (thn (ha pins s σ H Q I h) fun c s1 e=> ?_)
 cases c with
 | false=>exact isTrue_or_nil e
 | true=>exact e
theorem pw_and (ha:PT X a tA)(hb:PW X (.BoolOp .And (b::rest) pos) tB'):PW X (.BoolOp .And (a::b::rest) pos) (tAnd tA tB'):=by
 intro wh pins s σ H Q I h
 refine isTrue_and (thn (ha pins s σ H _ I h) fun c s1 ⟨H1,I1,q1⟩=> ?_)
 cases c with
 | true=>exact hb wh pins s1 σ H1 Q I1 q1
 | false=>exact ⟨H1,I1,q1⟩
theorem pw_or (ha:PT X a tA)(hb:PW X (.BoolOp .Or (b::rest) pos) tB'):PW X (.BoolOp .Or (a::b::rest) pos) (tOr tA tB'):=by
 intro wh pins s σ H Q I h
 refine isTrue_or (thn (ha pins s σ H _ I h) fun c s1 ⟨H1,I1,q1⟩=> ?_)
 cases c with
 | true=>exact ⟨H1,I1,q1⟩
 | false=>exact hb wh pins s1 σ H1 Q I1 q1
theorem pt_not (ha:PT X a tA):PT X (.UnaryOp .Not a pos) (tNot tA):=by
 intro pins s σ H Q I h
 exact isTrue_not (ha pins s σ H (fun c H1=>Q (!c) H1) I h)
def tAndV (ta tb:TE):TE:=fun σ H Q=>ta σ H fun x H1=>∃c,x=.bl c∧if c=true then tb σ H1 Q else Q (.bl false) H1
theorem pe_one {op}{t:TE}(h:PE X a t):PE X (.BoolOp op [a] pos) t:=fun pins s σ H Q I hw=>BoolOp_one (h pins s σ H Q I hw)
theorem pe_and (ha:PE X a ta)(hb:PE X (.BoolOp .And (b::rest) pos) tb):PE X (.BoolOp .And (a::b::rest) pos) (tAndV ta tb):=by
 intro pins s σ H Q I h
 refine BoolOp_and (thn (ha pins s σ H _ I h) fun v s1 ⟨x,H1,I1,r1,q1⟩=> ?_)
 obtain ⟨c,rfl,q1⟩:=q1
 cases r1
 refine wpAny_truthy_bool ?_
 cases c with
 | true=>exact hb pins s1 σ H1 Q I1 q1
 | false=>exact ⟨.bl false,H1,I1,rfl,q1⟩
def tIf (t:TT)(ta tb:TE):TE:=fun σ H Q=>t σ H fun c H1=>if c=true then ta σ H1 Q else tb σ H1 Q
theorem pe_ifExp {c:Expr}(hc:PT X c tA)(ha:PE X a ta)(hb:PE X b tb):PE X (.IfExp c a b pos) (tIf tA ta tb):=by
 intro pins s σ H Q I h
 refine wpAny_IfExp (thn (hc pins s σ H _ I h) fun d s1 ⟨H1,I1,q1⟩=> ?_)
 cases d with
 | true=>exact ha pins s1 σ H1 Q I1 q1
 | false=>exact hb pins s1 σ H1 Q I1 q1
end
end L2
namespace L2
open PySem PySem.Spec PyProof.Rows
def SqL (K:Frag)(H:Hp)(a:Addr)(xs:List V):Prop:=
 Rd H a (.lst xs)∨
  ∃(o:Obj) (its:Array Value) (n:Nat),K.lookup a=some o∧o.cls=.type "list"∧o.dict=none∧o.data=.seq its n∧its.size≤sizeLine∧Vals xs its.toList
def SqT (K:Frag)(H:Hp)(a:Addr)(xs:List V):Prop:=
 Rd H a (.tup xs)∨
  ∃(o:Obj) (its:Array Value) (n:Nat),K.lookup a=some o∧o.cls=.type "tuple"∧o.data=.seq its n∧its.size≤sizeLine∧Vals xs its.toList
def absV:Value→Option V
 | .none=>some .non
 | .bool b=>some (.bl b)
 | .int i _=>some (.int i)
 | .str x _=>some (.str x)
 | .bytes b _=>some (.byt b)
 | .float b _=>some (.flt b)
 | .ref a=>some (.ref a)
 | .type n=>some (.ty n)
 | _=>none
theorem RelV.abs {x:V}{u:Value}(r:RelV x u):absV u=some x:=by
 cases x with
 | non=>cases r;rfl
 | bl _=>cases r;rfl
 | int _=>obtain ⟨t,rfl⟩:=r;rfl
 | str _=>obtain ⟨t,rfl⟩:=r;rfl
 | byt _=>obtain ⟨t,rfl⟩:=r;rfl
 | flt _=>obtain ⟨t,rfl⟩:=r;rfl
 | ref _=>cases r;rfl
 | ty _=>cases r;rfl
theorem RelV.inj {x y:V}{u:Value}(r:RelV x u)(q:RelV y u):x=y:=Option.some.inj (r.abs.symm.trans q.abs)
theorem Vals.inj:∀{xs ys:List V} {us:List Value},Vals xs us→Vals ys us→xs=ys
 | _,_,_,.nil,.nil=>rfl
 | _,_,_,.cons r t,.cons r' t' =>by rw [r.inj r',Vals.inj t t']
section
variable {X:Cx}{pins:List (Addr×Obj)}{σ:St}{H:Hp}{s:Shared}{a:Addr}{xs ys:List V}
theorem SqL.of {K:Frag}(h:H a=some (.lst xs)):SqL K H a xs:=.inl (.inl h)
theorem SqT.of {K:Frag}(h:H a=some (.tup xs)):SqT K H a xs:=.inl (.inl h)
theorem Inv.list (I:Inv X pins σ H s)(h:SqL X.K H a xs):∃its:List Value,Vals xs its∧PlainL s.heap a its.toArray∧xs.length≤sizeLine:=by
 rcases h with h | ⟨o,its,n,hk,hc,hd,hs,hz,r⟩
 ·obtain ⟨z,its,n,r,e⟩:=h.ok I.hok
  exact ⟨its,r,⟨_,n,e,rfl,rfl,rfl⟩,z⟩
 ·refine ⟨its.toList,r,⟨o,n,I.kIn a o hk,hc,hd,by simpa using hs⟩,?_⟩
  have e:=r.length
  simp only [Array.length_toList] at e
  omega
theorem Inv.tuple (I:Inv X pins σ H s)(h:SqT X.K H a xs):∃its:List Value,Vals xs its∧IsTup s.heap a its.toArray∧xs.length≤sizeLine:=by
 rcases h with h | ⟨o,its,n,hk,hc,hs,hz,r⟩
 ·obtain ⟨z,its,r,p⟩:=h.ok I.hok
  exact ⟨its,r,p,z⟩
 ·refine ⟨its.toList,r,⟨o,I.kIn a o hk,hc,n,by simpa using hs⟩,?_⟩
  have e:=r.length
  simp only [Array.length_toList] at e
  omega
theorem Inv.list_inj (I:Inv X pins σ H s)(h:SqL X.K H a xs)(h' :SqL X.K H a ys):xs=ys:=by
 obtain ⟨its,r,⟨o,n,e,_,_,d⟩,_⟩:=I.list h
 obtain ⟨its',r',⟨o',n',e',_,_,d'⟩,_⟩:=I.list h'
 rw [e] at e';cases e'
 rw [d] at d'
 injection d' with d1 _
 have:its=its' :=by simpa using congrArg Array.toList d1
 subst this
 exact r.inj r'
theorem Inv.tuple_inj (I:Inv X pins σ H s)(h:SqT X.K H a xs)(h' :SqT X.K H a ys):xs=ys:=by
 obtain ⟨its,r,⟨o,e,_,n,d⟩,_⟩:=I.tuple h
 obtain ⟨its',r',⟨o',e',_,n',d'⟩,_⟩:=I.tuple h'
 rw [e] at e';cases e'
 rw [d] at d'
 injection d' with d1 _
 have:its=its' :=by simpa using congrArg Array.toList d1
 subst this
 exact r.inj r'
end
abbrev Cx.wish (X:Cx)(E:Value→Shared→Prop):Cx:={X with xe:=E}
abbrev Cx.nox (X:Cx):Cx:=X.wish fun _ _=>False
theorem Cx.Ok.wish {X:Cx}(ok:X.Ok)(E:Value→Shared→Prop):(X.wish E).Ok:=
 ⟨ok.mod,ok.kind,ok.glob,ok.blt,ok.above,ok.inj,ok.has,ok.cab,ok.hd,ok.frames,ok.stk,ok.exf,ok.bs,ok.bsz,ok.noex,ok.exfs,ok.funs,ok.frf⟩
theorem Cx.Ok.unwish {X:Cx}{E:Value→Shared→Prop}(ok:(X.wish E).Ok):X.Ok:=
 ⟨ok.mod,ok.kind,ok.glob,ok.blt,ok.above,ok.inj,ok.has,ok.cab,ok.hd,ok.frames,ok.stk,ok.exf,ok.bs,ok.bsz,ok.noex,ok.exfs,ok.funs,ok.frf⟩
section
variable {X:Cx}{pins:List (Addr×Obj)}{σ:St}{H:Hp}{s:Shared}{E:Value→Shared→Prop}
theorem Inv.wish (I:Inv X pins σ H s)(E:Value→Shared→Prop):Inv (X.wish E) pins σ H s:=⟨I.ok.wish E,I.os,I.bare,I.base,I.loc,I.cell,I.free,I.freeC,I.pin,I.hok,I.len⟩
theorem Inv.unwish (I:Inv (X.wish E) pins σ H s):Inv X pins σ H s:=⟨I.ok.unwish,I.os,I.bare,I.base,I.loc,I.cell,I.free,I.freeC,I.pin,I.hok,I.len⟩
theorem SP.unwish {D:Ends}{f:Flow}{s' :Shared}(h:SP (X.wish E) pins D f s'):SP X pins D f s' :=by
 cases f with
 | next=>obtain ⟨σ',H',I,q⟩:=h;exact ⟨σ',H',I.unwish,q⟩
 | brk=>obtain ⟨σ',H',I,q⟩:=h;exact ⟨σ',H',I.unwish,q⟩
 | cont=>obtain ⟨σ',H',I,q⟩:=h;exact ⟨σ',H',I.unwish,q⟩
 | ret u=>obtain ⟨v,σ',H',I,r,q⟩:=h;exact ⟨v,σ',H',I.unwish,r,q⟩
theorem PSs.nox {st:List Stmt}{t:TS}(h:PSs X.nox st t):PSs X st t:=fun pins s σ H D I hw=>
 wpAny_mono (h pins s σ H D (I.wish _) hw) (fun _ _ q=>q.unwish) fun _ _ z=>False.elim z
end
section
variable {X:Cx}{st:Stmt}{rest:List Stmt}{t u:TS}{e:Expr}{te:TE}{pos:Pos}
def tNext:TS:=fun D σ H=>D.nx σ H
def tSeq (t u:TS):TS:=fun D σ H=>t {D with nx:=u D} σ H
theorem pss_nil:PSs X [] tNext:=fun _ _ σ H _ I h=>wpAny_execs_nil ⟨σ,H,I,h⟩
theorem pss_cons (h1:PS X st t)(h2:PSs X rest u):PSs X (st::rest) (tSeq t u):=by
 intro pins s σ H D I h
 refine wpAny_execs_cons (thn (h1 pins s σ H {D with nx:=u D} I h) fun f s1 q=> ?_)
 cases f with
 | next=>
  obtain ⟨σ',H',I',q⟩:=q
  exact h2 pins s1 σ' H' D I' q
 | ret v=>exact q
 | brk=>exact q
 | cont=>exact q
theorem pss_one (h1:PS X st t):PSs X [st] t:=by
 intro pins s σ H D I h
 refine wpAny_execs_cons (thn (h1 pins s σ H D I h) fun f s1 q=> ?_)
 cases f with
 | next=>exact wpAny_execs_nil q
 | ret v=>exact q
 | brk=>exact q
 | cont=>exact q
def tCont:TS:=fun D σ H=>D.ct σ H
theorem ps_continue:PS X (.Continue pos) tCont:=fun _ _ σ H _ I h=>wpAny_Continue ⟨σ,H,I,h⟩
theorem Inv.quiet {pins:List (Addr×Obj)}{σ:St}{H:Hp}{s:Shared}(I:Inv X pins σ H s):interactive X.env=false:=by simp [interactive,I.ok.kind]
def tDrop (te:TE):TS:=fun D σ H=>te σ H fun _ H1=>D.nx σ H1
theorem ps_expr (he:PE X e te)(hs:swapsWith e none pos.line X.env=pure false:=by rfl):PS X (.Expr e pos) (tDrop te):=by
 intro pins s σ H D I h
 exact wpAny_Expr_any (thn (he pins s σ H _ I h) fun v s1 ⟨x,H1,I1,r1,q1⟩=>⟨σ,H1,I1,q1⟩) I.quiet hs
def tRet (te:TE):TS:=fun D σ H=>te σ H D.rt
theorem ps_ret (he:PE X e te):PS X (.Return (some e) pos) (tRet te):=by
 intro pins s σ H D I h
 exact wpAny_Return_some (thn (he pins s σ H _ I h) fun v s1 ⟨x,H1,I1,r1,q1⟩=>⟨x,σ,H1,I1,r1,q1⟩)
def tIfS (c:TT)(t u:TS):TS:=fun D σ H=>c σ H fun b H1=>if b=true then t D σ H1 else u D σ H1
theorem ps_if {c:Expr}{a b:List Stmt}{tc:TT}(hc:PT X c tc)(ha:PSs X a t)(hb:PSs X b u):PS X (.If c a b pos) (tIfS tc t u):=by
 intro pins s σ H D I h
 refine wpAny_If (thn (hc pins s σ H _ I h) fun d s1 ⟨H1,I1,q1⟩=> ?_)
 cases d with
 | true=>exact ha pins s1 σ H1 D I1 q1
 | false=>exact hb pins s1 σ H1 D I1 q1
def tNever:TS:=fun _ _ _=>False
theorem ps_never:PS X st tNever:=fun _ _ _ _ _ _ h=>h.elim
end
abbrev TG:=V→St→Hp→(St→Hp→Prop)→Prop
abbrev TGs:=List V→St→Hp→(St→Hp→Prop)→Prop
def PG (X:Cx)(target:Expr)(t:TG):Prop:=
 ∀(pins:List (Addr×Obj)) (s:Shared) (σ:St) (H:Hp) (v:V) (u:Value) (Q:St→Hp→Prop),Inv X pins σ H s→RelV v u→t v σ H Q→
  wpAny (model X.prog X.w) X.A (assign target X.env u) (fun _ s' =>∃σ' H',Inv X pins σ' H' s' ∧Q σ' H') X.xe s
def PGs (X:Cx)(ts:List Expr)(t:TGs):Prop:=
 ∀(pins:List (Addr×Obj)) (s:Shared) (σ:St) (H:Hp) (vs:List V) (us:List Value) (Q:St→Hp→Prop),Inv X pins σ H s→Vals vs us→t vs σ H Q→
  wpAny (model X.prog X.w) X.A (assignInOrder ((assignEach ts X.env).map (·.2)) us) (fun _ s' =>∃σ' H',Inv X pins σ' H' s' ∧Q σ' H') X.xe s
abbrev TSet:=V→V→V→Hp→(Hp→Prop)→Prop
def PSet (X:Cx)(t:TSet):Prop:=
 ∀(pins:List (Addr×Obj)) (s:Shared) (σ:St) (H:Hp) (o i v:V) (ov iv u:Value) (Q:Hp→Prop),Inv X pins σ H s→RelV o ov→RelV i iv→RelV v u→t o i v H Q→
  wpAny (model X.prog X.w) X.A (setItem ov iv u) (fun _ s' =>∃H',Inv X pins σ H' s' ∧Q H') X.xe s
section
variable {X:Cx}{pos:Pos}
def gName (i:Nat):TG:=fun v σ H Q=>Q (σ.set i (some v)) H
theorem pg_name {i:Nat}{x:Str}(hN:X.N.Nodup)(hi:X.N[i]? =some x)(hx:Loc X.env.scope x)(hf:X.fn x=true∨X.env.scope.names.lookup x=some .local:=by first | exact .inl rfl | exact .inr rfl | assumption):PG X (.Name x pos) (gName i):=by
 intro pins s σ H v u Q I r h
 exact wpAny_assign_Name (store_ok I hN hi hx r (fun s' I' =>⟨_,H,I',h⟩) hf)
def gNil:TGs:=fun vs σ H Q=>vs=[]∧Q σ H
def gCons (t:TG)(u:TGs):TGs:=fun vs σ H Q=>∃v r,vs=v::r∧t v σ H fun σ' H' =>u r σ' H' Q
theorem pgs_nil:PGs X [] gNil:=by
 intro pins s σ H vs us Q I r h
 obtain ⟨e,h⟩:=h
 subst e
 cases r
 exact assignInOrder_nil ⟨σ,H,I,h⟩
theorem pgs_cons {e:Expr}{es:List Expr}{t:TG}{u:TGs}(h1:PG X e t)(h2:PGs X es u)
  (hs:(assignEach (e::es) X.env).map (·.2)=assign e X.env::(assignEach es X.env).map (·.2):=by rfl):PGs X (e::es) (gCons t u):=by
 intro pins s σ H vs us Q I r h
 obtain ⟨v,vr,e1,h⟩:=h
 subst e1
 cases r with
 | cons r rr=>
  rw [hs]
  refine assignInOrder_cons (thn (h1 pins s σ H _ _ _ I r h) fun _ s1 ⟨σ1,H1,I1,q1⟩=> ?_)
  exact h2 pins s1 σ1 H1 _ _ Q I1 rr q1
inductive gTup (K:Frag)(n:Nat)(t:TGs)(v:V)(σ:St)(H:Hp)(Q:(St→Hp→Prop)):Prop where
 | mk (a xs:_) (_:v=.ref a) (_:SqT K H a xs) (_:xs.length=n) (_:t xs σ H Q):gTup K n t v σ H Q
theorem pg_tup {es:List Expr}{k:Nat}{t:TGs}{n:Nat}(hc:X.calm=true)(h:PGs X es t)
  (hn:(assignEach es X.env).length=n:=by rfl) (hst:(assignEach es X.env).findIdx? (·.1)=none:=by rfl):PG X (.Tuple es k pos) (gTup X.K n t):=by
 intro pins s σ H v u Q I r hw
 obtain ⟨a,xs,e1,hq,hl,hw⟩:=hw
 subst e1
 cases r
 obtain ⟨its,rv,ht,hz⟩:=I.tuple hq
 refine assign_Tuple_tuple (I.ok.hd hc) ht (by simp [hn, ← hl,rv.length]) hst fun h' hx=> ?_
 have I1:Inv X pins σ H {s with heap:=h' }:=I.kept (t' :=s.toks) fun b o e=>hx b o (Nat.ne_of_lt (Heap.lt_size e)) e
 exact h pins _ σ H xs _ Q I1 (by simpa using rv) hw
def gSub (to ti:TE)(t:TSet):TG:=fun v σ H Q=>to σ H fun o H1=>ti σ H1 fun i H2=>t o i v H2 fun H3=>Q σ H3
theorem pg_sub {o i:Expr}{to ti:TE}{t:TSet}(ho:PE X o to)(hi:PE X i ti)(hs:PSet X t)
  (ha:∀v,assign (.Subscript o i pos) X.env v=(do
   let ov ← holding [v] (eval o X.env)
   let iv ← holding [v,ov] (eval i X.env)
   standAt pos
   holding [v,ov,iv] (setItem ov iv v)
   release [v,ov,iv] []):=by intro _;rfl):PG X (.Subscript o i pos) (gSub to ti t):=by
 intro pins s σ H v u Q I r h
 rw [ha]
 refine wpAny_bind (wpAny_holding (thn (ho pins s σ H _ I h) fun ov s1 ⟨x,H1,I1,r1,q1⟩=> ?_))
 refine wpAny_bind (wpAny_holding (thn (hi pins s1 σ H1 _ I1 q1) fun iv s2 ⟨y,H2,I2,r2,q2⟩=> ?_))
 refine wpAny_bind (wpAny_standAt (wpAny_bind (wpAny_holding (thn (hs pins s2 σ H2 x y v ov iv u _ I2 r1 r2 r q2) fun _ s3 ⟨H3,I3,q3⟩=> ?_))))
 exact wpAny_release ⟨σ,H3,I3,q3⟩
def tAsg (te:TE)(g:TG):TS:=fun D σ H=>te σ H fun x H1=>g x σ H1 D.nx
theorem ps_asg {tg e:Expr}{te:TE}{g:TG}(he:PE X e te)(hg:PG X tg g)(hs:swapsWithSole [tg] e pos.line X.env=pure false:=by rfl)(hw:swappedStores [tg] e X.env=pure none:=by rfl)
  (h1:(assignEach [tg] X.env).map (·.2)=[assign tg X.env]:=by rfl):PS X (.Assign [tg] e pos) (tAsg te g):=by
 intro pins s σ H D I h
 refine wpAny_Assign_stores (thn (he pins s σ H _ I h) fun v s1 ⟨x,H1,I1,r1,q1⟩=> ?_) hs hw
 rw [h1]
 exact thn (hg pins s1 σ H1 x v _ I1 r1 q1) fun _ s2 q=>q
theorem ps_set {i:Nat}{x:Str}{e:Expr}{te:TE}{pos' :Pos}(hN:X.N.Nodup)(hi:X.N[i]? =some x)(hx:Loc X.env.scope x)(he:PE X e te)(hs:swapsWith e (some (.Name x pos')) pos.line X.env=pure false:=by rfl)(hf:X.fn x=true∨X.env.scope.names.lookup x=some .local:=by first | exact .inl rfl | exact .inr rfl | assumption):
  PS X (.Assign [.Name x pos'] e pos) (tAsg te (gName i)):=by
 intro pins s σ H D I h
 refine wpAny_Assign_Name (thn (he pins s σ H _ I h) fun v s1 ⟨y,H1,I1,r1,q1⟩=> ?_) hs
 exact store_ok I1 hN hi hx r1 (fun s2 I2=>⟨_,H1,I2,q1⟩) hf
inductive tPar_ (i:Nat)(j:Nat)(D:Ends)(σ:St)(vs:List V)(H1:Hp):Prop where
 | mk (v w:_) (_:vs=[v,w]) (_:D.nx ((σ.set i (some v)).set j (some w)) H1):tPar_ i j D σ vs H1
def tPar (i j:Nat)(ta:TA):TS:=fun D σ H=>ta σ H fun vs H1=>tPar_ i j D σ vs H1
theorem ps_par {i j:Nat}{x y:Str}{a b:Expr}{ta:TA}{px py pt:Pos}{kt k2 pt2}(hc:X.calm=true)(hN:X.N.Nodup)(hi:X.N[i]? =some x)(hj:X.N[j]? =some y)(hij:i≠j)
  (hx:X.env.scope.names.lookup x=some .local) (hy:X.env.scope.names.lookup y=some .local) (ha:PA X [a,b] ta)
  (hw:swappedStores [.Tuple [.Name x px,.Name y py] kt pt] (.Tuple [a,b] k2 pt2) X.env=pure (some [x,y]))
  (hs:swapsWithSole [.Tuple [.Name x px,.Name y py] kt pt] (.Tuple [a,b] k2 pt2) pos.line X.env=pure false:=by rfl):
  PS X (.Assign [.Tuple [.Name x px,.Name y py] kt pt] (.Tuple [a,b] k2 pt2) pos) (tPar i j ta):=by
 intro pins s σ H D I h
 rw [exec_Assign_arm]
 refine wpAny_bind (wpAny_standAt ?_)
 rw [hs]
 refine wpAny_bind (wpAny_pure ?_)
 rw [if_neg (by decide)]
 refine wpAny_bind (Tuple_ (thn (ha _ pins s σ H _ I h) fun us s1 ⟨vs,H1,I1,r1,q1⟩=> ?_))
 obtain ⟨v,w,e1,q1⟩:=q1
 subst e1
 obtain ⟨u1,u2,rfl,rv,rw'⟩:∃u1 u2,us=[u1,u2]∧RelV v u1∧RelV w u2:=by
  cases r1 with
  | cons p q=>
   cases q with
   | cons p' q' =>
    cases q'
    exact ⟨_,_,rfl,p,p'⟩
 refine wpAny_newObj_type ?_ (by show 2≤sizeLine;decide)
 have I2:Inv X pins σ H1 {s1 with heap:=s1.heap.push {cls:=.type "tuple",data:=.seq [u1,u2].toArray}}:=I1.kept (t' :=s1.toks) fun b o e=>Heap.get?_push_of_some _ e
 rw [hw]
 refine wpAny_bind (wpAny_pure ?_)
 show wpAny (model X.prog X.w) X.A (do rule "assign.swapped-stores";let items ← unpackItems (.ref s1.heap.objs.size) 2 none;assignInOrder [fun v=>bindName X.env y v,fun v=>bindName X.env x v] items.reverse;pure Flow.next) _ _ _
 refine wpAny_bind (wpAny_rule (wpAny_bind (unpackItems_tuple (items:= #[u1,u2]) (I.ok.hd hc) (IsTup.new s1.heap _) fun h' hx' => ?_)))
 have I3:=I2.kept (h' :=h') (t' :=s1.toks) fun b o e=>hx' b o (Nat.ne_of_lt (Heap.lt_size e)) e
 show wpAny _ _ (assignInOrder [fun v=>bindName X.env y v,fun v=>bindName X.env x v] [u2,u1] >>=fun _=>pure Flow.next) _ _ _
 refine wpAny_bind (assignInOrder_cons (wpAny_bindName (store_ok I3 hN hj (.inl hy) rw' (fun s2 I4=> ?_) (.inr hy))))
 refine assignInOrder_cons (wpAny_bindName (store_ok I4 hN hi (.inl hx) rv (fun s3 I5=>assignInOrder_nil (wpAny_pure ?_)) (.inr hx)))
 rw [List.set_comm _ _ (Ne.symm hij)] at I5
 exact ⟨_,H1,I5,q1⟩
end
section
variable {X:Cx}{pos:Pos}
def tWhile (c:TT)(tb:TS):TS:=fun D σ H=>∃W:Nat→St→Hp→Prop,(∃m,W m σ H)∧∀m σ H,W m σ H→
 c σ H fun b H1=>if b=true then ∃N:St→Hp→Prop,(∀σ' H',N σ' H' →∃m',m' < m∧W m' σ' H')∧tb {D with nx:=N,ct:=N,bk:=D.nx} σ H1 else D.nx σ H1
theorem ps_while {c:Expr}{body:List Stmt}{tc:TT}{tb:TS}(hp:PassesOwn (model X.prog X.w) X.A X.env X.xe)(hc:PT X c tc)(hb:PSs X body tb):PS X (.While c body [] pos) (tWhile tc tb):=by
 intro pins s σ H D I h
 obtain ⟨W,⟨m0,w0⟩,turn⟩:=h
 refine wpAny_While (codeAny_whileLoop (fun n s' =>∃σ' H',Inv X pins σ' H' s' ∧W n σ' H') ?_ m0 ⟨σ,H,I,w0⟩)
 rintro n s1 ⟨σ1,H1,I1,w1⟩
 refine wpAny_passesOwn hp (thn (hc pins s1 σ1 H1 _ I1 (turn n σ1 H1 w1)) fun b s2 ⟨H2,I2,q2⟩=> ?_)
 cases b with
 | true=>
  obtain ⟨N,hN,q2⟩:=q2
  rw [if_pos rfl]
  refine wpAny_passesOwn hp (thn (hb pins s2 σ1 H2 _ I2 q2) fun f s3 q3=> ?_)
  cases f with
  | next=>
   obtain ⟨σ3,H3,I3,n3⟩:=q3
   obtain ⟨m',hm,w3⟩:=hN σ3 H3 n3
   exact ⟨m',hm,σ3,H3,I3,w3⟩
  | cont=>
   obtain ⟨σ3,H3,I3,n3⟩:=q3
   obtain ⟨m',hm,w3⟩:=hN σ3 H3 n3
   exact ⟨m',hm,σ3,H3,I3,w3⟩
  | brk=>exact q3
  | ret v=>exact q3
 | false=>
  rw [if_neg Bool.false_ne_true]
  exact wpAny_execs_nil ⟨σ1,H2,I2,q2⟩
end
structure It where
 go:Nat→Hp→Prop
 yld:Nat→Hp→V→Hp→Prop
 stop:Nat→Hp→Prop
def FpOk (X:Cx)(pins:List (Addr×Obj))(H:Hp)(b:Addr):Prop:=
 H b=none∧b≠X.env.locals∧b∉X.fs∧(b∈X.ex∨X.s₀.heap.objs.size≤b)∧(∀x c,X.env.cells.lookup x=some c→c≠b)∧∀p∈X.pn++pins,p.1≠b
theorem Inv.fpOk {X:Cx}{pins:List (Addr×Obj)}{σ:St}{H H' :Hp}{s:Shared}{b:Addr}(I:Inv X pins σ H s)(hb:s.heap.objs.size≤b)(hn:H' b=none):FpOk X pins H' b:=by
 refine ⟨hn,Nat.ne_of_gt (Nat.lt_of_lt_of_le I.lt hb),I.nofs hb,.inr (Nat.le_trans I.sz hb),fun x c e z=> ?_,fun p hp z=> ?_⟩
 ·obtain ⟨v,q⟩:=I.cell x c e
  exact absurd (Nat.lt_of_lt_of_le q.lt (by rw [z];exact hb)) (Nat.lt_irrefl _)
 ·exact absurd (Nat.lt_of_lt_of_le (Heap.lt_size (I.pin p hp).1) (by rw [z];exact hb)) (Nat.lt_irrefl _)
structure Turn (P:Program)(w:World)(K:Frag)(tg:Expr)(J:It)(fp:List Addr)(it:Addr)(tn:Nat→Heap→Prop):Prop where
 mem:it∈fp
 obj:∀i h,tn i h→∀b∈fp,∃o,h.get? b=some o∧∀v,o.data≠.cell v
 keep:∀i h h',tn i h→(∀b∈fp,∀o,h.get? b=some o→h'.get? b=some o)→tn i h'
 item:∀(X:Cx),X.prog=P→X.w=w→X.K=K→X.calm=true→∀(i:Nat) (pins:List (Addr×Obj)) (s:Shared) (σ:St) (H:Hp) (E:Value→Shared→Prop),Inv X pins σ H s→(∀b∈fp,FpOk X pins H b)→tn i s.heap→J.go i H→
  wpAny (model P w) X.A (pyNext (.ref it)) (fun r s1=>∃u,r=some u∧
   wpAny (model P w) X.A (letOwnedTupleGo tg (.ref it) u) (fun _ s2=>∃x H',Inv X pins σ H' s2∧RelV x u∧J.yld i H x H' ∧tn (i+1) s2.heap∧∀b∈fp,H' b=none) E s1) E s
 done:∀(X:Cx),X.prog=P→X.w=w→X.K=K→X.calm=true→∀(i:Nat) (pins:List (Addr×Obj)) (s:Shared) (σ:St) (H:Hp) (E:Value→Shared→Prop),Inv X pins σ H s→(∀b∈fp,FpOk X pins H b)→tn i s.heap→J.stop i H→
  wpAny (model P w) X.A (pyNext (.ref it)) (fun r s1=>r=none∧Inv X pins σ H s1) E s
 self:∀(A:Around) (i:Nat) (s:Shared) (Q:Value→Shared→Prop) (E:Value→Shared→Prop),tn i s.heap→Q (.ref it) s→wpAny (model P w) A (pyIter (.ref it)) Q E s
abbrev TI:=St→Hp→(It→Hp→Prop)→Prop
def PIE (X:Cx)(pins:List (Addr×Obj))(σ:St)(tg:Expr)(R:It→Hp→Prop)(itv:Value)(s2:Shared):Prop:=
 ∃(it:Addr) (fp:List Addr) (tn:Nat→Heap→Prop) (J:It) (H' :Hp),itv=.ref it∧Inv X pins σ H' s2∧Turn X.prog X.w X.K tg J fp it tn∧tn 0 s2.heap∧(∀b∈fp,FpOk X pins H' b)∧R J H'
def PI (X:Cx)(tg iter:Expr)(wi:TI):Prop:=
 ∀(pins:List (Addr×Obj)) (s:Shared) (σ:St) (H:Hp) (R:It→Hp→Prop),Inv X pins σ H s→wi σ H R→
  wpAny (model X.prog X.w) X.A (eval iter X.env) (fun v s1=>wpAny (model X.prog X.w) X.A (pyIter v) (PIE X pins σ tg R) X.xe s1) X.xe s
theorem go_of {M : Model} {A : Around} {E : Value → Shared → Prop} {s : Shared} {tg : Expr} {it : Addr} {u : Value} {o : Obj} {n : String} {vs : Array Value} {Q : Unit → Shared → Prop} (ho : s.heap.get? it = some o) (hc : o.cls = .type n) (hd : o.data = .fields vs)
    (hn : ["enumerate", "zip", "dict_itemiterator", "dict_reverseitemiterator", "odict_iterator", "itertools.zip_longest", "itertools.pairwise"].contains n = false) (hQ : Q () s) : wpAny M A (letOwnedTupleGo tg (.ref it) u) Q E s := by
  unfold letOwnedTupleGo
  cases tg <;> first
    | exact wpAny_pure hQ
    | (cases u <;> first
        | exact wpAny_pure hQ
        | (refine wpAny_bind (wpAny_load ho ?_)
           rw [hc, hd]
           show wpAny M A (if (["enumerate", "zip", "dict_itemiterator", "dict_reverseitemiterator", "odict_iterator", "itertools.zip_longest", "itertools.pairwise"].contains n && vs[0]? == some (rawInt _)) = true then _ else _) Q E s
           rw [if_neg (by intro h; rw [hn, Bool.false_and] at h; cases h)]
           exact wpAny_pure hQ))
def Itl (K:Frag)(a:Addr):It:=
 ⟨fun i H=>∃xs x,SqL K H a xs∧xs[i]? =some x,fun i H x H' =>H' =H∧∀xs,SqL K H a xs→xs[i]? =some x,fun i H=>∃xs,SqL K H a xs∧xs.length≤i⟩
def Itr (lo:Int)(n:Nat):It:=⟨fun i _=>i < n,fun i H x H' =>H' =H∧x=.int (lo+i),fun i _=>n≤i⟩
theorem turn_list {P:Program}{w:World}{K:Frag}{tg:Expr}(a it:Addr):Turn P w K tg (Itl K a) [it] it (fun i h=>h.IsListIter it a i) where
 mem:=by simp
 obj:=fun i h st b hb=>by
  have e:b=it:=by simpa using hb
  subst e
  obtain ⟨o,e,c,d⟩:=st
  exact ⟨o,e,fun v z=>by rw [d] at z;cases z⟩
 keep:=fun i h h' st k=>st.at fun o e=>k it (by simp) o e
 item:=by
  intro X hP hw hK hc i pins s σ H E I hf st hg
  subst hP hw hK
  obtain ⟨xs,x,hq,hx⟩:=hg
  obtain ⟨its,rv,p,hz⟩:=I.list hq
  obtain ⟨u,hu,ru⟩:=rv.get hx
  obtain ⟨f0,f1,f2,f3,f4,f5⟩:=hf it (by simp)
  refine wpAny_pyNext_list_item st p.isList (x:=u) (by simpa using hu) fun h' st' sb=> ?_
  have I1:Inv X pins σ H {s with heap:=h' }:=I.turned (t' :=s.toks) (fun b o hb e=>(sb.2 b hb).trans e) f0 f1 f3 f4 f5
  obtain ⟨o,e,c,d⟩:=id st'
  exact ⟨u,rfl,go_of (s:={s with heap:=h' }) e c d (by decide) ⟨x,H,I1,ru,⟨rfl,fun ys hy=>by rw [I.list_inj hy hq];exact hx⟩,st',fun b hb=>(hf b hb).1⟩⟩
 done:=by
  intro X hP hw hK hc i pins s σ H E I hf st hg
  subst hP hw hK
  obtain ⟨xs,hq,hx⟩:=hg
  obtain ⟨its,rv,p,hz⟩:=I.list hq
  obtain ⟨f0,f1,f2,f3,f4,f5⟩:=hf it (by simp)
  have hl:=rv.length
  exact wpAny_pyNext_list_end (I.ok.hd hc) st p.isList (by simp;omega) fun h' eb=>⟨rfl,I.turned (t' :=s.toks) (fun b o hb e=>eb b o hb e) f0 f1 f3 f4 f5⟩
 self:=fun _ _ _ _ _ st h=>wpAny_pyIter_listiter st h
theorem turn_range {P:Program}{w:World}{K:Frag}{tg:Expr}(it:Addr)(lo:Int)(n:Nat):Turn P w K tg (Itr lo n) [it] it (fun i h=>IsRangeIter h it (lo+(i:Nat)*1) ((n:Int) - (i:Nat)) 1) where
 mem:=by simp
 obj:=fun i h st b hb=>by
  have e:b=it:=by simpa using hb
  subst e
  exact ⟨_,st,fun v z=>by
   have z' :Data.fields _=Data.cell v:=z
   cases z'⟩
 keep:=fun i h h' st k=>k it (by simp) _ st
 item:=by
  intro X hP hw hK hc i pins s σ H E I hf st hg
  subst hP hw hK
  obtain ⟨f0,f1,f2,f3,f4,f5⟩:=hf it (by simp)
  have W:=Walks.range (prog:=X.prog) (w:=X.w) (I.ok.hd hc) it lo 1 n
  refine W.item i s _ _ hg st fun v h' tk hv st' kk=> ?_
  obtain ⟨t,rfl⟩:=hv
  have I1:Inv X pins σ H {s with heap:=h',toks:=tk}:=I.turned (fun b o hb e=>kk b o (by simpa using hb) e) f0 f1 f3 f4 f5
  refine ⟨_,rfl,go_of (s:={s with heap:=h',toks:=tk}) (n:="range_iterator") st' rfl rfl (by decide) ⟨.int (lo+i),H,I1,⟨t,?_⟩,⟨rfl,rfl⟩,st',fun b hb=>(hf b hb).1⟩⟩
  rw [Int.mul_one]
 done:=by
  intro X hP hw hK hc i pins s σ H E I hf st hg
  subst hP hw hK
  obtain ⟨f0,f1,f2,f3,f4,f5⟩:=hf it (by simp)
  exact wpAny_pyNext_range_end (I.ok.hd hc) st (by have:n≤i:=hg;omega) fun h' eb=>⟨rfl,I.turned (t' :=s.toks) (fun b o hb e=>eb b o hb e) f0 f1 f3 f4 f5⟩
 self:=fun _ _ _ _ _ st h=>wpAny_pyIter_rangeiter st h
end L2
namespace L2
open PySem PySem.Spec PyProof.Rows
section
variable {X:Cx}{tg:Expr}
inductive iList_ (K:Frag)(R:(It→Hp→Prop))(x:V)(H1:Hp):Prop where
 | mk (a:_) (_:x=.ref a) (_:(∃xs,SqL K H1 a xs)) (_:R (Itl K a) H1):iList_ K R x H1
def iList (K:Frag)(tl:TE):TI:=fun σ H R=>tl σ H fun x H1=>iList_ K R x H1
theorem pi_list {l:Expr}{tl:TE}(hl:PE X l tl):PI X tg l (iList X.K tl):=by
 intro pins s σ H R I h
 refine thn (hl pins s σ H _ I h) fun v s1 ⟨x,H1,I1,r1,q1⟩=> ?_
 obtain ⟨a,e,⟨xs,hq⟩,q⟩:=q1
 subst e
 cases r1
 obtain ⟨its,rv,p,hz⟩:=I1.list hq
 refine wpAny_pyIter_list p.isList ?_
 refine ⟨s1.heap.objs.size,[s1.heap.objs.size],_,_,H1,rfl,I1.kept (t' :=s1.toks) fun b o e=>Heap.get?_push_of_some _ e,turn_list a _,⟨_,Heap.get?_push_size _ rfl,rfl,rfl⟩,fun b hb=> ?_,q⟩
 have e:b=s1.heap.objs.size:=by simpa using hb
 subst e
 exact I1.fpOk (Nat.le_refl _) (I1.hok.fresh (Nat.le_refl _))
theorem range_it {pins:List (Addr×Obj)}{σ:St}{H:Hp}{s:Shared}{R:It→Hp→Prop}{E:Value→Shared→Prop}{lo hi:Int}{t u v:Tok}{tk:Nat}(I:Inv X pins σ H s)(h1: -(2^62)≤lo)(h2:lo < 2^62)(h3: -(2^62)≤hi)(h4:hi < 2^62)
  (q:R (Itr lo (hi - lo).toNat) H):wpAny (model X.prog X.w) X.A (pyIter (.ref s.heap.objs.size)) (PIE X pins σ tg R) E {s with heap:=s.heap.push {cls:=.type "range",data:=.fields #[.int lo t,.int hi u,.int 1 v]},toks:=tk}:=by
 refine wpAny_pyIter_range (IsRange.new ..) (small_one h1 h2 h3 h4) ?_
 have I1:Inv X pins σ H {s with heap:=s.heap.push {cls:=.type "range",data:=.fields #[.int lo t,.int hi u,.int 1 v]},toks:=tk}:=I.kept fun b o e=>Heap.get?_push_of_some _ e
 refine ⟨(s.heap.push {cls:=.type "range",data:=.fields #[.int lo t,.int hi u,.int 1 v]}).objs.size,[(s.heap.push {cls:=.type "range",data:=.fields #[.int lo t,.int hi u,.int 1 v]}).objs.size],_,_,H,rfl,
  I1.kept (t' :=tk) fun b o e=>Heap.get?_push_of_some _ e,turn_range _ lo (hi - lo).toNat,?_,fun b hb=> ?_,q⟩
 ·have e1:lo+((0:Nat):Int)*1=lo:=by simp
  have e2:(((hi - lo).toNat:Nat):Int) - ((0:Nat):Int)=Builtin.Range.rangeSize lo hi 1:=by rw [rangeSize_one];split <;> omega
  show IsRangeIter _ _ (lo+((0:Nat):Int)*1) ((((hi - lo).toNat:Nat):Int) - ((0:Nat):Int)) 1
  rw [e1,e2]
  exact Heap.get?_push_size _ rfl
 ·have e:b=(s.heap.push {cls:=.type "range",data:=.fields #[.int lo t,.int hi u,.int 1 v]}).objs.size:=by simpa using hb
  subst e
  exact I1.fpOk (Nat.le_refl _) (I1.hok.fresh (Nat.le_refl _))
inductive iRng1_ (R:(It→Hp→Prop))(vs:List V)(H1:Hp):Prop where
 | mk (j:Int) (_:vs=[.int j]) (_: -(2^62)≤j) (_:j < 2^62) (_:R (Itr 0 j.toNat) H1):iRng1_ R vs H1
def iRng1 (ta:TA):TI:=fun σ H R=>ta σ H fun vs H1=>iRng1_ R vs H1
theorem pi_range1 {a:Expr}{ta:TA}{p pos:Pos}(hg:Gl X "range")(hm:X.mg "range"=none)(ha:PA X [a] ta)(hs:starEach [a] X.env=[(false,eval a X.env)]:=by rfl):PI X tg (.Call (.Name "range" p) [a] [] pos) (iRng1 ta):=by
 intro pins s σ H R I h
 refine Call_ (ld_blt I hg hm boot_range (PyProof.Rows.callWith_type1 (thn (ha pos pins s σ H _ I h) fun us s1 ⟨vs,H1,I1,r1,q1⟩=> ?_) hs rfl))
 obtain ⟨j,e,q1,q2,q⟩:=q1
 subst e
 cases r1 with
 | cons r rr=>
  cases rr
  obtain ⟨t,rfl⟩:=r
  exact call_range_1 (range_it I1 (by omega) (by omega) q1 q2 (by simpa using q))
def tFor (wi:TI)(g:TG)(tb:TS):TS:=fun D σ H=>wi σ H fun J H1=>∃W:Nat→Nat→St→Hp→Prop,(∃m,W 0 m σ H1)∧∀i m σ H,W i m σ H→
 (J.stop i H∧D.nx σ H)∨(J.go i H∧∃N:St→Hp→Prop,(∀σ' H',N σ' H' →∃m',m' < m∧W (i+1) m' σ' H')∧∀x H',J.yld i H x H' →g x σ H' fun σ2 H2=>tb {D with nx:=N,ct:=N,bk:=D.nx} σ2 H2)
def pinsAt (fp:List Addr)(h:Heap):List (Addr×Obj):=fp.filterMap fun b=>(h.get? b).map fun o=>(b,o)
theorem mem_pinsAt {fp:List Addr}{h:Heap}{b:Addr}{o:Obj}(hb:b∈fp)(e:h.get? b=some o):(b,o)∈pinsAt fp h:=List.mem_filterMap.mpr ⟨b,hb,by rw [e];rfl⟩
theorem of_pinsAt {fp:List Addr}{h:Heap}{p:Addr×Obj}(hp:p∈pinsAt fp h):p.1∈fp∧h.get? p.1=some p.2:=by
 obtain ⟨b,hb,e⟩:=List.mem_filterMap.mp hp
 cases q:h.get? b with
 | none=>rw [q] at e;cases e
 | some o=>
  rw [q] at e
  have e' :(b,o)=p:=Option.some.inj e
  subst e'
  exact ⟨hb,q⟩
theorem Inv.pinned {pins:List (Addr×Obj)}{σ:St}{H:Hp}{s:Shared}{fp:List Addr}(I:Inv X pins σ H s)(hf:∀b∈fp,FpOk X pins H b)(ho:∀b∈fp,∃o,s.heap.get? b=some o∧∀v,o.data≠.cell v):Inv X (pins++pinsAt fp s.heap) σ H s:=
 I.pins_of fun p hp=>(List.mem_append.mp hp).elim (fun z=>I.pin p (List.mem_append_right _ z)) fun z=>by
  obtain ⟨hb,e⟩:=of_pinsAt z
  obtain ⟨f0,f1,f2,_⟩:=hf p.1 hb
  obtain ⟨o,e',d⟩:=ho p.1 hb
  rw [e] at e';cases e'
  exact ⟨e,f0,f1,f2,d⟩
theorem Inv.unpinned {pins pl:List (Addr×Obj)}{σ:St}{H:Hp}{s:Shared}(I:Inv X (pins++pl) σ H s):Inv X pins σ H s:=I.pins_of fun p hp=>I.pin p (List.mem_append_right _ (List.mem_append_left _ hp))
theorem ps_for {iter:Expr}{body:List Stmt}{wi:TI}{g:TG}{tb:TS}{pos:Pos}(hp:PassesOwn (model X.prog X.w) X.A X.env X.xe)(hc:X.calm=true)(hi:PI X tg iter wi)(hg:PG X tg g)(hb:PSs X body tb)
  (hs:∀x,foldedSetIterable iter X.env x=pure x:=by intro _;rfl):PS X (.For tg iter body [] pos) (tFor wi g tb):=by
 intro pins s σ H D I h
 refine wpAny_For (thn (hi pins s σ H _ I h) fun v s1 h1=>thn h1 fun itv s2 h2=> ?_) hs
 obtain ⟨it,fp,tn,J,H2,e,I2,T,st2,f2,W,⟨m0,w0⟩,turn⟩:=h2
 subst e
 have stat:∀{H' :Hp},(∀b∈fp,H' b=none)→∀b∈fp,FpOk X pins H' b:=fun hn b hb=>⟨hn b hb,(f2 b hb).2⟩
 refine codeAny_forLoop_any (fun n s' =>∃i σ' H',Inv X pins σ' H' s' ∧tn i s'.heap∧(∀b∈fp,H' b=none)∧W i n σ' H') ?_ m0 ⟨0,σ,H2,I2,st2,fun b hb=>(f2 b hb).1,w0⟩
 rintro n s3 ⟨i,σ3,H3,I3,st3,fr3,w3⟩
 rcases turn i n σ3 H3 w3 with ⟨stop,qn⟩ | ⟨go,N,hN,step⟩
 ·refine wpAny_passesOwn hp (thn (T.done X rfl rfl rfl hc i pins s3 σ3 H3 X.xe I3 (stat fr3) st3 stop) fun r s4 ⟨hr,I4⟩=> ?_)
  subst hr
  exact wpAny_execs_nil ⟨σ3,H3,I4,qn⟩
 ·refine wpAny_passesOwn hp (thn (T.item X rfl rfl rfl hc i pins s3 σ3 H3 X.xe I3 (stat fr3) st3 go) fun r s4 ⟨u,hr,h4⟩=> ?_)
  subst hr
  refine wpAny_passesOwn hp (thn h4 fun _ s5 ⟨x,H5,I5,r5,y5,st5,fr5⟩=> ?_)
  have I5' :=I5.pinned (stat fr5) (T.obj _ _ st5)
  refine wpAny_passesOwn hp (thn (hg _ s5 σ3 H5 x u _ I5' r5 (step x H5 y5)) fun _ s6 ⟨σ6,H6,I6,q6⟩=> ?_)
  refine wpAny_passesOwn hp (thn (hb _ s6 σ6 H6 _ I6 q6) fun f s7 q7=> ?_)
  have again:∀{σ7:St} {H7:Hp},Inv X (pins++pinsAt fp s5.heap) σ7 H7 s7→N σ7 H7→∃m,m < n∧∃i σ' H',Inv X pins σ' H' s7∧tn i s7.heap∧(∀b∈fp,H' b=none)∧W i m σ' H' :=fun {σ7 H7} I7 n7=>by
   obtain ⟨m',hm,w7⟩:=hN σ7 H7 n7
   refine ⟨m',hm,i+1,σ7,H7,I7.unpinned,T.keep _ _ _ st5 fun b hb o e=>(I7.pin (b,o) (List.mem_append_right _ (List.mem_append_right _ (mem_pinsAt hb e)))).1,fun b hb=> ?_,w7⟩
   obtain ⟨o,e,d⟩:=T.obj _ _ st5 b hb
   exact (I7.pin (b,o) (List.mem_append_right _ (List.mem_append_right _ (mem_pinsAt hb e)))).2.1
  cases f with
  | next=>obtain ⟨σ7,H7,I7,n7⟩:=q7;exact again I7 n7
  | cont=>obtain ⟨σ7,H7,I7,n7⟩:=q7;exact again I7 n7
  | brk=>obtain ⟨σ7,H7,I7,q7⟩:=q7;exact ⟨σ7,H7,I7.unpinned,q7⟩
  | ret v=>obtain ⟨x7,σ7,H7,I7,r7,q7⟩:=q7;exact ⟨x7,σ7,H7,I7.unpinned,r7,q7⟩
end
theorem for_list {K:Frag}{a:Addr}{xs:List V}{g:TG}{tb:TS}{D:Ends}{σ:St}{H:Hp}(Pv:Nat→St→Hp→Prop)(h0:Pv 0 σ H)(hl:∀i σ H,i≤xs.length→Pv i σ H→SqL K H a xs)
  (hs:∀i x σ H,xs[i]? =some x→Pv i σ H→g x σ H fun σ2 H2=>tb {D with nx:=Pv (i+1),ct:=Pv (i+1),bk:=D.nx} σ2 H2) (hd:∀σ H,Pv xs.length σ H→D.nx σ H):
  ∃W:Nat→Nat→St→Hp→Prop,(∃m,W 0 m σ H)∧∀i m σ H,W i m σ H→
   ((Itl K a).stop i H∧D.nx σ H)∨((Itl K a).go i H∧∃N:St→Hp→Prop,(∀σ' H',N σ' H' →∃m',m' < m∧W (i+1) m' σ' H')∧∀x H',(Itl K a).yld i H x H' →g x σ H' fun σ2 H2=>tb {D with nx:=N,ct:=N,bk:=D.nx} σ2 H2):=by
 refine ⟨fun i m σ H=>m=xs.length - i∧i≤xs.length∧Pv i σ H,⟨xs.length,by simp,Nat.zero_le _,h0⟩,?_⟩
 rintro i m σ H ⟨rfl,hi,p⟩
 have q:=hl i σ H hi p
 by_cases hlt:i < xs.length
 ·refine .inr ⟨⟨xs,xs[i],q,by simp [hlt]⟩,Pv (i+1),fun σ' H' p' =>⟨xs.length - (i+1),by omega,rfl,hlt,p'⟩,fun x H' y=> ?_⟩
  obtain ⟨e,y⟩:=y
  subst e
  exact hs i x σ _ (y xs q) p
 ·have e:i=xs.length:=by omega
  subst e
  exact .inl ⟨⟨xs,q,Nat.le_refl _⟩,hd σ H p⟩
theorem for_range {lo:Int}{n:Nat}{g:TG}{tb:TS}{D:Ends}{σ:St}{H:Hp}(Pv:Nat→St→Hp→Prop)(h0:Pv 0 σ H)
  (hs:∀i σ H,i < n→Pv i σ H→g (.int (lo+i)) σ H fun σ2 H2=>tb {D with nx:=Pv (i+1),ct:=Pv (i+1),bk:=D.nx} σ2 H2) (hd:∀σ H,Pv n σ H→D.nx σ H):
  ∃W:Nat→Nat→St→Hp→Prop,(∃m,W 0 m σ H)∧∀i m σ H,W i m σ H→
   ((Itr lo n).stop i H∧D.nx σ H)∨((Itr lo n).go i H∧∃N:St→Hp→Prop,(∀σ' H',N σ' H' →∃m',m' < m∧W (i+1) m' σ' H')∧∀x H',(Itr lo n).yld i H x H' →g x σ H' fun σ2 H2=>tb {D with nx:=N,ct:=N,bk:=D.nx} σ2 H2):=by
 refine ⟨fun i m σ H=>m=n - i∧i≤n∧Pv i σ H,⟨n,by simp,Nat.zero_le _,h0⟩,?_⟩
 rintro i m σ H ⟨rfl,hi,p⟩
 by_cases hlt:i < n
 ·refine .inr ⟨hlt,Pv (i+1),fun σ' H' p' =>⟨n - (i+1),by omega,rfl,hlt,p'⟩,fun x H' y=> ?_⟩
  obtain ⟨e,y⟩:=y
  subst e y
  exact hs i σ _ hlt p
 ·have e:i=n:=by omega
  subst e
  exact .inl ⟨Nat.le_refl _,hd σ H p⟩
theorem while_by {c:TT}{tb:TS}{D:Ends}{σ:St}{H:Hp}(Pv:St→Hp→Prop)(μ:St→Hp→Nat)(h0:Pv σ H)
  (hs:∀σ H,Pv σ H→c σ H fun b H1=>if b=true then tb {D with nx:=fun σ' H' =>Pv σ' H' ∧μ σ' H' < μ σ H,ct:=fun σ' H' =>Pv σ' H' ∧μ σ' H' < μ σ H,bk:=D.nx} σ H1 else D.nx σ H1)
  (mono:∀σ H Q Q',(∀b H1,Q b H1→Q' b H1)→c σ H Q→c σ H Q'):tWhile c tb D σ H:=by
 refine ⟨fun m σ H=>m=μ σ H∧Pv σ H,⟨_,rfl,h0⟩,?_⟩
 rintro m σ H ⟨rfl,p⟩
 refine mono σ H _ _ (fun b H1 q=> ?_) (hs σ H p)
 cases b with
 | true=>exact ⟨_,fun σ' H' ⟨p',l⟩=>⟨_,l,rfl,p'⟩,q⟩
 | false=>exact q
end L2
namespace L2
open PySem PySem.Spec PyProof.Rows
abbrev R2:=V→V→Hp→VK→Prop
def OpR (X:Cx)(f:Value→Value→Sem Value)(r:R2):Prop:=
 ∀(pins:List (Addr×Obj)) (s:Shared) (σ:St) (H:Hp) (x y:V) (v u:Value) (Q:VK),Inv X pins σ H s→RelV x v→RelV y u→r x y H Q→
  wpAny (model X.prog X.w) X.A (f v u) (EP X pins σ Q) X.xe s
def UnR (X:Cx)(f:Value→Sem Value)(r:V→Hp→VK→Prop):Prop:=
 ∀(pins:List (Addr×Obj)) (s:Shared) (σ:St) (H:Hp) (x:V) (v:Value) (Q:VK),Inv X pins σ H s→RelV x v→r x H Q→
  wpAny (model X.prog X.w) X.A (f v) (EP X pins σ Q) X.xe s
def CallR (X:Cx)(f:Value)(r:List V→Hp→VK→Prop):Prop:=
 ∀(pins:List (Addr×Obj)) (s:Shared) (σ:St) (H:Hp) (xs:List V) (us:List Value) (Q:VK),Inv X pins σ H s→Vals xs us→r xs H Q→
  wpAny (model X.prog X.w) X.A (call f us) (EP X pins σ Q) X.xe s
def tOp (r:R2)(ta tb:TE):TE:=fun σ H Q=>ta σ H fun x H1=>tb σ H1 fun y H2=>r x y H2 Q
def tUn (r:V→Hp→VK→Prop)(ta:TE):TE:=fun σ H Q=>ta σ H fun x H1=>r x H1 Q
inductive rI (C:Int→Int→Prop)(g:Int→Int→V)(x:V)(y:V)(H:Hp)(Q:VK):Prop where
 | mk (i j:_) (_:x=.int i) (_:y=.int j) (_:C i j) (_:Q (g i j) H):rI C g x y H Q
inductive rI0 (g:Int→Int→V)(x:V)(y:V)(H:Hp)(Q:VK):Prop where
 | mk (i j:_) (_:x=.int i) (_:y=.int j) (_:Q (g i j) H):rI0 g x y H Q
inductive rU (g:Int→V)(x:V)(H:Hp)(Q:VK):Prop where
 | mk (i:_) (_:x=.int i) (_:Q (g i) H):rU g x H Q
section
variable {X:Cx}{a b c:Expr}{ta tb tc:TE}{pos:Pos}
theorem binT (ha:PE X a ta)(hb:PE X b tb){pins:List (Addr×Obj)}{s:Shared}{σ:St}{H:Hp}{R:V→V→Hp→Prop}(I:Inv X pins σ H s)
  (h:ta σ H fun x H1=>tb σ H1 fun y H2=>R x y H2) {Q:Value→Shared→Prop} {f:Value→Value→Sem Value}
  (hf:∀v u s2 x y H2,Inv X pins σ H2 s2→RelV x v→RelV y u→R x y H2→wpAny (model X.prog X.w) X.A (f v u) Q X.xe s2):
  wpAny (model X.prog X.w) X.A (eval a X.env) (fun v s₁=>wpAny (model X.prog X.w) X.A (eval b X.env) (fun u s₂=>wpAny (model X.prog X.w) X.A (f v u) Q X.xe s₂) X.xe s₁) X.xe s:=by
 refine thn (ha pins s σ H _ I h) fun v s1 ⟨x,H1,I1,r1,q1⟩=> ?_
 refine thn (hb pins s1 σ H1 _ I1 q1) fun u s2 ⟨y,H2,I2,r2,q2⟩=> ?_
 exact hf v u s2 x y H2 I2 r1 r2 q2
theorem pe_op {op:Operator}{r:R2}(ho:OpR X (binaryOp op) r)(ha:PE X a ta)(hb:PE X b tb):PE X (.BinOp a op b pos) (tOp r ta tb):=by
 intro pins s σ H Q I h
 exact wpAny_BinOp (binT ha hb I h fun v u s2 x y H2 I2 rx ry q=>ho pins s2 σ H2 x y v u Q I2 rx ry q)
theorem pe_un {op:UnaryOp}{r:V→Hp→VK→Prop}(ho:UnR X (unaryOp op) r)(ha:PE X a ta):PE X (.UnaryOp op a pos) (tUn r ta):=by
 intro pins s σ H Q I h
 exact UnaryOp_ (thn (ha pins s σ H _ I h) fun v s1 ⟨x,H1,I1,r1,q1⟩=>ho pins s1 σ H1 x v Q I1 r1 q1)
theorem opI {f:Value→Value→Sem Value}{C:Int→Int→Prop}{g:Int→Int→Int}
  (rule:∀(i j:Int) (t u:Tok) (s:Shared) (Q:Value→Shared→Prop) (E:Value→Shared→Prop),C i j→Q (.int (g i j) s.toks) {s with toks:=s.toks+1}→wpAny (model X.prog X.w) X.A (f (.int i t) (.int j u)) Q E s):
  OpR X f (rI C fun i j=>.int (g i j)):=by
 intro pins s σ H x y v u Q I rx ry h
 obtain ⟨i,j,rfl,rfl,hc,q⟩:=h
 obtain ⟨t,rfl⟩:=rx
 obtain ⟨t',rfl⟩:=ry
 exact rule i j t t' s _ _ hc ⟨.int (g i j),H,I.tok _,⟨_,rfl⟩,q⟩
theorem opI0 {f:Value→Value→Sem Value}{g:Int→Int→Int}
  (rule:∀(i j:Int) (t u:Tok) (s:Shared) (Q:Value→Shared→Prop) (E:Value→Shared→Prop),Q (.int (g i j) s.toks) {s with toks:=s.toks+1}→wpAny (model X.prog X.w) X.A (f (.int i t) (.int j u)) Q E s):
  OpR X f (rI0 fun i j=>.int (g i j)):=by
 intro pins s σ H x y v u Q I rx ry h
 obtain ⟨i,j,rfl,rfl,q⟩:=h
 obtain ⟨t,rfl⟩:=rx
 obtain ⟨t',rfl⟩:=ry
 exact rule i j t t' s _ _ ⟨.int (g i j),H,I.tok _,⟨_,rfl⟩,q⟩
theorem opB0 {f:Value→Value→Sem Value}{g:Int→Int→Bool}
  (rule:∀(i j:Int) (t u:Tok) (s:Shared) (Q:Value→Shared→Prop) (E:Value→Shared→Prop),Q (.bool (g i j)) s→wpAny (model X.prog X.w) X.A (f (.int i t) (.int j u)) Q E s):
  OpR X f (rI0 fun i j=>.bl (g i j)):=by
 intro pins s σ H x y v u Q I rx ry h
 obtain ⟨i,j,rfl,rfl,q⟩:=h
 obtain ⟨t,rfl⟩:=rx
 obtain ⟨t',rfl⟩:=ry
 exact rule i j t t' s _ _ ⟨.bl (g i j),H,I,rfl,q⟩
theorem op_add:OpR X (binaryOp .Add) (rI0 fun i j=>.int (i+j)):=opI0 fun _ _ _ _ _ _ _ q=>add_int q
theorem op_sub:OpR X (binaryOp .Sub) (rI0 fun i j=>.int (i - j)):=opI0 fun _ _ _ _ _ _ _ q=>sub_int q
theorem op_modN:OpR X (binaryOp .Mod) (rI (fun _ j=>j≠0) fun i j=>.int (i.fmod j)):=opI fun _ _ _ _ _ _ _ hc q=>mod_int' hc q
theorem unI {f:Value→Sem Value}{g:Int→Int}
  (rule:∀(i:Int) (t:Tok) (s:Shared) (Q:Value→Shared→Prop) (E:Value→Shared→Prop),Q (.int (g i) s.toks) {s with toks:=s.toks+1}→wpAny (model X.prog X.w) X.A (f (.int i t)) Q E s):
  UnR X f (rU fun i=>.int (g i)):=by
 intro pins s σ H x v Q I rx h
 obtain ⟨i,rfl,q⟩:=h
 obtain ⟨t,rfl⟩:=rx
 exact rule i t s _ _ ⟨.int (g i),H,I.tok _,⟨_,rfl⟩,q⟩
theorem un_neg:UnR X (unaryOp .USub) (rU fun i=>.int (-i)):=unI fun _ _ _ _ _ q=>neg_int q
end
def scal:V→V→Bool
 | .non,.non=>true | .non,.int _=>true | .int _,.non=>true | .non,.bl _=>true | .bl _,.non=>true | .non,.str _=>true | .str _,.non=>true
 | .int _,.int _=>true | .bl _,.bl _=>true | .str _,.str _=>true | .byt _,.byt _=>true
 | .int _,.str _=>true | .str _,.int _=>true | .bl _,.str _=>true | .str _,.bl _=>true
 | _,_=>false
def rEq:R2:=fun x y H Q=>scal x y=true∧Q (.bl (decide (x=y))) H
def rNe:R2:=fun x y H Q=>scal x y=true∧Q (.bl (!decide (x=y))) H
theorem dec_int {i j:Int}:decide (V.int i=V.int j)=(i==j):=by
 rw [Bool.eq_iff_iff]
 simp
theorem dec_bl {i j:Bool}:decide (V.bl i=V.bl j)=(i==j):=by
 rw [Bool.eq_iff_iff]
 simp
theorem dec_str {i j:Str}:decide (V.str i=V.str j)=(i==j):=by
 rw [Bool.eq_iff_iff]
 simp
theorem dec_byt {i j:Array UInt8}:decide (V.byt i=V.byt j)=(i.toList==j.toList):=by
 rw [Bool.eq_iff_iff]
 cases i
 cases j
 simp
section
variable {X:Cx}{a b c:Expr}{ta tb tc:TE}{pos:Pos}
theorem fin_bl {pins:List (Addr×Obj)}{σ:St}{H:Hp}{s:Shared}{Q:VK}{k k' :Bool}(I:Inv X pins σ H s)(q:Q (.bl k) H)(e:k=k'):EP X pins σ Q (.bool k') s:=by
 subst e
 exact ⟨.bl k,H,I,rfl,q⟩
theorem op_eq:OpR X (compareOp .Eq) rEq:=by
 intro pins s σ H x y v u Q I rx ry h
 obtain ⟨hs,q⟩:=h
 cases x with
 | non=>
  cases rx
  cases y with
  | non=>cases ry;exact PySem.EqNone.eq_none_none (fin_bl I q (by simp))
  | bl j=>cases ry;exact PySem.EqNone.eq_none_bool (fin_bl I q (by simp))
  | int j=>obtain ⟨t',rfl⟩:=ry;exact PySem.EqNone.eq_none_int (fin_bl I q (by simp))
  | str j=>obtain ⟨t',rfl⟩:=ry;exact PySem.EqNone.eq_none_str (fin_bl I q (by simp))
  | _=>exact absurd (show false=true from hs) Bool.false_ne_true
 | bl i=>
  cases rx
  cases y with
  | non=>cases ry;exact PySem.EqNone.eq_bool_none (fin_bl I q (by simp))
  | bl j=>cases ry;exact eq_bool (fin_bl I q dec_bl)
  | str j=>obtain ⟨t',rfl⟩:=ry;exact PySem.EqMixed.eq_bool_str (fin_bl I q (by simp))
  | _=>exact absurd (show false=true from hs) Bool.false_ne_true
 | int i=>
  obtain ⟨t,rfl⟩:=rx
  cases y with
  | non=>cases ry;exact PySem.EqNone.eq_int_none (fin_bl I q (by simp))
  | int j=>obtain ⟨t',rfl⟩:=ry;exact eq_int (fin_bl I q dec_int)
  | str j=>obtain ⟨t',rfl⟩:=ry;exact PySem.EqMixed.eq_int_str (fin_bl I q (by simp))
  | _=>exact absurd (show false=true from hs) Bool.false_ne_true
 | str i=>
  obtain ⟨t,rfl⟩:=rx
  cases y with
  | non=>cases ry;exact PySem.EqNone.eq_str_none (fin_bl I q (by simp))
  | bl j=>cases ry;exact PySem.EqMixed.eq_str_bool (fin_bl I q (by simp))
  | int j=>obtain ⟨t',rfl⟩:=ry;exact PySem.EqMixed.eq_str_int (fin_bl I q (by simp))
  | str j=>obtain ⟨t',rfl⟩:=ry;exact eq_str (fin_bl I q dec_str)
  | _=>exact absurd (show false=true from hs) Bool.false_ne_true
 | byt i=>
  obtain ⟨t,rfl⟩:=rx
  cases y with
  | byt j=>obtain ⟨t',rfl⟩:=ry;exact PySem.W.eq_bytes (fin_bl I q dec_byt)
  | _=>exact absurd (show false=true from hs) Bool.false_ne_true
 | _=>cases y <;> exact absurd (show false=true from hs) Bool.false_ne_true
theorem op_ne:OpR X (compareOp .NotEq) rNe:=by
 intro pins s σ H x y v u Q I rx ry h
 obtain ⟨hs,q⟩:=h
 cases x with
 | non=>
  cases rx
  cases y with
  | non=>cases ry;exact PySem.EqNone.ne_none_none (fin_bl I q (by simp))
  | bl j=>cases ry;exact PySem.EqNone.ne_none_bool (fin_bl I q (by simp))
  | int j=>obtain ⟨t',rfl⟩:=ry;exact PySem.EqNone.ne_none_int (fin_bl I q (by simp))
  | str j=>obtain ⟨t',rfl⟩:=ry;exact PySem.EqNone.ne_none_str (fin_bl I q (by simp))
  | _=>exact absurd (show false=true from hs) Bool.false_ne_true
 | bl i=>
  cases rx
  cases y with
  | non=>cases ry;exact PySem.EqNone.ne_bool_none (fin_bl I q (by simp))
  | bl j=>cases ry;exact ne_bool (fin_bl I q (congrArg not dec_bl))
  | str j=>obtain ⟨t',rfl⟩:=ry;exact PySem.EqMixed.ne_bool_str (fin_bl I q (by simp))
  | _=>exact absurd (show false=true from hs) Bool.false_ne_true
 | int i=>
  obtain ⟨t,rfl⟩:=rx
  cases y with
  | non=>cases ry;exact PySem.EqNone.ne_int_none (fin_bl I q (by simp))
  | int j=>obtain ⟨t',rfl⟩:=ry;exact ne_int (fin_bl I q (congrArg not dec_int))
  | str j=>obtain ⟨t',rfl⟩:=ry;exact PySem.EqMixed.ne_int_str (fin_bl I q (by simp))
  | _=>exact absurd (show false=true from hs) Bool.false_ne_true
 | str i=>
  obtain ⟨t,rfl⟩:=rx
  cases y with
  | non=>cases ry;exact PySem.EqNone.ne_str_none (fin_bl I q (by simp))
  | bl j=>cases ry;exact PySem.EqMixed.ne_str_bool (fin_bl I q (by simp))
  | int j=>obtain ⟨t',rfl⟩:=ry;exact PySem.EqMixed.ne_str_int (fin_bl I q (by simp))
  | str j=>obtain ⟨t',rfl⟩:=ry;exact ne_str (fin_bl I q (congrArg not dec_str))
  | _=>exact absurd (show false=true from hs) Bool.false_ne_true
 | byt i=>
  obtain ⟨t,rfl⟩:=rx
  cases y with
  | byt j=>obtain ⟨t',rfl⟩:=ry;exact PySem.W.ne_bytes (fin_bl I q (congrArg not dec_byt))
  | _=>exact absurd (show false=true from hs) Bool.false_ne_true
 | _=>cases y <;> exact absurd (show false=true from hs) Bool.false_ne_true
theorem op_lt:OpR X (compareOp .Lt) (rI0 fun i j=>.bl (decide (i < j))):=opB0 fun _ _ _ _ _ _ _ q=>lt_int q
theorem op_gt:OpR X (compareOp .Gt) (rI0 fun i j=>.bl (decide (j < i))):=opB0 fun _ _ _ _ _ _ _ q=>gt_int q
theorem op_ge:OpR X (compareOp .GtE) (rI0 fun i j=>.bl (decide (j≤i))):=opB0 fun _ _ _ _ _ _ _ q=>ge_int q
theorem op_isN:OpR X (compareOp .Is) (fun x y H Q=>y=.non∧Q (.bl (decide (x=.non))) H):=by
 intro pins s σ H x y v u Q I rx ry h
 obtain ⟨rfl,q⟩:=h
 cases ry
 refine is_none_gen (fin_bl I q ?_)
 cases x <;> first
  | (cases rx;rfl)
  | (obtain ⟨t,rfl⟩:=rx;rfl)
theorem op_notN:OpR X (compareOp .IsNot) (fun x y H Q=>y=.non∧Q (.bl (!decide (x=.non))) H):=by
 intro pins s σ H x y v u Q I rx ry h
 obtain ⟨rfl,q⟩:=h
 cases ry
 refine isnot_none_gen (fin_bl I q ?_)
 cases x <;> first
  | (cases rx;rfl)
  | (obtain ⟨t,rfl⟩:=rx;rfl)
theorem nomark (b:Expr){op:CmpOp}(h:op≠.In:=by decide)(h2:op≠.NotIn:=by decide):behindInMarks op b=false:=by
 have e1:(op==CmpOp.In)=false:=by cases op <;> first | rfl | exact absurd rfl h
 have e2:(op==CmpOp.NotIn)=false:=by cases op <;> first | rfl | exact absurd rfl h2
 cases b <;> simp [behindInMarks,e1,e2]
theorem pe_cmpR {op:CmpOp}{r:R2}(ho:OpR X (compareOp op) r)(ha:PE X a ta)(hb:PE X b tb)(hm:behindInMarks op b=false):PE X (.Compare a [op] [b] pos) (tOp r ta tb):=by
 intro pins s σ H Q I h
 exact wpAny_Compare1 (binT ha hb I h fun v u s2 x y H2 I2 rx ry q=>ho pins s2 σ H2 x y v u Q I2 rx ry q) hm
inductive tTest_ (Q:(Bool→Hp→Prop))(x:V)(H' :Hp):Prop where
 | mk (k:_) (_:x=.bl k) (_:Q k H'):tTest_ Q x H'
def tTest (t:TE):TT:=fun σ H Q=>t σ H fun x H' =>tTest_ Q x H'
theorem pt_cmpR {op:CmpOp}{r:R2}(ho:OpR X (compareOp op) r)(ha:PE X a ta)(hb:PE X b tb)(hm:behindInMarks op b=false):PT X (.Compare a [op] [b] pos) (tTest (tOp r ta tb)):=by
 intro pins s σ H Q I h
 refine wpAny_isTrue_Compare1 (thn (ha pins s σ H _ I h) fun v s1 ⟨x,H1,I1,r1,q1⟩=>thn (hb pins s1 σ H1 _ I1 q1) fun u s2 ⟨y,H2,I2,r2,q2⟩=>
  thn (ho pins s2 σ H2 x y v u _ I2 r1 r2 q2) fun c s3 ⟨z,H3,I3,r3,k,e,q3⟩=> ?_) hm
 subst e
 cases r3
 exact wpAny_truthy_bool ⟨H3,I3,q3⟩
theorem line63:(sizeLine:Nat) < 2^63:=by rw [sizeLine_eq];decide
theorem op_add_str:OpR X (binaryOp .Add) (fun x y H Q=>∃i j,x=.str i∧y=.str j∧i.length+j.length≤sizeLine∧Q (.str (i++j)) H):=by
 intro pins s σ H x y v u Q I rx ry h
 obtain ⟨i,j,rfl,rfl,hz,q⟩:=h
 obtain ⟨t,rfl⟩:=rx
 obtain ⟨t',rfl⟩:=ry
 exact add_str (fun t' tk=>⟨.str (i++j),H,I.tok _,⟨_,rfl⟩,q⟩) hz
theorem vals1 {x:V}{us:List Value}(r:Vals [x] us):∃u,us=[u]∧RelV x u:=by
 cases r with
 | cons r1 r2=>cases r2;exact ⟨_,rfl,r1⟩
theorem vals2 {x y:V}{us:List Value}(r:Vals [x,y] us):∃u w',us=[u,w']∧RelV x u∧RelV y w' :=by
 cases r with
 | cons r1 r2=>
  cases r2 with
  | cons r3 r4=>cases r4;exact ⟨_,_,rfl,r1,r3⟩
theorem call_abs:CallR X (.builtin "abs") (fun xs H Q=>∃i,xs=[.int i]∧Q (.int (if i < 0 then -i else i)) H):=by
 intro pins s σ H xs us Q I r h
 obtain ⟨i,rfl,q⟩:=h
 obtain ⟨u,rfl,t,rfl⟩:=vals1 r
 exact call_abs_int fun u tk=>⟨.int (if i < 0 then -i else i),H,I.tok _,⟨_,rfl⟩,q⟩
theorem call_min2 (hc:X.calm=true):CallR X (.builtin "min") (fun xs H Q=>∃i j,xs=[.int i,.int j]∧Q (.int (if j < i then j else i)) H):=by
 intro pins s σ H xs us Q I r h
 obtain ⟨i,j,rfl,q⟩:=h
 obtain ⟨u,w',rfl,⟨t,rfl⟩,⟨t',rfl⟩⟩:=vals2 r
 refine min_two_ints (I.ok.hd hc) fun h' tk k=>⟨_,H,I.kept k,?_,q⟩
 by_cases hj:j < i
 ·rw [if_pos hj,if_pos hj];exact ⟨_,rfl⟩
 ·rw [if_neg hj,if_neg hj];exact ⟨_,rfl⟩
theorem call_str_int:CallR X (.type "str") (fun xs H Q=>∃i,xs=[.int i]∧i.natAbs.log2 < 1920∧Q (.str (toString i)) H):=by
 intro pins s σ H xs us Q I r h
 obtain ⟨i,rfl,hz,q⟩:=h
 obtain ⟨u,rfl,t,rfl⟩:=vals1 r
 exact PySem.P.str_of_int hz ⟨.str _,H,I.tok _,⟨_,rfl⟩,q⟩
end
end L2
namespace L2
open PySem PySem.Spec PyProof.Rows
structure ObjM (h:Heap)(x dx C:Addr)(mA:Str→Option Value):Prop where
 obj:h.get? x=some (PySem.W.instObj C dx)
 ns:h.Ns1 dx mA
 ne:dx≠x
theorem lookIn_ns {h:Heap}{dx:Addr}{mA:Str→Option Value}(n:h.Ns1 dx mA):∃od,h.get? dx=some od∧∀name,PySem.W.lookIn name od=some (mA name):=by
 obtain ⟨o,es,ep,ho,hd,hk,_,hm⟩:=n
 refine ⟨o,ho,fun name=> ?_⟩
 have e:=hm name
 unfold nsFind findBy at e
 rw [← Array.find?_toList] at e
 unfold PySem.W.lookIn
 rw [hd]
 dsimp only
 split
 ·rename_i y q
  rw [q] at e
  exact congrArg some e
 ·rename_i q
  rw [q] at e
  have a:es.toList.any (·.refKey)=false:=by
   rw [List.any_eq_false]
   intro y hy
   obtain ⟨z,t,hkey⟩:=hk y (Array.mem_toList_iff.mp hy)
   simp [DictEntry.refKey,hkey]
  have a' :¬ es.toList.any (·.refKey)=true:=by rw [a];exact Bool.false_ne_true
  rw [if_neg a']
  exact congrArg some e
theorem ObjM.look {h:Heap}{x dx C:Addr}{mA:Str→Option Value}(I:ObjM h x dx C mA):∃od,PySem.W.InstAt h x (PySem.W.instObj C dx) C (some od)∧∀name,PySem.W.lookIn name od=some (mA name):=
 let ⟨od,ho,hl⟩:=lookIn_ns I.ns
 ⟨od,⟨I.obj,rfl,rfl,ho⟩,hl⟩
section
variable {prog:Program}{w:World}{A:Around}{E:Value→Shared→Prop}{s:Shared}{K:Frag}{x dx C f:Addr}{mA:Str→Option Value}{name:Str}{v:Value}
theorem get_map {expr:Bool}{Q:Value→Shared→Prop}(X:K.In s.heap)(I:ObjM s.heap x dx C mA)(hg:PySem.W.plainGet K C name=true)(hh:PySem.W.hasDictIn K C=true)
  (ha:PySem.W.findIn K (.ref C) name=some none) (hv:mA name=some v) (hv' :PySem.W.handedIn v=true) (h:Q v {s with toks:=s.toks+1}):
  wpAny (model prog w) A (getAttr (.ref x) name expr) Q E s:=by
 obtain ⟨od,J,hl⟩:=I.look
 exact PySem.W.get_value X J (PySem.W.plainGet_of hg).1 (PySem.W.findObj_own hh ha rfl (by rw [hl,hv])) hv' h
theorem get_meth {pl:Sem Bool}{Q:Value×List Value→Shared→Prop}(X:K.In s.heap)(I:ObjM s.heap x dx C mA)(hg:PySem.W.plainGet K C name=true)
  (hf:PySem.W.findIn K (.ref C) name=some (some (.ref f))) (ht:PySem.W.isFn K (.ref f)=true) (hv:mA name=none) (h:Q (.ref f,[.ref x]) s):
  wpAny (model prog w) A (getMethod (.ref x) name pl) Q E s:=by
 obtain ⟨od,J,hl⟩:=I.look
 exact PySem.W.method_fn X J (PySem.W.plainGet_of hg).1 (PySem.W.plainGet_of hg).2 hf (beq_iff_eq.mp ht) (by show (PySem.W.lookIn name od).map (·.isSome)=some false;rw [hl,hv];rfl) h
theorem set_map {ns:List Str}{Q:Unit→Shared→Prop}(X:K.In s.heap)(I:ObjM s.heap x dx C mA)
  (hs:PySem.W.findIn K (.ref C) "__setattr__"=some (some (.builtin "object.__setattr__"))) (hp:PySem.W.plainOver K C=true) (ht:PySem.W.takerIn K C name=some none) (hh:PySem.W.hasDictIn K C=true)
  (hw:PySem.Within mA ns) (hsz:ns.length≤sizeLine)
  (h:∀h',ObjM h' x dx C (fun y=>if y=name then some v else mA y)→Heap.SameBut dx s.heap h' →Q () {s with heap:=h',toks:=s.toks+2}):
  wpAny (model prog w) A (setAttr (.ref x) name v) Q E s:=by
 obtain ⟨od,J,hl⟩:=I.look
 refine PySem.W.set_plain X J hs (PySem.W.osa_open (s:={s with toks:=s.toks+1}) (r:=none) X J hp ht fun b=> ?_)
 obtain ⟨cd,hc,hd'⟩:=PySem.W.any_some hh
 have hx:s.heap.get? x=some ⟨.ref C,some dx,.plain, #[]⟩:=I.obj
 refine wpAny_bind (wpAny_pure (wpAny_bind (wpAny_bind (wpAny_loadPart hx (wpAny_bind (PySem.W.Looks.here (s:={s with toks:=s.toks+1}) (PySem.W.looks_clsIn X hc) ?_))))))
 rw [hd']
 refine wpAny_pure (a:=some dx) (wpAny_bind (wpAny_pure (wpAny_bind ?_)))
 refine wpAny_nsSet1 (s:={s with toks:=s.toks+1}) I.ns fun h' hn2 hs2=> ?_
 obtain ⟨oD,esD,epD,hoD,hdD,hcD⟩:=hn2.count (PySem.Within.cons name v hw)
 refine wpAny_bind (wpAny_lookBehind hoD (by rw [hdD];exact pastItsLine_dict (Nat.le_trans hcD (by rw [List.length_cons];omega))) ?_)
 exact wpAny_pure (h _ ⟨(hs2.2 _ (Ne.symm I.ne)).trans I.obj,hn2,I.ne⟩ hs2)
theorem make_map {R:Result→Shared→Prop}{vs:List Value}{kw:List (Str×Value)}(X:K.In s.heap)(hm:PySem.W.makesIn K C=true)
  (hi:PySem.W.findIn K (.ref C) "__init__"=some (some (.ref f))) (hf:PySem.W.typeIn K (.ref f)=some (.type "function"))
  (h:codeAny (model prog w) (A.under (.builtin "type.__call__" ⟨.ref C::vs,kw⟩)) (.call (.ref f) ⟨.ref (s.heap.objs.size+1)::vs,kw⟩) (PySem.W.InitBack (s.heap.objs.size+1) R)
   {s with heap:=(s.heap.push PySem.W.emptyDict).push (PySem.W.instObj C s.heap.objs.size)}):
  codeAny (model prog w) A (.call (.ref C) ⟨vs,kw⟩) R s:=by
 obtain ⟨hh,g,d,t,os⟩:=s
 exact PySem.W.make_core (PySem.W.makes_of X hm) (PySem.W.looks_findIn X hi) (fun self=>PySem.W.bind_fn X self hf) (.inl rfl) h
theorem make_map0 {R:Result→Shared→Prop}(X:K.In s.heap)(hm:PySem.W.makesIn K C=true)
  (hi:PySem.W.findIn K (.ref C) "__init__"=some (some (.builtin "object.__init__")))
  (hb:∀self,PySem.W.Looks (model prog w) s.heap (bindSpecial (.builtin "object.__init__") self) (.builtin "object.__init__",[self]))
  (h:codeAny (model prog w) (A.under (.builtin "type.__call__" ⟨[.ref C],[]⟩)) (.call (.builtin "object.__init__") ⟨[.ref (s.heap.objs.size+1)],[]⟩) (PySem.W.InitBack (s.heap.objs.size+1) R)
   {s with heap:=(s.heap.push PySem.W.emptyDict).push (PySem.W.instObj C s.heap.objs.size)}):
  codeAny (model prog w) A (.call (.ref C) ⟨[],[]⟩) R s:=by
 obtain ⟨hh,g,d,t,os⟩:=s
 exact PySem.W.make_core (PySem.W.makes_of X hm) (PySem.W.looks_findIn X hi) hb (.inr ⟨rfl,rfl⟩) h
end
def putF (f:Str)(v:V):List (Str×V)→List (Str×V)
 | []=>[(f,v)]
 | (g,x)::r=>if g=f then (g,v)::r else (g,x)::putF f v r
theorem lookup_putF (f g:Str)(v:V):∀fs:List (Str×V),(putF f v fs).lookup g=if g=f then some v else fs.lookup g
 | []=>by
  show List.lookup g [(f,v)]=_
  by_cases h:g=f
  ·have hb:(g==f)=true:=beq_iff_eq.mpr h
   simp only [List.lookup,hb,if_pos h]
  ·have hb:(g==f)=false:=beq_eq_false_iff_ne.mpr h
   simp only [List.lookup,hb,if_neg h]
 | (k,x)::r=>by
  have ih:=lookup_putF f g v r
  rw [show putF f v ((k,x)::r)=(if k=f then (k,v)::r else (k,x)::putF f v r) from rfl]
  by_cases hk:k=f
  ·rw [if_pos hk]
   by_cases h:g=k
   ·have hb:(g==k)=true:=beq_iff_eq.mpr h
    simp only [List.lookup,hb,if_pos (h.trans hk)]
   ·have hb:(g==k)=false:=beq_eq_false_iff_ne.mpr h
    simp only [List.lookup,hb,if_neg (fun e:g=f=>h (e.trans hk.symm))]
  ·rw [if_neg hk]
   by_cases h:g=k
   ·have hb:(g==k)=true:=beq_iff_eq.mpr h
    simp only [List.lookup,hb,if_neg (fun e:g=f=>hk (h.symm.trans e))]
   ·have hb:(g==k)=false:=beq_eq_false_iff_ne.mpr h
    simp only [List.lookup,hb]
    exact ih
theorem keys_putF (f:Str)(v:V):∀fs:List (Str×V),f∈(putF f v fs).map (·.1)∧∀g,g∈fs.map (·.1)→g∈(putF f v fs).map (·.1)
 | []=>⟨by simp [putF],fun g h=>by simp at h⟩
 | (k,x)::r=>by
  obtain ⟨i1,i2⟩:=keys_putF f v r
  rw [show putF f v ((k,x)::r)=(if k=f then (k,v)::r else (k,x)::putF f v r) from rfl]
  by_cases hk:k=f
  ·rw [if_pos hk]
   subst hk
   exact ⟨by simp,fun g h=>by simpa using h⟩
  ·rw [if_neg hk]
   refine ⟨?_,fun g h=> ?_⟩
   ·rw [List.map_cons]
    exact List.mem_cons_of_mem _ i1
   ·rw [List.map_cons] at h ⊢
    rcases List.mem_cons.mp h with e | e
    ·exact List.mem_cons.mpr (.inl e)
    ·exact List.mem_cons_of_mem _ (i2 g e)
theorem length_putF (f:Str)(v:V):∀fs:List (Str×V),(putF f v fs).length≤fs.length+1
 | []=>by simp [putF]
 | (k,x)::r=>by
  have ih:=length_putF f v r
  rw [show putF f v ((k,x)::r)=(if k=f then (k,v)::r else (k,x)::putF f v r) from rfl]
  by_cases hk:k=f
  ·rw [if_pos hk,List.length_cons,List.length_cons];omega
  ·rw [if_neg hk,List.length_cons,List.length_cons];omega
theorem RelO.some_of {v:V}{o:Option Value}(r:RelO (some v) o):∃u,o=some u∧RelV v u:=by
 cases o with
 | none=>exact (show False from r).elim
 | some u=>exact ⟨u,rfl,r⟩
theorem RelO.none_of {o:Option Value}(r:RelO none o):o=none:=by
 cases o with
 | none=>rfl
 | some u=>exact (show False from r).elim
theorem handed_of {v:V}{u:Value}(r:RelV v u):PySem.W.handedIn u=true:=by
 cases v with
 | non=>cases (show u=Value.none from r);rfl
 | bl b=>cases (show u=Value.bool b from r);rfl
 | int i=>obtain ⟨t,e⟩:=(show ∃t,u=Value.int i t from r);cases e;rfl
 | str x=>obtain ⟨t,e⟩:=(show ∃t,u=Value.str x t from r);cases e;rfl
 | byt b=>obtain ⟨t,e⟩:=(show ∃t,u=Value.bytes b t from r);cases e;rfl
 | flt b=>obtain ⟨t,e⟩:=(show ∃t,u=Value.float b t from r);cases e;rfl
 | ref a=>cases (show u=Value.ref a from r);rfl
 | ty n=>cases (show u=Value.type n from r);rfl
section
variable {P:Program}{w:World}{H H' :Hp}{h h' :Heap}{a C dx:Addr}{fs fs' :List (Str×V)}
theorem ins_get (hok:HOk P w H h)(e:H a=some (.ins C dx fs)):∃mA,ObjM h a dx C mA∧(∀f,RelO (fs.lookup f) (mA f))∧PySem.Within mA (fs.map (·.1))∧fs.length≤1000∧H dx=some (.own a):=by
 obtain ⟨d,z,ne,ob,mA,n,r,q⟩:=(show ObjOk P w H h a (.ins C dx fs) from hok a _ e)
 exact ⟨mA,⟨ob,n,ne⟩,r,q,z,d⟩
end
structure Cls (K:Frag)(C:Addr):Prop where
 pg:PySem.W.plainGet K C Str.empty=true
 hd:PySem.W.hasDictIn K C=true
 po:PySem.W.plainOver K C=true
 sa:PySem.W.findIn K (.ref C) "__setattr__"=some (some (.builtin "object.__setattr__"))
theorem Cls.get {K:Frag}{C:Addr}(c:Cls K C)(f:Str):PySem.W.plainGet K C f=true:=c.pg
def NoAttr (K:Frag)(C:Addr)(f:Str):Prop:=PySem.W.findIn K (.ref C) f=some none
theorem NoAttr.taker {K:Frag}{C:Addr}{f:Str}(n:NoAttr K C f):PySem.W.takerIn K C f=some none:=by
 unfold PySem.W.takerIn
 rw [show PySem.W.findIn K (.ref C) f=some none from n]
 rfl
structure Meth (K:Frag)(C:Addr)(m:Str)(f:Addr):Prop where
 at_:PySem.W.findIn K (.ref C) m=some (some (.ref f))
 fn:PySem.W.isFn K (.ref f)=true
 kp:keepIn K (.ref f)=true
section
variable {X:Cx}{pins:List (Addr×Obj)}{σ:St}{H:Hp}{s:Shared}{a C dx:Addr}{fs:List (Str×V)}{f:Str}{v:V}{A:Around}{E:Value→Shared→Prop}
theorem getattr_ok {b:Bool}{Q:Value→Shared→Prop}(I:Inv X pins σ H s)(e:H a=some (.ins C dx fs))(c:Cls X.K C)(n:NoAttr X.K C f)(l:fs.lookup f=some v)
  (h:∀u s',Inv X pins σ H s' →RelV v u→Q u s'):wpAny (model X.prog X.w) A (getAttr (.ref a) f b) Q E s:=by
 obtain ⟨mA,O,r,_,_,_⟩:=ins_get I.hok e
 obtain ⟨u,hu,ru⟩:=RelO.some_of (v:=v) (o:=mA f) (by rw [← l];exact r f)
 exact get_map I.kIn O (c.get f) c.hd n hu (handed_of ru) (h u _ (I.tok _) ru)
theorem getmeth_ok {m:Str}{g:Addr}{pl:Sem Bool}{Q:Value×List Value→Shared→Prop}(I:Inv X pins σ H s)(e:H a=some (.ins C dx fs))(c:Cls X.K C)(k:Meth X.K C m g)(l:fs.lookup m=none)
  (h:Q (.ref g,[.ref a]) s):wpAny (model X.prog X.w) A (getMethod (.ref a) m pl) Q E s:=by
 obtain ⟨mA,O,r,_,_,_⟩:=ins_get I.hok e
 have hn:mA m=none:=RelO.none_of (by rw [← l];exact r m)
 exact get_meth I.kIn O (c.get m) k.at_ k.fn hn h
theorem setattr_ok {y:V}{u:Value}{Q:Unit→Shared→Prop}(I:Inv X pins σ H s)(e:H a=some (.ins C dx fs))(c:Cls X.K C)(n:NoAttr X.K C f)(hl:fs.length < 1000)(ry:RelV y u)
  (h:∀s',Inv X pins σ (upd H a (.ins C dx (putF f y fs))) s' →Q () s'):wpAny (model X.prog X.w) A (setAttr (.ref a) f u) Q E s:=by
 obtain ⟨mA,O,r,wi,_,ho⟩:=ins_get I.hok e
 have hz:(fs.map (·.1)).length≤sizeLine:=by rw [List.length_map,sizeLine_eq];omega
 refine set_map I.kIn O c.sa c.po n.taker c.hd wi hz fun h' O' sb=>h _ ?_
 have hd:∃o,h'.get? dx=some o:=let ⟨o,_,_,e',_⟩:=O'.ns;⟨o,e'⟩
 refine I.write (x:=a) (e:=dx) (by rw [e];exact True.intro) (.inr ho) (fun b q hb z=>(sb.2 b hb).trans z) hd ?_
 refine ⟨by rw [upd_ne O.ne];exact ho,?_,O.ne,O'.obj,_,O'.ns,fun g=> ?_,fun g hg=> ?_⟩
 ·have:=length_putF f y fs;omega
 ·show RelO ((putF f y fs).lookup g) (if g=f then some u else mA g)
  rw [lookup_putF]
  by_cases q:g=f
  ·rw [if_pos q,if_pos q];exact ry
  ·rw [if_neg q,if_neg q];exact r g
 ·by_cases q:g=f
  ·rw [q];exact (keys_putF f y fs).1
  ·refine (keys_putF f y fs).2 g (wi g fun z=>hg ?_)
   show (if g=f then some u else mA g)=none
   rw [if_neg q];exact z
theorem Inv.made (I:Inv X pins σ H s):Inv X pins σ (upd (upd H s.heap.objs.size (.own (s.heap.objs.size+1))) (s.heap.objs.size+1) (.ins C s.heap.objs.size []))
  {s with heap:=(s.heap.push PySem.W.emptyDict).push (PySem.W.instObj C s.heap.objs.size)}:=by
 have e1:(s.heap.push PySem.W.emptyDict).get? s.heap.objs.size=some PySem.W.emptyDict:=Heap.get?_push_size s.heap rfl
 have e2:((s.heap.push PySem.W.emptyDict).push (PySem.W.instObj C s.heap.objs.size)).get? (s.heap.objs.size+1)=some (PySem.W.instObj C s.heap.objs.size):=by
  have:=Heap.get?_push_size (s.heap.push PySem.W.emptyDict) (o:=PySem.W.instObj C s.heap.objs.size) rfl
  rwa [Heap.size_push] at this
 have e3:(s.heap.push PySem.W.emptyDict).Ns s.heap.objs.size (fun _=>none):=⟨PySem.W.emptyDict, #[],_,e1,rfl,(fun e he=>absurd he (by simp)),fun _=>rfl⟩
 have I1:=I.laid (a:=s.heap.objs.size) (o:=.own (s.heap.objs.size+1)) (h' :=s.heap.push PySem.W.emptyDict) (t' :=s.toks) (fun b u q=>Heap.get?_push_of_some _ q) (Nat.le_refl _) ⟨_,e1⟩
 refine I1.laid (a:=s.heap.objs.size+1) (o:=.ins C s.heap.objs.size []) (t' :=s.toks) (fun b u q=>Heap.get?_push_of_some _ q) (Nat.le_of_eq (Heap.size_push _ _)) ?_
 have ne:s.heap.objs.size≠s.heap.objs.size+1:=Nat.ne_of_lt (Nat.lt_succ_self _)
 refine ⟨by rw [upd_ne ne,upd_same],Nat.zero_le _,ne,e2,fun _=>none,(Heap.Ns1.of_empty e3).at fun o q=>Heap.get?_push_of_some _ q,fun _=>True.intro,fun y hy=>absurd rfl hy⟩
theorem attr_of {prog:Program}{w:World}{env:Env}{e:Expr}{f:Str}{pos:Pos}{s:Shared}{Q:Value→Shared→Prop}(hb:attributeBase e f env (eval e env)=eval e env)
  (h:wpAny (model prog w) A (eval e env) (fun o s₁=>wpAny (model prog w) A (getAttr o f true) Q E s₁) E s):wpAny (model prog w) A (eval (.Attribute e f pos) env) Q E s:=
 Attribute_any_ h (by rw [arm_eval_Attribute,hb])
end
inductive tFld_ (K:Frag)(f:Str)(Q:VK)(x:V)(H1:Hp):Prop where
 | mk (a C dx fs v:_) (_:x=.ref a) (_:H1 a=some (.ins C dx fs)) (_:Cls K C) (_:NoAttr K C f) (_:fs.lookup f=some v) (_:Q v H1):tFld_ K f Q x H1
def tFld (K:Frag)(ta:TE)(f:Str):TE:=fun σ H Q=>ta σ H fun x H1=>tFld_ K f Q x H1
inductive sFld_ (K:Frag)(f:Str)(D:Ends)(σ:St)(y:V)(x:V)(H2:Hp):Prop where
 | mk (a C dx fs:_) (_:x=.ref a) (_:H2 a=some (.ins C dx fs)) (_:Cls K C) (_:NoAttr K C f) (_:fs.length < 1000) (_:D.nx σ (upd H2 a (.ins C dx (putF f y fs)))):sFld_ K f D σ y x H2
def sFld (K:Frag)(ta tv:TE)(f:Str):TS:=fun D σ H=>tv σ H fun y H1=>ta σ H1 fun x H2=>sFld_ K f D σ y x H2
section
variable {X:Cx}{o e value:Expr}{f:Str}{pos pos' tpos:Pos}{ta tv:TE}
theorem pe_fld (he:PE X e ta)(hb:attributeBase e f X.env (eval e X.env)=eval e X.env):PE X (.Attribute e f pos) (tFld X.K ta f):=by
 intro pins s σ H Q I h
 refine attr_of hb (thn (he pins s σ H _ I h) fun u s1 ⟨x,H1,I1,rx,a,C,dx,fs,v,ex,ea,c,n,l,q⟩=> ?_)
 subst ex
 obtain rfl:u=Value.ref a:=rx
 exact getattr_ok I1 ea c n l fun u' s2 I2 ru=>⟨v,H1,I2,ru,q⟩
theorem ps_fld (ha:PE X o ta)(hv:PE X value tv)(hs:swapsWith value (some (.Attribute o f pos')) pos.line X.env=pure false):PS X (.Assign [.Attribute o f pos'] value pos) (sFld X.K ta tv f):=by
 intro pins s σ H D I h
 refine plainObj_wpAny_Assign_Attribute (thn (hv pins s σ H _ I h) fun u s1 ⟨y,H1,I1,ry,q⟩=>thn (ha pins s1 σ H1 _ I1 q) fun ov s2 ⟨x,H2,I2,rx,a,C,dx,fs,ex,ea,c,n,l,q2⟩=> ?_) hs
 subst ex
 obtain rfl:ov=Value.ref a:=rx
 exact setattr_ok I2 ea c n l ry fun s3 I3=>⟨σ,_,I3,q2⟩
end
section
variable {X:Cx}{pins:List (Addr×Obj)}{σ:St}{H:Hp}{s:Shared}{A:Around}{E:Value→Shared→Prop}{Q:Value→Shared→Prop}{c:Value}{b:Bool}
end
end L2
namespace L2
open PySem PySem.Spec PyProof.Rows
structure Room (k:Nat)(A:Around):Prop where
 hd:A.handled=none
 dp:A.depth+3*k+5 < recursionLimit
 un:A.units+16*k+200 < cLine
theorem Room.mono {j k:Nat}{A:Around}(r:Room k A)(h:j≤k):Room j A:=⟨r.hd,by have:=r.dp;omega,by have:=r.un;omega⟩
theorem Room.deeper {k:Nat}{A:Around}(r:Room (k+1) A)(env:Env):Room k (A.deeper env):=
 ⟨r.hd,by have:=r.dp;show A.depth+1+3*k+5 < _;omega,by have:=r.un;show A.units+3+16*k+200 < _;omega⟩
theorem make_depth {A:Around}{C:Addr}{us:List Value}{kw:List (Str×Value)}:(A.under (.builtin "type.__call__" ⟨.ref C::us,kw⟩)).depth=A.depth+1:=by
 first | rfl | simp [Around.under,Code.weight,Code.isCreation,Code.isGuard,Code.isCaller,Code.frames,Code.isFrame,guardIds]
theorem make_units {A:Around}{C:Addr}{us:List Value}{kw:List (Str×Value)}:(A.under (.builtin "type.__call__" ⟨.ref C::us,kw⟩)).units=A.units+1:=by
 first | rfl | simp [Around.under,Code.cUnits,Code.frames,Code.isFrame]
theorem Room.make {k:Nat}{A:Around}(r:Room (k+1) A)(C:Addr)(us:List Value)(kw:List (Str×Value)):Room k (A.under (.builtin "type.__call__" ⟨.ref C::us,kw⟩)):=
 ⟨r.hd,by have:=r.dp;rw [make_depth];omega,by have:=r.un;rw [make_units];omega⟩
theorem Room.depth {k:Nat}{A:Around}(r:Room k A):A.depth < recursionLimit:=by have:=r.dp;omega
theorem Room.units {k:Nat}{A:Around}(r:Room k A):A.units+64 < cLine:=by have:=r.un;omega
def tNil:TA:=fun _ H Q=>Q [] H
def tCons (ta:TE)(tr:TA):TA:=fun σ H Q=>ta σ H fun x H1=>tr σ H1 fun xs H2=>Q (x::xs) H2
section
variable {X:Cx}{e:Expr}{es:List Expr}{te:TE}{t:TA}{pos:Pos}
theorem pa_nil:PA X [] tNil:=fun _ _ _ _ H Q I h=>Calls.spliced_nil ⟨[],H,I,.nil,h⟩
theorem pa_cons (ha:PE X e te)(hr:PA X es t)(hs:starEach (e::es) X.env=(false,eval e X.env)::starEach es X.env:=by rfl):PA X (e::es) (tCons te t):=by
 intro pos pins s σ H Q I h
 rw [hs]
 show wpAny _ _ (spliced ((false,eval e X.env)::backTo pos (starEach es X.env))) _ _ s
 refine Calls.spliced_cons (thn (ha pins s σ H _ I h) fun u s1 ⟨x,H1,I1,r1,q1⟩=> ?_)
 exact thn (hr pos pins s1 σ H1 _ I1 q1) fun us s2 ⟨xs,H2,I2,r2,q2⟩=>⟨x::xs,H2,I2,.cons r1 r2,q2⟩
def tTup (t:TA):TE:=fun σ H Q=>t σ H fun xs H1=>xs.length≤sizeLine∧∀p,H1 p=none→Q (.ref p) (upd H1 p (.tup xs))
def tLst (t:TA):TE:=fun σ H Q=>t σ H fun xs H1=>xs.length≤sizeLine∧∀p,H1 p=none→Q (.ref p) (upd H1 p (.lst xs))
theorem pe_tup {x1}(h:PA X es t):PE X (.Tuple es x1 pos) (tTup t):=by
 intro pins s σ H Q I hq
 refine wpAny_Tuple_spliced (thn (h pos pins s σ H _ I hq) fun us s1 ⟨xs,H1,I1,r,z,q⟩=>⟨by rw [← r.length];exact z,?_⟩)
 have hf:H1 s1.heap.objs.size=none:=I1.hok.fresh (Nat.le_refl _)
 refine ⟨.ref s1.heap.objs.size,upd H1 s1.heap.objs.size (.tup xs),I1.laid (t' :=s1.toks) (fun b u e=>Heap.get?_push_of_some _ e) (Nat.le_refl _) ?_,rfl,q _ hf⟩
 exact ⟨z,us,r,⟨_,Heap.get?_push_size _ rfl,rfl,_,rfl⟩⟩
theorem pe_lst (h:PA X es t):PE X (.List es pos) (tLst t):=by
 intro pins s σ H Q I hq
 refine wpAny_List_spliced (thn (h pos pins s σ H _ I hq) fun us s1 ⟨xs,H1,I1,r,z,q⟩=>⟨by rw [← r.length];exact z,?_⟩)
 have hf:H1 s1.heap.objs.size=none:=I1.hok.fresh (Nat.le_refl _)
 refine ⟨.ref s1.heap.objs.size,upd H1 s1.heap.objs.size (.lst xs),I1.laid (t' :=s1.toks) (fun b u e=>Heap.get?_push_of_some _ e) (Nat.le_refl _) ?_,rfl,q _ hf⟩
 exact ⟨z,us,0,r,Heap.get?_push_size _ rfl⟩
end
abbrev Sp:=List V→Hp→VK→XK→Prop
abbrev CXT:=List Env→Hp→Shared→XK→Value→Shared→Prop
structure Env0 (P:Program)(w:World)(K:Frag)(mg:Str→Option Value)(base:Heap)(A:Around)(outer:List Env)(s:Shared)(H:Hp):Prop where
 frames:A.frames=some outer
 mod:Mod K mg base
 bs:∀b o,base.get? b=some o→s.heap.get? b=some o∧H b=none
 bsz:base.objs.size≤s.heap.objs.size
 funs:s.heap.FunFrames base outer
 frf:∀b∈frs outer,H b=none
 hok:HOk P w H s.heap
 bare:AllBare s.gens
def CE (outer:List Env)(P:Program)(w:World)(H:Hp)(s:Shared)(Q:VK)(u:Value)(s' :Shared):Prop:=
 ∃v H',s'.os=s.os∧AllBare s'.gens∧Un (frs outer) [] H H' s.heap s'.heap∧HOk P w H' s'.heap∧RelV v u∧Q v H'
def CR (CX:CXT)(outer:List Env)(P:Program)(w:World)(H:Hp)(s:Shared)(Q:VK)(E:XK)(r:Result)(s' :Shared):Prop:=
 match r with
 | .ok (.ret u)=>CE outer P w H s Q u s'
 | .ok _=>False
 | .error e=>CX outer H s E e s'
structure FnOk (P:Program)(w:World)(K:Frag)(mg:Str→Option Value)(base:Heap)(CX:CXT)(k:Nat)(f:Addr)(fd:FuncData)(ps:List Str)(sp:Sp):Prop where
 len:∀vs H Q E,sp vs H Q E→vs.length=ps.length
 run:∀(A:Around) (outer:List Env) (s:Shared) (H:Hp) (args:Args) (us:List Value) (vs:List V) (Q:VK) (E:XK),Room k A→Env0 P w K mg base A outer s H→BindsTo s fd args (ps.zip us)→Vals vs us→sp vs H Q E→
  codeAny (model P w) A (.call (.ref f) args) (CR CX outer P w H s Q E) s
theorem FnOk.mono {P:Program}{w:World}{K:Frag}{mg:Str→Option Value}{base:Heap}{CX:CXT}{j k:Nat}{f:Addr}{fd:FuncData}{ps:List Str}{sp:Sp}(F:FnOk P w K mg base CX j f fd ps sp)(h:j≤k):
  FnOk P w K mg base CX k f fd ps sp:=⟨F.len,fun A outer s H args us vs Q E hr=>F.run A outer s H args us vs Q E (hr.mono h)⟩
theorem FnOk.imp {P:Program}{w:World}{K:Frag}{mg:Str→Option Value}{base:Heap}{CX:CXT}{k:Nat}{f:Addr}{fd:FuncData}{ps:List Str}{sp sp' :Sp}(F:FnOk P w K mg base CX k f fd ps sp)
  (h:∀vs H Q E,sp' vs H Q E→sp vs H Q E):FnOk P w K mg base CX k f fd ps sp' :=
 ⟨fun vs H Q E q=>F.len vs H Q E (h _ _ _ _ q),fun A outer s H args us vs Q E hr he hb hv hs=>F.run A outer s H args us vs Q E hr he hb hv (h _ _ _ _ hs)⟩
theorem Env0.make {P:Program}{w:World}{K:Frag}{mg:Str→Option Value}{base:Heap}{A:Around}{outer:List Env}{s:Shared}{H:Hp}(e:Env0 P w K mg base A outer s H)(C:Addr)(us:List Value)(kw:List (Str×Value)):
  Env0 P w K mg base (A.under (.builtin "type.__call__" ⟨.ref C::us,kw⟩)) outer s H:=⟨by first | exact e.frames | (simpa [Around.under,Code.envs,Code.isFrame,pushEnvs] using e.frames),e.mod,e.bs,e.bsz,e.funs,e.frf,e.hok,e.bare⟩
section
variable {X:Cx}{pins:List (Addr×Obj)}{σ:St}{H:Hp}{s s' :Shared}
theorem Inv.env0 (I:Inv X pins σ H s):Env0 X.prog X.w X.K X.mg X.base X.A X.stack s H:=
 ⟨I.ok.frames,I.ok.mod,I.bs,Nat.le_trans I.ok.bsz I.sz,I.stack,I.stkFree,I.hok,I.bare⟩
theorem Inv.after {Q:VK}{u:Value}(I:Inv X pins σ H s)(h:CE X.stack X.prog X.w H s Q u s'):EP X pins σ Q u s' :=by
 obtain ⟨v,H',os,bare,un,hok,r,q⟩:=h
 obtain ⟨hh,g,d,t,os'⟩:=s'
 obtain rfl:os' =s.os:=os
 exact ⟨v,H',I.call (h' :=hh) (g' :=g) (d' :=d) (t' :=t) (ch:=[]) un hok bare (fun b z=>absurd z (by simp)),r,q⟩
end
def tCall (sp:Sp)(dvs:List V)(E:XK)(t:TA):TE:=fun σ H Q=>t σ H fun vs H1=>sp (vs++dvs) H1 Q E
def tMake (C:Addr)(sp:Sp)(dvs:List V)(E:XK)(t:TA):TE:=fun σ H Q=>t σ H fun vs H1=>∀x dx,H1 x=none→H1 dx=none→dx≠x→
 sp (.ref x::(vs++dvs)) (upd (upd H1 dx (.own x)) x (.ins C dx [])) (fun v H2=>v=.non∧Q (.ref x) H2) E
def Binds (K:Frag)(fd:FuncData)(ps:List Str)(ds:List Value):Prop:=
 ∀(s:Shared) (us:List Value),K.In s.heap→(us++ds).length=ps.length→BindsTo s fd ⟨us,[]⟩ (ps.zip (us++ds))
theorem Binds.all {K:Frag}{fd:FuncData}{ps:List Str}(h:∀us:List Value,us.length=ps.length→bindArgs fd ⟨us,[]⟩=pure (ps.zip us)):Binds K fd ps []:=fun s us _ hl=>by
 rw [List.append_nil] at hl ⊢
 exact .of_eq (h us hl)
def Passes (CX:CXT)(X:Cx)(E:XK):Prop:=∀(pins:List (Addr×Obj)) (σ:St) (H:Hp) (s:Shared) (e:Value) (s' :Shared),Inv X pins σ H s→CX X.stack H s E e s' →X.xe e s'
section
variable {X:Cx}{CX:CXT}{k:Nat}{f C:Addr}{fd:FuncData}{ps:List Str}{sp:Sp}{dvs:List V}{ds:List Value}{E:XK}{x m:Str}{p pos apos:Pos}{e o:Expr}{es:List Expr}{ta:TE}{t:TA}
theorem run_fn {pins:List (Addr×Obj)}{σ:St}{H:Hp}{s:Shared}{Q:VK}{us:List Value}{vs:List V}(F:FnOk X.prog X.w X.K X.mg X.base CX k f fd ps sp)(hr:Room k X.A)(hb:Binds X.K fd ps ds)(hd:Vals dvs ds)(hx:Passes CX X E)
  (I:Inv X pins σ H s) (r:Vals vs us) (h:sp (vs++dvs) H Q E):wpAny (model X.prog X.w) X.A (call (.ref f) us) (EP X pins σ Q) X.xe s:=by
 have r2:Vals (vs++dvs) (us++ds):=r.append hd
 have hl:(us++ds).length=ps.length:=by rw [← r2.length];exact F.len _ _ _ _ h
 refine wpAny_call (codeAny_mono (F.run X.A X.stack s H ⟨us,[]⟩ (us++ds) (vs++dvs) Q E hr I.env0 (hb s us I.kIn hl) r2 h) fun r s' hq=> ?_)
 cases r with
 | error e=>exact hx pins σ H s e s' I hq
 | ok fl=>
  cases fl with
  | ret u=>exact I.after hq
  | next=>exact False.elim hq
  | brk=>exact False.elim hq
  | cont=>exact False.elim hq
theorem pe_call (F:FnOk X.prog X.w X.K X.mg X.base CX k f fd ps sp)(hr:Room k X.A)(hg:Gl X x)(hm:X.mg x=some (.ref f))(hk:keepIn X.K (.ref f)=true)(hb:Binds X.K fd ps ds)(hd:Vals dvs ds)(hx:Passes CX X E)
  (ha:PA X (e::es) t) (hdb:(x==("__debug__":Str))=false:=by decide) (he:starEach (e::es) X.env=(false,eval e X.env)::starEach es X.env:=by rfl) (hpl:(backTo pos (starEach es X.env)).any (·.1)=false:=by rfl):
  PE X (.Call (.Name x p) (e::es) [] pos) (tCall sp dvs E t):=by
 intro pins s σ H Q I h
 refine wpAny_Call_Name_kw (ld_glob I hg hm ?_ hdb)
 refine PySem.W.callWith_K (h₀:=X.base) I.ok.mod.kin hk (thn (ha pos pins s σ H _ I h) fun us s1 ⟨vs,H1,I1,r,q⟩=>⟨I1.kIn,?_⟩) he hpl
 exact run_fn F hr hb hd hx I1 r q
structure Mk (K:Frag)(C f:Addr):Prop where
 makes:PySem.W.makesIn K C=true
 init:PySem.W.findIn K (.ref C) "__init__"=some (some (.ref f))
 fn:PySem.W.isFn K (.ref f)=true
 kp:keepIn K (.ref C)=true
theorem run_make {pins:List (Addr×Obj)}{σ:St}{H:Hp}{s:Shared}{Q:VK}{us:List Value}{vs:List V}(M:Mk X.K C f)(F:FnOk X.prog X.w X.K X.mg X.base CX k f fd ps sp)(hr:Room (k+1) X.A)(hb:Binds X.K fd ps ds)(hd:Vals dvs ds)
  (hx:Passes CX X E) (I:Inv X pins σ H s) (r:Vals vs us)
  (h:∀x dx,H x=none→H dx=none→dx≠x→sp (.ref x::(vs++dvs)) (upd (upd H dx (.own x)) x (.ins C dx [])) (fun v H2=>v=.non∧Q (.ref x) H2) E):
  wpAny (model X.prog X.w) X.A (call (.ref C) us) (EP X pins σ Q) X.xe s:=by
 have hq:=h (s.heap.objs.size+1) s.heap.objs.size (I.hok.fresh (Nat.le_succ _)) (I.hok.fresh (Nat.le_refl _)) (Nat.ne_of_lt (Nat.lt_succ_self _))
 have I2:=Inv.made (C:=C) I
 have r2:Vals (V.ref (s.heap.objs.size+1)::(vs++dvs)) (Value.ref (s.heap.objs.size+1)::(us++ds)):=.cons rfl (r.append hd)
 have hl:(Value.ref (s.heap.objs.size+1)::us++ds).length=ps.length:=by
  have e:=r2.length
  rw [F.len _ _ _ _ hq] at e
  exact e.symm
 refine wpAny_call (make_map (f:=f) I.kIn M.makes M.init (beq_iff_eq.mp M.fn) (codeAny_mono (F.run _ X.stack _ _ ⟨Value.ref (s.heap.objs.size+1)::us,[]⟩ (Value.ref (s.heap.objs.size+1)::(us++ds)) _ _ E (hr.make C us [])
  (I2.env0.make C us []) (hb _ (Value.ref (s.heap.objs.size+1)::us) I2.kIn hl) r2 hq) fun r s' hq' => ?_))
 cases r with
 | error e=>exact hx pins σ _ _ e s' I2 hq'
 | ok fl=>
  cases fl with
  | ret u=>
   obtain ⟨v,H',I3,rv,ev,q3⟩:=I2.after hq'
   subst ev
   exact ⟨rv,⟨V.ref (s.heap.objs.size+1),H',I3,rfl,q3⟩⟩
  | next=>exact False.elim hq'
  | brk=>exact False.elim hq'
  | cont=>exact False.elim hq'
theorem pe_make (M:Mk X.K C f)(F:FnOk X.prog X.w X.K X.mg X.base CX k f fd ps sp)(hr:Room (k+1) X.A)(hg:Gl X x)(hm:X.mg x=some (.ref C))(hb:Binds X.K fd ps ds)(hd:Vals dvs ds)(hx:Passes CX X E)
  (ha:PA X (e::es) t) (hdb:(x==("__debug__":Str))=false:=by decide) (he:starEach (e::es) X.env=(false,eval e X.env)::starEach es X.env:=by rfl) (hpl:(backTo pos (starEach es X.env)).any (·.1)=false:=by rfl):
  PE X (.Call (.Name x p) (e::es) [] pos) (tMake C sp dvs E t):=by
 intro pins s σ H Q I h
 refine wpAny_Call_Name_kw (ld_glob I hg hm ?_ hdb)
 refine PySem.W.callWith_K (h₀:=X.base) I.ok.mod.kin M.kp (thn (ha pos pins s σ H _ I h) fun us s1 ⟨vs,H1,I1,r,q⟩=>⟨I1.kIn,?_⟩) he hpl
 exact run_make M F hr hb hd hx I1 r q
theorem pe_make0 (M:Mk X.K C f)(F:FnOk X.prog X.w X.K X.mg X.base CX k f fd ps sp)(hr:Room (k+1) X.A)(hg:Gl X x)(hm:X.mg x=some (.ref C))(hb:Binds X.K fd ps ds)(hd:Vals dvs ds)(hx:Passes CX X E)
  (hdb:(x==("__debug__":Str))=false:=by decide):PE X (.Call (.Name x p) [] [] pos) (tMake C sp dvs E tNil):=by
 intro pins s σ H Q I h
 refine wpAny_Call_Name_kw (ld_glob I hg hm ?_ hdb)
 exact PySem.W.callWith_K0 I.kIn M.kp (run_make (us:=[]) M F hr hb hd hx I .nil h)
end
section
variable {X:Cx}{CX:CXT}{k:Nat}{f C:Addr}{fd:FuncData}{ps ks:List Str}{sp:Sp}{E:XK}{x m:Str}{p pos apos kpos:Pos}{e o:Expr}{es:List Expr}{kws:List Keyword}{te ta:TE}{t tk:TA}{nm:Option Str}
variable {g:List Value→List Value→List Value}{gV:List V→List V→List V}
end
structure FnScope (N P:List Str)(sc:Scope):Prop where
 kind:sc.kind=.function
 co:sc.isCoroutine=false
 gen:sc.isGenerator=false
 nd:N.Nodup
 pre:N.take P.length=P
 par:∀x∈P,sc.names.lookup x=some .local∨sc.names.lookup x=some .cell
 nofree:∀y∈sc.names,y.2≠.free
theorem bindL_out {kindOf:Str→Option NameKind}{x:Str}:∀{binds:List (Str×Value)} {m:Str→Option Value},(∀v,(x,v)∉binds)→bindL kindOf binds m x=m x
 | [],_,_=>rfl
 | (n,v)::r,m,h=>by
  unfold bindL
  rw [bindL_out fun w hw=>h w (List.mem_cons_of_mem _ hw)]
  split
  ·have:x≠n:=by rintro rfl;exact h v List.mem_cons_self
   simp [this]
  ·rfl
theorem bindC_out {kindOf:Str→Option NameKind}{x:Str}:∀{binds:List (Str×Value)} {m:Str→Option Value},(∀v,(x,v)∉binds)→bindC kindOf binds m x=m x
 | [],_,_=>rfl
 | (n,v)::r,m,h=>by
  unfold bindC
  rw [bindC_out fun w hw=>h w (List.mem_cons_of_mem _ hw)]
  split
  ·rfl
  ·have:x≠n:=by rintro rfl;exact h v List.mem_cons_self
   simp [this]
theorem bindL_get {kindOf:Str→Option NameKind}{x:Str}{v:Value}:∀{P:List Str} {vs:List Value} {i:Nat} {m:Str→Option Value},P.Nodup→P[i]? =some x→vs[i]? =some v→kindOf x=some .local→
  bindL kindOf (P.zip vs) m x=some v
 | [],_,_,_,_,h,_,_=>by simp at h
 | _::_,[],_,_,_,_,h,_=>by simp at h
 | p::P,w::vs,0,m,nd,h1,h2,hk=>by
  simp at h1 h2;subst h1;subst h2
  show bindL kindOf ((p,w)::P.zip vs) m p=_
  unfold bindL
  rw [bindL_out fun v hv=>(List.nodup_cons.mp nd).1 (List.of_mem_zip hv).1,if_pos hk]
  simp
 | p::P,w::vs,i+1,m,nd,h1,h2,hk=>by
  show bindL kindOf ((p,w)::P.zip vs) m x=_
  unfold bindL
  exact bindL_get (i:=i) (List.nodup_cons.mp nd).2 (by simpa using h1) (by simpa using h2) hk
theorem bindC_get {kindOf:Str→Option NameKind}{x:Str}{v:Value}:∀{P:List Str} {vs:List Value} {i:Nat} {m:Str→Option Value},P.Nodup→P[i]? =some x→vs[i]? =some v→kindOf x≠some .local→
  bindC kindOf (P.zip vs) m x=some v
 | [],_,_,_,_,h,_,_=>by simp at h
 | _::_,[],_,_,_,_,h,_=>by simp at h
 | p::P,w::vs,0,m,nd,h1,h2,hk=>by
  simp at h1 h2;subst h1;subst h2
  show bindC kindOf ((p,w)::P.zip vs) m p=_
  unfold bindC
  rw [bindC_out fun v hv=>(List.nodup_cons.mp nd).1 (List.of_mem_zip hv).1,if_neg hk]
  simp
 | p::P,w::vs,i+1,m,nd,h1,h2,hk=>by
  show bindC kindOf ((p,w)::P.zip vs) m x=_
  unfold bindC
  exact bindC_get (i:=i) (List.nodup_cons.mp nd).2 (by simpa using h1) (by simpa using h2) hk
def start (N:List Str)(vs:List V):St:=vs.map some++List.replicate (N.length - vs.length) none
def cxOf (CX:CXT)(P:Program)(w:World)(K:Frag)(mg:Str→Option Value)(base:Heap)(N:List Str)(qual:Str)(scope:Scope)(f:Addr)(cd:Value)(A:Around)(outer:List Env)(s:Shared)(H:Hp)(E:XK):Cx where
 prog:=P
 w:=w
 K:=K
 mg:=mg
 base:=base
 A:=A.deeper (envOfC qual scope s.heap.objs.size f cd)
 N:=N
 s₀:=s
 H₀:=H
 env:=envOfC qual scope s.heap.objs.size f cd
 outer:=outer
 stack:=envOfC qual scope s.heap.objs.size f cd::outer
 ex:=[]
 calm:=true
 fn:=fun _=>true
 pn:=[]
 xe:=fun e s' =>wpAny (model P w) (A.deeper (envOfC qual scope s.heap.objs.size f cd)) (leaving (envOfC qual scope s.heap.objs.size f cd) e) (fun _ s'' =>CX outer H s E e s'') (fun e' s'' =>CX outer H s E e' s'') s'
theorem cell_has {sc:Scope}{n:Nat}{x:Str}(h:sc.names.lookup x=some .cell):∃c,(cellsFrom n sc.names []).lookup x=some c:=by
 have q:=PySem.W.cellsFrom_some sc.names n [] (.inl h)
 exact Option.isSome_iff_exists.mp q
theorem inv_start {CX:CXT}{P:Program}{w:World}{K:Frag}{mg:Str→Option Value}{base:Heap}{N ps:List Str}{qual:Str}{scope:Scope}{f:Addr}{cd:Value}{A:Around}{outer:List Env}{s s1:Shared}{H:Hp}{E:XK}{us:List Value}{vs:List V}
  (S:FnScope N ps scope) (hd:A.handled=none) (e0:Env0 P w K mg base A outer s H) (hl:vs.length=ps.length) (r:Vals vs us)
  (x:InCallC s s.heap.objs.size (bindL (envOfC qual scope s.heap.objs.size f cd).kindOf (ps.zip us) fun _=>none) (cellsFrom (s.heap.objs.size+1) scope.names []) (bindC (envOfC qual scope s.heap.objs.size f cd).kindOf (ps.zip us) fun _=>none) s1):
  Inv (cxOf CX P w K mg base N qual scope f cd A outer s H E) [] (start N vs) H s1:=by
 have hpl:ps.length≤N.length:=by have:=congrArg List.length S.pre;rw [List.length_take] at this;omega
 obtain ⟨h1,tk,rfl,hk⟩:=x.done
 have noA:∀b:Addr,b∉(cxOf CX P w K mg base N qual scope f cd A outer s H E).ex:=fun b z=>absurd (show b∈([]:List Addr) from z) (by simp)
 refine ⟨⟨e0.mod,S.kind,rfl,rfl,Nat.le_refl _,fun y z c h1 h2=> ?_,fun y hy=> ?_,fun y c _ h=> ?_,fun _=>hd,Around.frames_deeper e0.frames,.inr ⟨rfl,rfl⟩,fun b z=>absurd z (noA b),e0.bs,e0.bsz,fun b _ _=>noA b,fun b z=>absurd z (noA b),e0.funs,e0.frf⟩,
  rfl,e0.bare,Un.kept hk,⟨_,x.toInCall.ns,fun i y v h1 h2 h3=> ?_⟩,fun y c h=>⟨_,x.cell y c h⟩,e0.hok.fresh (Nat.le_refl _),fun y c h=> ?_,fun p hp=>absurd (show p∈([]:List (Addr×Obj)) from hp) (by simp),e0.hok.kept hk,?_⟩
 ·exact name_of_addr x.apart (PySem.mem_of_lookup h1) (PySem.mem_of_lookup h2)
 ·have hy:scope.names.lookup y=some .cell∨scope.names.lookup y=some .free:=hy
  rcases hy with hy | hy
  ·exact cell_has hy
  ·exact absurd rfl (S.nofree _ (PySem.mem_of_lookup hy))
 ·exact Nat.le_of_lt (x.above y c (PySem.mem_of_lookup h))
 ·have hi:i < vs.length:=by
   unfold start at h2
   by_cases hi:i < vs.length
   ·exact hi
   ·rw [List.getElem?_append_right (by simpa using hi)] at h2
    rw [List.getElem?_replicate] at h2
    split at h2 <;> cases h2
  have ha:vs[i]? =some v:=by
   unfold start at h2
   rw [List.getElem?_append_left (by simpa using hi),List.getElem?_map] at h2
   cases e:vs[i]? with
   | none=>rw [e] at h2;cases h2
   | some a=>rw [e] at h2;cases h2;rfl
  obtain ⟨u,hu,rv⟩:=r.get ha
  have hp:ps[i]? =some y:=by
   rw [← S.pre,List.getElem?_take_of_lt (by omega)];exact h1
  have ndP:ps.Nodup:=by rw [← S.pre];exact S.nd.sublist (List.take_sublist _ _)
  refine ⟨u,rv,?_⟩
  rcases S.par y (List.mem_of_getElem? hp) with k | k
  ·exact .inl ⟨k,bindL_get ndP hp hu k⟩
  ·obtain ⟨c,e⟩:=cell_has (n:=s.heap.objs.size+1) k
   refine .inr ⟨.inl k,c,e,?_⟩
   have q:=x.cell y c e
   rw [bindC_get ndP hp hu (by show scope.names.lookup y≠_;rw [k];decide)] at q
   exact q
 ·exact e0.hok.fresh (Nat.le_of_lt (x.above y c (PySem.mem_of_lookup h)))
 ·unfold start
  show _=N.length
  rw [List.length_append,List.length_map,List.length_replicate]
  omega
theorem fn_of {CX:CXT}{P:Program}{w:World}{K:Frag}{mg:Str→Option Value}{base:Heap}{k:Nat}{f:Addr}{name qual:Str}{params:Arguments}{body:List Stmt}{scope:Scope}{dV kV doc pm cdv ct oc:Value}{an od:Option Addr}
  {osl:Array (Option Value)} {N ps:List Str} {sp:Sp} (lk:K.lookup f=some ⟨oc,od,.func (fnOf name qual params body scope dV kV doc pm an cdv ct),osl⟩) (hcd:codeIn K cdv qual=true) (S:FnScope N ps scope)
  (len:∀vs H Q E,sp vs H Q E→vs.length=ps.length)
  (hbody:∀(A:Around) (outer:List Env) (s:Shared) (H:Hp) (vs:List V) (Q:VK) (E:XK),Room k (A.deeper (envOfC qual scope s.heap.objs.size f cdv))→sp vs H Q E→
   ∃t,PSs (cxOf CX P w K mg base N qual scope f cdv A outer s H E) body t∧t {nx:=fun _ H' =>Q .non H',rt:=Q} (start N vs) H):
  FnOk P w K mg base CX (k+1) f (fnOf name qual params body scope dV kV doc pm an cdv ct) ps sp:=by
 refine ⟨len,fun A outer s H args us vs Q E hr e0 hb r hsp=> ?_⟩
 have hl:=len _ _ _ _ hsp
 have KX:K.In s.heap:=e0.mod.kin.keeps fun b o e=>(e0.bs b o e).1
 have lim:s.heap.NoLimit:=e0.mod.nolimit.keeps fun b o e=>(e0.bs b o e).1
 have hkind:∀y∈ps.zip us,scope.names.lookup y.1=some .local∨(scope.names.lookup y.1=some .cell∧((cellsFrom (s.heap.objs.size+1) scope.names []).lookup y.1).isSome=true):=fun ⟨n,v⟩ hy=>by
  rcases S.par n (List.of_mem_zip hy).1 with q | q
  ·exact .inl q
  ·exact .inr ⟨q,PySem.W.cellsFrom_some _ _ _ (.inl q)⟩
 refine codeAny_call_function hr.depth (KX _ _ lk) rfl S.co S.gen rfl (PySem.W.codeRec_of KX hcd) (hb _ _ _ _ ?_)
 refine wpAny_newFunctionEnv_cells S.kind hkind fun env he s1 x=> ?_
 subst he
 refine ⟨lim.keeps x.toInCall.keep,codeAny_func ?_⟩
 obtain ⟨t,ht,hq⟩:=hbody A outer s H vs Q E (hr.deeper _) hsp
 have I:Inv (cxOf CX P w K mg base N qual scope f cdv A outer s H E) [] (start N vs) H s1:=inv_start S hr.hd e0 hl r x
 refine wpAny_mono (ht [] s1 (start N vs) H _ I hq) (fun fl s' hs=> ?_) fun e s' hs=>hs
 have fin:∀{σ' :St} {H' :Hp} {v:V} {u:Value},Inv (cxOf CX P w K mg base N qual scope f cdv A outer s H E) [] σ' H' s' →RelV v u→Q v H' →CE outer P w H s Q u s' :=
  fun {σ' H' v u} J rv q=>⟨v,H',J.os,J.bare,J.base,J.hok,rv,q⟩
 cases fl with
 | ret u=>
  obtain ⟨v,σ',H',J,rv,q⟩:=hs
  exact fin J rv q
 | next=>
  obtain ⟨σ',H',J,q⟩:=hs
  exact fin (v:=V.non) (u:=Value.none) J rfl q
 | brk=>
  obtain ⟨_,_,_,q⟩:=hs
  exact False.elim q
 | cont=>
  obtain ⟨_,_,_,q⟩:=hs
  exact False.elim q
end L2
namespace L2
open PySem PySem.Spec PyProof.Rows
section
variable {X:Cx}{x:Str}{p pos:Pos}{e:Expr}{es:List Expr}{t:TA}{id T:String}{r:List V→Hp→VK→Prop}
def tCB (r:List V→Hp→VK→Prop)(t:TA):TE:=fun σ H Q=>t σ H fun vs H1=>r vs H1 Q
theorem pe_callB (hc:CallR X (.builtin id) r)(hg:Gl X x)(hm:X.mg x=none)(hv:bootBuiltins x=some (.builtin id))(ha:PA X (e::es) t)(hn:x≠ "__name__":=by decide)(hdb:(x==("__debug__":Str))=false:=by decide)
  (he:starEach (e::es) X.env=(false,eval e X.env)::starEach es X.env:=by rfl) (hpl:(backTo pos (starEach es X.env)).any (·.1)=false:=by rfl):PE X (.Call (.Name x p) (e::es) [] pos) (tCB r t):=by
 intro pins s σ H Q I h
 refine wpAny_Call_Name_kw (ld_blt I hg hm hv ?_ hn hdb)
 exact PyProof.Rows.callWith_builtin1 (thn (ha pos pins s σ H _ I h) fun us s1 ⟨vs,H1,I1,r1,q1⟩=>hc pins s1 σ H1 vs us Q I1 r1 q1) he hpl
theorem pe_callTy (hc:CallR X (.type T) r)(hg:Gl X x)(hm:X.mg x=none)(hv:bootBuiltins x=some (.type T))(ha:PA X (e::es) t)(hn:x≠ "__name__":=by decide)(hdb:(x==("__debug__":Str))=false:=by decide)
  (he:starEach (e::es) X.env=(false,eval e X.env)::starEach es X.env:=by rfl) (hpl:(backTo pos (starEach es X.env)).any (·.1)=false:=by rfl):PE X (.Call (.Name x p) (e::es) [] pos) (tCB r t):=by
 intro pins s σ H Q I h
 refine wpAny_Call_Name_kw (ld_blt I hg hm hv ?_ hn hdb)
 exact PyProof.Rows.callWith_type1 (thn (ha pos pins s σ H _ I h) fun us s1 ⟨vs,H1,I1,r1,q1⟩=>hc pins s1 σ H1 vs us Q I1 r1 q1) he hpl
end
end L2
namespace HT
open PySem PyProof.Rows
section
open PySem.SeqAt
open PySem.AutoSeq1 (wpAny_loadPart')
open PySem.MeetsSeq PySem.MeetsSeq2 PySem.MeetsSeq3
end
section
variable {prog:Program}{w:World}{A:Around}{E:Value→Shared→Prop}{s:Shared}
def sIx (n d:Nat):Option Int→Nat
 | none=>d
 | some v=>if v < 0 then (v+(n:Int)).toNat else min v.toNat n
theorem sIx_none (n d:Nat):sIx n d none=d:=rfl
theorem sIx_nat (n d k:Nat):sIx n d (some (k:Int))=min k n:=by
 show (if (k:Int) < 0 then ((k:Int)+(n:Int)).toNat else min (k:Int).toNat n)=min k n
 rw [if_neg (by omega),Int.toNat_natCast]
end
end HT
namespace L2
open PySem PySem.Spec PyProof.Rows
abbrev TO:=St→Hp→(Option Int→Hp→Prop)→Prop
def PO (X:Cx)(e:Option Expr)(t:TO):Prop:=
 ∀(pins:List (Addr×Obj)) (s:Shared) (σ:St) (H:Hp) (Q:Option Int→Hp→Prop),Inv X pins σ H s→t σ H Q→
  wpAny (model X.prog X.w) X.A (evalPart e X.env) (fun u s' =>∃o H',Inv X pins σ H' s' ∧IsPart u o∧Q o H') X.xe s
def tNoPart:TO:=fun _ H Q=>Q none H
inductive tPart_ (Q:(Option Int→Hp→Prop))(x:V)(H1:Hp):Prop where
 | mk (i:_) (_:x=.int i) (_:Q (some i) H1):tPart_ Q x H1
def tPart (t:TE):TO:=fun σ H Q=>t σ H fun x H1=>tPart_ Q x H1
section
variable {X:Cx}{e:Expr}{te:TE}{lo hi:Option Expr}{tl th:TO}{pos p2:Pos}
theorem po_none:PO X none tNoPart:=by
 intro pins s σ H Q I h
 rw [evalPart_none]
 exact wpAny_pure ⟨none,H,I,.none,h⟩
theorem po_some (h:PE X e te):PO X (some e) (tPart te):=by
 intro pins s σ H Q I hw
 rw [evalPart_some]
 refine thn (h pins s σ H _ I hw) fun u s1 ⟨x,H1,I1,r1,q1⟩=> ?_
 obtain ⟨i,rfl,q⟩:=q1
 obtain ⟨t,rfl⟩:=r1
 exact ⟨some i,H1,I1,.int i t,q⟩
def SlR (X:Cx)(r:V→Option Int→Option Int→Hp→VK→Prop):Prop:=
 ∀(pins:List (Addr×Obj)) (s:Shared) (σ:St) (H:Hp) (x:V) (v vl vu:Value) (lo hi:Option Int) (sl:Addr) (Q:VK),Inv X pins σ H s→RelV x v→s.heap.IsSliceOf sl vl vu .none→IsPart vl lo→IsPart vu hi→r x lo hi H Q→
  ∃T id,typeLookup (.type T) "__getitem__"=pure (some (.builtin id))∧s.TypeIs v T∧wpAny (model X.prog X.w) X.A (getItem v (.ref sl)) (EP X pins σ Q) X.xe s
def tSl (r:V→Option Int→Option Int→Hp→VK→Prop)(te:TE)(tl th:TO):TE:=fun σ H Q=>te σ H fun x H1=>tl σ H1 fun l H2=>th σ H2 fun u H3=>r x l u H3 Q
theorem pe_slice {r:V→Option Int→Option Int→Hp→VK→Prop}(hr:SlR X r)(he:PE X e te)(hl:PO X lo tl)(hu:PO X hi th):PE X (.Subscript e (.Slice lo hi none p2) pos) (tSl r te tl th):=by
 intro pins s σ H Q I h
 refine Subscript_ (thn (he pins s σ H _ I h) fun v s1 ⟨x,H1,I1,r1,q1⟩=> ?_)
 refine wpAny_Slice (thn (hl pins s1 σ H1 _ I1 q1) fun vl s2 ⟨l,H2,I2,pl,q2⟩=>thn (hu pins s2 σ H2 _ I2 q2) fun vu s3 ⟨u,H3,I3,pu,q3⟩=> ?_)
 rw [evalPart_none]
 refine wpAny_pure ?_
 have I4:Inv X pins σ H3 {s3 with heap:=s3.heap.push {cls:=.type "slice",data:=.fields #[vl,vu,.none]}}:=I3.kept (t' :=s3.toks) fun b ob q=>Heap.get?_push_of_some _ q
 obtain ⟨T,id,hT,ht,hg⟩:=hr pins {s3 with heap:=s3.heap.push {cls:=.type "slice",data:=.fields #[vl,vu,.none]}} σ H3 x v vl vu l u s3.heap.objs.size Q I4 r1 (Heap.IsSliceOf.new ..) pl pu q3
 show wpAny (model X.prog X.w) X.A (subscriptTail e (.Slice lo hi none p2) v (.ref s3.heap.objs.size)) (EP X pins σ Q) X.xe {s3 with heap:=s3.heap.push {cls:=.type "slice",data:=.fields #[vl,vu,.none]}}
 exact tail_any (ops:=[.ref s3.heap.objs.size,v]) ht hT hg (by with_unfolding_all rfl)
def cutV (xs:List V)(lo hi:Option Int):List V:=(xs.drop (HT.sIx xs.length 0 lo)).take (HT.sIx xs.length xs.length hi - HT.sIx xs.length 0 lo)
theorem cutV_length (xs:List V)(lo hi:Option Int):(cutV xs lo hi).length≤xs.length:=by
 unfold cutV
 rw [List.length_take,List.length_drop]
 omega
end
end L2
namespace L2
open PySem PySem.Spec PyProof.Rows
def ixN (n:Nat)(i:Int):Option Nat:=if 0≤i then (if i < n then some i.toNat else none) else if -(n:Int)≤i then some (i+n).toNat else none
def atI {α:Type}(xs:List α)(i:Int):Option α:=(ixN xs.length i).bind fun j=>xs[j]?
theorem ixN_seq {n:Nat}{i:Int}{j:Nat}(h:ixN n i=some j):seqIndex? i n=some j∧j < n∧ -(n:Int)≤i∧i < n:=by
 unfold ixN at h
 by_cases h0:0≤i
 ·rw [if_pos h0] at h
  by_cases h1:i < n
  ·rw [if_pos h1] at h
   have e:i.toNat=j:=Option.some.inj h
   exact ⟨by rw [seqIndex_of h0 h1,e],by omega,by omega,h1⟩
  ·rw [if_neg h1] at h;cases h
 ·rw [if_neg h0] at h
  by_cases h1: -(n:Int)≤i
  ·rw [if_pos h1] at h
   have e:(i+n).toNat=j:=Option.some.inj h
   exact ⟨by rw [seqIndex_neg (by omega) h1,e],by omega,h1,by omega⟩
  ·rw [if_neg h1] at h;cases h
theorem atI_get {α:Type}{xs:List α}{i:Int}{v:α}(h:atI xs i=some v):∃j,seqIndex? i xs.length=some j∧xs[j]? =some v∧j < xs.length∧ -(xs.length:Int)≤i∧i < xs.length:=by
 unfold atI at h
 cases e:ixN xs.length i with
 | none=>rw [e] at h;cases h
 | some j=>
  rw [e] at h
  obtain ⟨h1,h2,h3,h4⟩:=ixN_seq e
  exact ⟨j,h1,h,h2,h3,h4⟩
theorem atI_nat {α:Type}{xs:List α}{j:Nat}{v:α}(h:xs[j]? =some v):atI xs (j:Int)=some v:=by
 have hj:j < xs.length:=(List.getElem?_eq_some_iff.mp h).1
 have e:ixN xs.length (j:Int)=some j:=by
  unfold ixN
  rw [if_pos (by omega),if_pos (by omega)];simp
 unfold atI;rw [e];exact h
def PlainIx (b:Expr):Prop:=∀o i,subscripted b false o i=operate [o,i] (getItem o i)
def IxR (X:Cx)(r:R2):Prop:=
 ∀(value slice:Expr) (pins:List (Addr×Obj)) (s:Shared) (σ:St) (H:Hp) (x y:V) (v u:Value) (Q:VK),Inv X pins σ H s→RelV x v→RelV y u→r x y H Q→
  subscripted slice false v u=operate [v,u] (getItem v u)→wpAny (model X.prog X.w) X.A (subscriptTail value slice v u) (EP X pins σ Q) X.xe s
def MtR (X:Cx)(id:String)(r:V→List V→Hp→VK→Prop):Prop:=
 ∀(pins:List (Addr×Obj)) (s:Shared) (σ:St) (H:Hp) (x:V) (xs:List V) (v:Value) (us:List Value) (Q:VK),Inv X pins σ H s→RelV x v→Vals xs us→r x xs H Q→
  wpAny (model X.prog X.w) X.A (call (.builtin id) (v::us)) (EP X pins σ Q) X.xe s
section
variable {X:Cx}{a b:Expr}{ta tb:TE}{pos:Pos}
theorem pe_ix {r:R2}(hr:IxR X r)(ha:PE X a ta)(hb:PE X b tb)(hs:PlainIx b):PE X (.Subscript a b pos) (tOp r ta tb):=by
 intro pins s σ H Q I h
 exact Subscript_ (binT ha hb I h fun v u s2 x y H2 I2 rx ry q=>hr a b pins s2 σ H2 x y v u Q I2 rx ry q (hs _ _))
inductive rIxL (K:Frag)(x:V)(y:V)(H:Hp)(Q:VK):Prop where
 | mk (p xs i v:_) (_:x=.ref p) (_:y=.int i) (_:SqL K H p xs) (_:atI xs i=some v) (_:Q v H):rIxL K x y H Q
inductive rIxT (K:Frag)(x:V)(y:V)(H:Hp)(Q:VK):Prop where
 | mk (p xs i v:_) (_:x=.ref p) (_:y=.int i) (_:SqT K H p xs) (_:atI xs i=some v) (_:Q v H):rIxT K x y H Q
inductive rIxS (x:V)(y:V)(H:Hp)(Q:VK):Prop where
 | mk (z i c:_) (_:x=.str z) (_:y=.int i) (_:z.length≤sizeLine) (_:atI z.cps.toList i=some c) (_:Q (.str ⟨#[c]⟩) H):rIxS x y H Q
theorem ix_list:IxR X (rIxL X.K):=by
 intro value slice pins s σ H x y v u Q I rx ry h hs
 obtain ⟨p,xs,i,z,rfl,rfl,hq,he,q⟩:=h
 cases rx
 obtain ⟨t,rfl⟩:=ry
 obtain ⟨its,r,pl,hz⟩:=I.list hq
 obtain ⟨j,h1,h2,h3,h4,h5⟩:=atI_get he
 obtain ⟨w,ew,rw'⟩:=r.get h2
 have hl:=r.length
 have hn:=line63
 have fin:EP X pins σ Q w s:=⟨z,H,I,rw',q⟩
 by_cases h0:0≤i
 ·have hj:i.toNat=j:=by
   rw [seqIndex_of h0 h5] at h1
   exact Option.some.inj h1
  exact item_listR pl.isList h0 (by omega) (by rw [hj];simpa using ew) fin hs
 ·have hj:(i+(its.toArray.size:Int)).toNat=j:=by
   rw [seqIndex_neg (by omega) h4] at h1
   rw [List.size_toArray, ← hl]
   exact Option.some.inj h1
  exact subscriptTail_builtinR (x:=w) pl.isList.typeIs slot_list_getitem.lookup
   (wpAny_getItem_list_neg (Q:=fun r s' =>r=w∧EP X pins σ Q r s') pl.isList (by omega) (by rw [List.size_toArray] <;> omega) (by omega) (by rw [hj];simpa using ew) ⟨rfl,fin⟩) hs
theorem ix_tup:IxR X (rIxT X.K):=by
 intro value slice pins s σ H x y v u Q I rx ry h hs
 obtain ⟨p,xs,i,z,rfl,rfl,hq,he,q⟩:=h
 cases rx
 obtain ⟨t,rfl⟩:=ry
 obtain ⟨its,r,pl,hz⟩:=I.tuple hq
 obtain ⟨j,h1,h2,h3,h4,h5⟩:=atI_get he
 obtain ⟨w,ew,rw'⟩:=r.get h2
 have hl:=r.length
 have hn:=line63
 have fin:EP X pins σ Q w s:=⟨z,H,I,rw',q⟩
 exact subscriptTail_builtinR (x:=w) pl.typeIs slot_tuple_getitem.lookup
  (getItem_tuple (j:=j) (Q:=fun r s' =>r=w∧EP X pins σ Q r s') pl (by omega) (by omega) (by rw [List.size_toArray, ← hl];exact h1) (by simpa using ew) ⟨rfl,fin⟩) hs
theorem ix_str:IxR X rIxS:=by
 intro value slice pins s σ H x y v u Q I rx ry h hs
 obtain ⟨z,i,c,rfl,rfl,hz,he,q⟩:=h
 obtain ⟨t,rfl⟩:=rx
 obtain ⟨t',rfl⟩:=ry
 obtain ⟨j,h1,h2,h3,h4,h5⟩:=atI_get he
 have hl:z.cps.toList.length=z.length:=by simp [Str.length]
 rw [hl] at h1 h4 h5
 have hn:=line63
 exact tail_any (typeIs_str s z t) slot_str_getitem.lookup (getItem_str (c:=c) (by
  have e1:decide (i < -(2^63:Int))=false:=decide_eq_false (by omega)
  have e2:decide (i≥2^63)=false:=decide_eq_false (by omega)
  rw [e1,e2,Bool.or_false]) (by rw [h1];simpa using h2) ⟨.str ⟨#[c]⟩,H,I.tok _,⟨_,rfl⟩,q⟩) hs
theorem mapSeq_set (its:List Value)(n j:Nat)(u:Value):Obj.mapSeq (·.setIfInBounds j u) {cls:=.type "list",data:=.seq its.toArray n}={cls:=.type "list",data:=.seq (its.set j u).toArray n}:=by
 simp [Obj.mapSeq]
theorem Inv.lst {pins:List (Addr×Obj)}{σ:St}{H:Hp}{s:Shared}{p:Addr}{xs:List V}(I:Inv X pins σ H s)(h:H p=some (.lst xs)):
  ∃(its:List Value) (n:Nat),Vals xs its∧s.heap.get? p=some {cls:=.type "list",data:=.seq its.toArray n}∧xs.length≤sizeLine:=by
 obtain ⟨z,its,n,r,e⟩:=I.hok p _ h
 exact ⟨its,n,r,e,z⟩
theorem Inv.lstUpd {pins:List (Addr×Obj)}{σ:St}{H:Hp}{s:Shared}{p:Addr}{xs ys:List V}{its its' :List Value}{n n' :Nat}{f:Obj→Obj}(I:Inv X pins σ H s)(h:H p=some (.lst xs))
  (ho:s.heap.get? p=some {cls:=.type "list",data:=.seq its.toArray n}) (hf:f {cls:=.type "list",data:=.seq its.toArray n}={cls:=.type "list",data:=.seq its'.toArray n' }) (r:Vals ys its') (hz:ys.length≤sizeLine) (t:Nat):
  Inv X pins σ (upd H p (.lst ys)) {s with heap:=s.heap.update p f,toks:=t}:=by
 have e:(s.heap.update p f).get? p=some {cls:=.type "list",data:=.seq its'.toArray n' }:=by
  rw [Heap.get?_update_self f ho (by rw [hf] <;> rfl),hf]
 refine I.write (x:=p) (e:=p) (by rw [h];trivial) (.inl rfl) (fun b u hb q=>(Heap.get?_update_other _ _ (Ne.symm hb)).trans q) ⟨_,e⟩ ?_
 exact ⟨hz,its',n',r,e⟩
inductive rSetL (o:V)(i:V)(v:V)(H:Hp)(Q:(Hp→Prop)):Prop where
 | mk (p xs k j:_) (_:o=.ref p) (_:i=.int k) (_:H p=some (.lst xs)) (_:ixN xs.length k=some j) (_:Q (upd H p (.lst (xs.set j v)))):rSetL o i v H Q
theorem set_list:PSet X rSetL:=by
 intro pins s σ H o i v ov iv u Q I ro ri rv h
 obtain ⟨p,xs,k,j,rfl,rfl,hp,hj,q⟩:=h
 cases ro
 obtain ⟨t,rfl⟩:=ri
 obtain ⟨its,n,r,ho,hz⟩:=I.lst hp
 obtain ⟨h1,h2,h3,h4⟩:=ixN_seq hj
 have hl:=r.length
 have hn:=line63
 have I' :Inv X pins σ (upd H p (.lst (xs.set j v))) {s with heap:=s.heap.update p (Obj.mapSeq (·.setIfInBounds j u))}:=
  I.lstUpd hp ho (mapSeq_set its n j u) (r.set rv j) (by rw [List.length_set];exact hz) s.toks
 by_cases h0:0≤k
 ·have hk:k.toNat=j:=by
   rw [seqIndex_of h0 h4] at h1
   exact Option.some.inj h1
  exact PySem.W.ki_setAt ho h0 (by omega) (by rw [List.size_toArray, ← hl];exact h4) (by rw [hk];exact ⟨_,I',q⟩)
 ·have hk:(k+(its.toArray.size:Int)).toNat=j:=by
   rw [seqIndex_neg (by omega) h3] at h1
   rw [List.size_toArray, ← hl]
   exact Option.some.inj h1
  exact PySem.W.ki_setBack ho (by omega) (by rw [List.size_toArray, ← hl];exact h3) (by omega) (by rw [hk];exact ⟨_,I',q⟩)
theorem slice_bounds (lo hi:Option Int)(n:Nat):(sliceBounds lo hi none n).1=((HT.sIx n 0 lo:Nat):Int)∧(sliceBounds lo hi none n).2.1=((HT.sIx n n hi:Nat):Int)∧(sliceBounds lo hi none n).2.2=1:=by
 refine ⟨?_,?_,rfl⟩
 ·cases lo with
  | none=>simp [sliceBounds,HT.sIx]
  | some i=>
   simp only [sliceBounds,HT.sIx,Option.getD_none,show (1:Int) > 0 by decide,if_true]
   by_cases h:i < 0
   ·simp only [h,if_true] <;> omega
   ·simp only [h,if_false] <;> omega
 ·cases hi with
  | none=>simp [sliceBounds,HT.sIx]
  | some i=>
   simp only [sliceBounds,HT.sIx,Option.getD_none,show (1:Int) > 0 by decide,if_true]
   by_cases h:i < 0
   ·simp only [h,if_true] <;> omega
   ·simp only [h,if_false] <;> omega
theorem slicePick_cut (its:List Value)(lo hi:Option Int):slicePick its.toArray lo hi none=((its.drop (HT.sIx its.length 0 lo)).take (HT.sIx its.length its.length hi - HT.sIx its.length 0 lo)).toArray:=by
 obtain ⟨h1,h2,h3⟩:=slice_bounds lo hi its.toArray.size
 unfold slicePick
 rw [h1,h2,h3]
 simp only [sliceRange_one,pick_run,List.size_toArray] <;> rfl
inductive rSlL (K:Frag)(x:V)(lo:Option Int)(hi:Option Int)(H:Hp)(Q:VK):Prop where
 | mk (a xs:_) (_:x=.ref a) (_:SqL K H a xs) (_:∀p,H p=none→Q (.ref p) (upd H p (.lst (cutV xs lo hi)))):rSlL K x lo hi H Q
theorem sl_list:SlR X (rSlL X.K):=by
 intro pins s σ H x v vl vu lo hi sl Q I rx hs pl pu h
 obtain ⟨a,xs,rfl,hx,q⟩:=h
 cases rx
 obtain ⟨its,r,ht,hz⟩:=I.list hx
 have hlen:=r.length
 refine ⟨"list",_,slot_list_getitem.lookup,ht.isList.typeIs,?_⟩
 refine wpAny_getItem_list_slice ht.isList hs pl pu .none (by simp) ?_ (by rw [List.size_toArray] <;> omega)
 rw [slicePick_cut, ← hlen]
 refine ⟨.ref s.heap.objs.size,_,I.laid (t' :=s.toks) (o:=.lst (cutV xs lo hi)) (fun b ob q=>Heap.get?_push_of_some _ q) (Nat.le_refl _) ?_,rfl,q _ (I.hok.fresh (Nat.le_refl _))⟩
 exact ⟨Nat.le_trans (cutV_length xs lo hi) hz,_,0,(r.drop (HT.sIx xs.length 0 lo)).take (HT.sIx xs.length xs.length hi - HT.sIx xs.length 0 lo),Heap.get?_push_size _ rfl⟩
def flatV:V→Bool
 | .non=>true
 | .bl _=>true
 | .int _=>true
 | .str _=>true
 | _=>false
def eqV:V→V→Bool
 | .non,.non=>true
 | .bl a,.bl b=>a==b
 | .bl a,.int b=>(if a then 1 else 0)==b
 | .int a,.bl b=>a==(if b then 1 else 0)
 | .int a,.int b=>a==b
 | .str a,.str b=>a==b
 | _,_=>false
theorem eqAt_V {A:Around}{s:Shared}{y x:V}{u v:Value}(ry:RelV y u)(rx:RelV x v)(fy:flatV y=true)(fx:flatV x=true):SeqAt.EqAt A s u v (eqV y x):=by
 cases y with
 | non=>
  cases ry
  cases x with
  | non=>cases rx;exact SeqAt.EqAt.same _
  | bl b=>cases rx;exact SeqAt.EqAt.none_bool b
  | int b=>obtain ⟨t,rfl⟩:=rx;exact SeqAt.EqAt.none_int b t
  | str b=>obtain ⟨t,rfl⟩:=rx;exact SeqAt.EqAt.none_str b t
  | _=>exact absurd (show false=true from fx) Bool.false_ne_true
 | bl a=>
  cases ry
  cases x with
  | non=>cases rx;exact SeqAt.EqAt.bool_none a
  | bl b=>cases rx;exact SeqAt.EqAt.bool_bool a b
  | int b=>obtain ⟨t,rfl⟩:=rx;exact SeqAt.EqAt.bool_int a b t
  | str b=>obtain ⟨t,rfl⟩:=rx;exact SeqAt.EqAt.bool_str a b t
  | _=>exact absurd (show false=true from fx) Bool.false_ne_true
 | int a=>
  obtain ⟨t',rfl⟩:=ry
  cases x with
  | non=>cases rx;exact SeqAt.EqAt.int_none a t'
  | bl b=>cases rx;exact SeqAt.EqAt.int_bool a t' b
  | int b=>obtain ⟨t,rfl⟩:=rx;exact SeqAt.EqAt.int_int a t' b t
  | str b=>obtain ⟨t,rfl⟩:=rx;exact SeqAt.EqAt.int_str a t' b t
  | _=>exact absurd (show false=true from fx) Bool.false_ne_true
 | str a=>
  obtain ⟨t',rfl⟩:=ry
  cases x with
  | non=>cases rx;exact SeqAt.EqAt.str_none a t'
  | bl b=>cases rx;exact SeqAt.EqAt.str_bool a t' b
  | int b=>obtain ⟨t,rfl⟩:=rx;exact SeqAt.EqAt.str_int a t' b t
  | str b=>obtain ⟨t,rfl⟩:=rx;exact SeqAt.EqAt.str_str a t' b t
  | _=>exact absurd (show false=true from fx) Bool.false_ne_true
 | _=>exact absurd (show false=true from fy) Bool.false_ne_true
def eqU (x:V)(u:Value):Bool:=match u with
 | .none=>eqV .non x
 | .bool b=>eqV (.bl b) x
 | .int i _=>eqV (.int i) x
 | .str z _=>eqV (.str z) x
 | _=>false
theorem eqU_of {x y:V}{u:Value}(r:RelV y u)(f:flatV y=true):eqU x u=eqV y x:=by
 cases y with
 | non=>cases r;rfl
 | bl b=>cases r;rfl
 | int i=>obtain ⟨t,rfl⟩:=r;rfl
 | str z=>obtain ⟨t,rfl⟩:=r;rfl
 | _=>exact absurd (show false=true from f) Bool.false_ne_true
theorem any_eqU {x:V}:∀{xs:List V} {us:List Value},Vals xs us→xs.all flatV=true→us.any (eqU x)=xs.any fun y=>eqV y x
 | _,_,.nil,_=>rfl
 | y::xs,u::us,.cons r t,f=>by
  rw [List.all_cons,Bool.and_eq_true] at f
  rw [List.any_cons,List.any_cons,eqU_of r f.1,any_eqU t f.2]
theorem mem_eqAt {A:Around}{s:Shared}{x:V}{v:Value}(rx:RelV x v)(fx:flatV x=true):∀{xs:List V} {us:List Value},Vals xs us→xs.all flatV=true→∀u∈us,SeqAt.EqAt A s u v (eqU x u)
 | _,_,.nil,_=>fun u hu=>by cases hu
 | y::xs,u::us,.cons r t,f=>fun u' hu=>by
  rw [List.all_cons,Bool.and_eq_true] at f
  rcases List.mem_cons.mp hu with rfl | hu
  ·rw [eqU_of r f.1];exact eqAt_V r rx f.1 fx
  ·exact mem_eqAt rx fx t f.2 u' hu
def inV (x:V)(xs:List V):Bool:=xs.any fun y=>eqV y x
inductive rIn (K:Frag)(neg:Bool)(x:V)(y:V)(H:Hp)(Q:VK):Prop where
 | mk (p xs:_) (_:y=.ref p) (_:(SqL K H p xs∨SqT K H p xs)) (_:flatV x=true) (_:xs.all flatV=true) (_:Q (.bl (if neg then !inV x xs else inV x xs)) H):rIn K neg x y H Q
theorem op_in_seq:OpR X (compareOp .In) (rIn X.K false):=by
 intro pins s σ H x y v u Q I rx ry h
 obtain ⟨p,xs,rfl,hq,fx,fs,q⟩:=h
 cases ry
 rcases hq with hq | hq
 ·obtain ⟨its,r,pl,hz⟩:=I.list hq
  refine SeqAt.in_listAt (eqU x) pl.isList (fun w hw=>mem_eqAt rx fx r fs w (by simpa using hw)) ⟨.bl _,H,I,rfl,?_⟩
  rw [show its.toArray.any (eqU x)=its.any (eqU x) by simp,any_eqU r fs]
  exact q
 ·obtain ⟨its,r,pl,hz⟩:=I.tuple hq
  refine SeqAt.in_tupleAt (eqU x) pl (fun w hw=>mem_eqAt rx fx r fs w (by simpa using hw)) ⟨.bl _,H,I,rfl,?_⟩
  rw [show its.toArray.any (eqU x)=its.any (eqU x) by simp,any_eqU r fs]
  exact q
theorem op_notIn_seq:OpR X (compareOp .NotIn) (rIn X.K true):=by
 intro pins s σ H x y v u Q I rx ry h
 obtain ⟨p,xs,rfl,hq,fx,fs,q⟩:=h
 cases ry
 rcases hq with hq | hq
 ·obtain ⟨its,r,pl,hz⟩:=I.list hq
  refine SeqAt.notIn_listAt (eqU x) pl.isList (fun w hw=>mem_eqAt rx fx r fs w (by simpa using hw)) ⟨.bl _,H,I,rfl,?_⟩
  rw [show its.toArray.any (eqU x)=its.any (eqU x) by simp,any_eqU r fs]
  exact q
 ·obtain ⟨its,r,pl,hz⟩:=I.tuple hq
  refine SeqAt.notIn_tupleAt (eqU x) pl (fun w hw=>mem_eqAt rx fx r fs w (by simpa using hw)) ⟨.bl _,H,I,rfl,?_⟩
  rw [show its.toArray.any (eqU x)=its.any (eqU x) by simp,any_eqU r fs]
  exact q
theorem call_len_seq:CallR X (.builtin "len") (fun xs H Q=>∃p ys,xs=[.ref p]∧(SqL X.K H p ys∨SqT X.K H p ys)∧Q (.int ys.length) H):=by
 intro pins s σ H xs us Q I r h
 obtain ⟨p,ys,rfl,hq,q⟩:=h
 obtain ⟨u,rfl,rx⟩:=vals1 r
 cases rx
 have hn:=line63
 rcases hq with hq | hq
 ·obtain ⟨its,r',pl,hz⟩:=I.list hq
  have hlen:=r'.length
  exact Calls.call_len_list pl.isList (by simp only [List.size_toArray] <;> omega) ⟨.int ys.length,H,I.tok _,⟨s.toks+1,by rw [List.size_toArray,hlen]⟩,q⟩
 ·obtain ⟨its,r',pl,hz⟩:=I.tuple hq
  have hlen:=r'.length
  exact len_tuple pl (by simp only [List.size_toArray] <;> omega) ⟨.int ys.length,H,I.tok _,⟨s.toks+1,by rw [List.size_toArray,hlen]⟩,q⟩
def tyV (K:Frag)(T:String)(x:V)(H:Hp):Prop:=match x with
 | .str _=>T="str"
 | .int _=>T="int"
 | .ref p=>(T="list"∧∃xs,SqL K H p xs)∨(T="tuple"∧∃o,K.lookup p=some o∧o.cls=.type "tuple"∧o.dict=none)∨
   (T="dict"∧((∃kvs,H p=some (.dK kvs))∨∃kvs,H p=some (.dT kvs)))∨(T="set"∧∃S n,H p=some (.set S n))
 | _=>False
theorem tyV_is {pins:List (Addr×Obj)}{σ:St}{H:Hp}{s:Shared}{T:String}{x:V}{v:Value}(I:Inv X pins σ H s)(r:RelV x v)(ty:tyV X.K T x H):
  s.TypeIs v T∧∀a,v=.ref a→∃ob,s.heap.get? a=some ob∧ob.dict=none:=by
 cases x with
 | str z=>
  obtain ⟨t,rfl⟩:=r
  cases (show T="str" from ty)
  exact ⟨typeIs_str s z t,fun _ e=>nomatch e⟩
 | int i=>
  obtain ⟨t,rfl⟩:=r
  cases (show T="int" from ty)
  exact ⟨typeIs_int s i t,fun _ e=>nomatch e⟩
 | ref p=>
  cases r
  rcases ty with ⟨rfl,xs,hq⟩ | ⟨rfl,o,hk,hc,hd⟩ | ⟨rfl,hk⟩ | ⟨rfl,S,n,hk⟩
  ·obtain ⟨its,_,pl,_⟩:=I.list hq
   refine ⟨pl.isList.typeIs,fun a e=> ?_⟩
   cases e
   obtain ⟨o,n,e,c,hd,_⟩:=pl
   exact ⟨o,e,hd⟩
  ·refine ⟨⟨o,I.kIn p o hk,hc⟩,fun a e=> ?_⟩
   cases e
   exact ⟨o,I.kIn _ o hk,hd⟩
  ·have z:∃o,s.heap.get? p=some o∧o.ExactDict:=by
    rcases hk with ⟨kvs,hk⟩ | ⟨kvs,hk⟩
    ·obtain ⟨_,_,_,_,o,_,_,e,ex,_⟩:=I.hok p _ hk
     exact ⟨o,e,ex⟩
    ·obtain ⟨_,_,_,_,o,_,_,e,ex,_⟩:=I.hok p _ hk
     exact ⟨o,e,ex⟩
   obtain ⟨o,e,ex⟩:=z
   refine ⟨⟨o,e,ex.1⟩,fun a e2=> ?_⟩
   cases e2
   exact ⟨o,e,ex.2.1⟩
  ·obtain ⟨o,_,_,_,e,ex,_⟩:=I.hok p _ hk
   refine ⟨⟨o,e,ex.1⟩,fun a e2=> ?_⟩
   cases e2
   exact ⟨o,e,ex.2.1⟩
 | _=>exact False.elim ty
def tBM (K:Frag)(T:String)(r:V→List V→Hp→VK→Prop)(to:TE)(t:TA):TE:=fun σ H Q=>to σ H fun x H1=>tyV K T x H1∧t σ H1 fun xs H2=>r x xs H2 Q
variable {o e:Expr}{es:List Expr}{to:TE}{t:TA}{name:Str}{apos cpos:Pos}{T id:String}{r:V→List V→Hp→VK→Prop}
theorem pe_bm (pa:PlainAttrs T)(slot:Slot T name id)(hty:typeOf (.builtin id)=pure (.type "method_descriptor"))(hm:MtR X id r)(ho:PE X o to)(ha:PA X (e::es) t)
  (hbase:attributeBase o name X.env (eval o X.env)=eval o X.env:=by rfl)
  (hfew:((backTo cpos (starEach (e::es) X.env)).all (fun x=> !x.1) && (backToKw cpos (keywordEach [] X.env)).all (fun x=>x.1.isSome)
   && decide ((e::es).length+([]:List Keyword).length+(if ([]:List Keyword).isEmpty then 0 else 1) < 30))=true:=by rfl)
  (hline:(apos.endLine==cpos.line)=true:=by rfl) (hs:starEach (e::es) X.env=(false,eval e X.env)::starEach es X.env:=by rfl) (hplain:(backTo cpos (starEach es X.env)).any (·.1)=false:=by rfl):
  PE X (.Call (.Attribute o name apos) (e::es) [] cpos) (tBM X.K T r to t):=by
 intro pins s σ H Q I h
 refine wpAny_Call_method_late hbase hfew hline rfl (thn (ho pins s σ H _ I h) fun v s1 ⟨x,H1,I1,r1,ty,q1⟩=> ?_)
 obtain ⟨h1,h2⟩:=tyV_is I1 r1 ty
 refine ⟨T,id,pa,slot,hty,h1,h2,?_⟩
 have hA:=ha cpos pins s1 σ H1 _ I1 q1
 rw [hs] at hA ⊢
 refine Calls.callWith_builtin (by show (false || (backTo cpos (starEach es X.env)).any (·.1))=false;rw [hplain] <;> rfl) (Calls.evalArgs_plain ?_)
 exact thn hA fun us s2 ⟨vs,H2,I2,r2,q2⟩=>hm pins s2 σ H2 x vs v us Q I2 r1 r2 q2
end
end L2
namespace L2
open PySem PySem.Spec PyProof.Rows
def MtM (X:Cx)(id:String)(r:V→List V→Hp→VK→Prop):Prop:=
 ∀(pins:List (Addr×Obj)) (s:Shared) (σ:St) (H:Hp) (x:V) (xs:List V) (v:Value) (us:List Value) (Q:VK),Inv X pins σ H s→RelV x v→Vals xs us→r x xs H Q→
  wpAny (model X.prog X.w) X.A (call (.builtin id) (v::us)) (EP X pins σ Q) X.xe s
theorem Vals.one:∀{x:V} {us:List Value},Vals [x] us→∃u,us=[u]∧RelV x u
 | _,_,.cons r .nil=>⟨_,rfl,r⟩
theorem Vals.rep {xs:List V}{us:List Value}(h:Vals xs us):∀k:Nat,Vals (List.replicate k xs).flatten (List.replicate k us).flatten
 | 0=>.nil
 | k+1=>by
  rw [List.replicate_succ,List.replicate_succ,List.flatten_cons,List.flatten_cons]
  exact Vals.append h (Vals.rep h k)
theorem foldl_rep (its:List Value):∀(k:Nat) (acc:List Value),
  List.foldl (fun x1 x2=>x1++x2) acc.toArray (List.replicate k its.toArray)=(acc++(List.replicate k its).flatten).toArray
 | 0,acc=>by simp
 | k+1,acc=>by
  have e:acc.toArray++its.toArray=(acc++its).toArray:=by simp
  have e2:(acc++its)++(List.replicate k its).flatten=acc++(List.replicate (k+1) its).flatten:=by
   rw [List.replicate_succ,List.flatten_cons,List.append_assoc]
  rw [← e2, ← foldl_rep its k (acc++its), ← e,List.replicate_succ,List.foldl_cons]
section
variable {X:Cx}{pins:List (Addr×Obj)}{σ:St}{H:Hp}{s:Shared}{l b:Addr}{xs ys zs:List V}
theorem Inv.lset {its its' :List Value}{n:Nat}{f:Array Value→Array Value}{t' :Nat}(I:Inv X pins σ H s)(hH:H l=some (.lst xs))
  (e:s.heap.get? l=some {cls:=.type "list",data:=.seq its.toArray n}) (hf:f its.toArray=its'.toArray) (hv:Vals ys its') (hz:ys.length≤sizeLine):
  Inv X pins σ (upd H l (.lst ys)) {s with heap:=s.heap.update l (Obj.mapSeq f),toks:=t' }:=by
 have q:=PySem.IsL.update e f
 rw [hf] at q
 refine I.write (x:=l) (e:=l) (by rw [hH];exact trivial) (.inl rfl) (fun b' u hb hu=>(Heap.get?_update_other s.heap (Obj.mapSeq f) (Ne.symm hb)).trans hu) ⟨_,q⟩ ?_
 exact ⟨hz,its',_,hv,q⟩
theorem Inv.lnew {its:List Value}{t' :Nat}(I:Inv X pins σ H s)(hv:Vals ys its)(hz:ys.length≤sizeLine):
  Inv X pins σ (upd H s.heap.objs.size (.lst ys)) {s with heap:=s.heap.push {cls:=.type "list",data:=.seq its.toArray},toks:=t' }:=
 I.laid (fun _ _ q=>Heap.get?_push_of_some _ q) (Nat.le_refl _) ⟨hz,its,0,hv,Heap.get?_push_size _ rfl⟩
theorem Inv.fresh (I:Inv X pins σ H s):H s.heap.objs.size=none:=I.hok.fresh (Nat.le_refl _)
theorem Inv.lstM (I:Inv X pins σ H s)(hH:H l=some (.lst xs)):xs.length≤sizeLine∧∃(its:List Value) (n:Nat),Vals xs its∧xs.length=its.length∧s.heap.get? l=some {cls:=.type "list",data:=.seq its.toArray n}:=by
 obtain ⟨z,its,n,r,e⟩:=I.hok l _ hH
 exact ⟨z,its,n,r,r.length,e⟩
theorem notLongL {n:Nat}(h:n≤sizeLine):Builtin.List.listTooLong n=false:=by
 unfold Builtin.List.listTooLong
 exact decide_eq_false (by omega)
end
section
variable {X:Cx}
inductive rAppend (x:V)(vs:List V)(H:Hp)(Q:VK):Prop where
 | mk (l xs y:_) (_:x=.ref l) (_:vs=[y]) (_:H l=some (.lst xs)) (_:xs.length < sizeLine) (_:Q .non (upd H l (.lst (xs++[y])))):rAppend x vs H Q
theorem mt_append:MtM X "list.append" rAppend:=by
 intro pins s σ H x vs v us Q I rx rv h
 obtain ⟨l,xs,y,rfl,rfl,hH,hz,q⟩:=h
 cases rx
 obtain ⟨u,rfl,ru⟩:=rv.one
 obtain ⟨z,its,n,r,hl,e⟩:=I.lstM hH
 refine call_meets F.slot_list_append ⟨_,e,rfl⟩ F.entry_list_append (F.args_list_append_2 _ _) (PySem.list_append l its.toArray n u (by rw [List.size_toArray];omega)) ⟨e,?_⟩
 refine ⟨.non,_,I.lset (its' :=its++[u]) hH e (by simp) (r.append (.cons ru .nil)) ?_,rfl,q⟩
 rw [List.length_append,List.length_singleton]
 omega
inductive rCat (x:V)(y:V)(H:Hp)(Q:VK):Prop where
 | mk (l b xs zs:_) (_:x=.ref l) (_:y=.ref b) (_:H l=some (.lst xs)) (_:H b=some (.lst zs)) (_:xs.length+zs.length≤sizeLine) (_:∀p,H p=none→Q (.ref p) (upd H p (.lst (xs++zs)))):rCat x y H Q
theorem op_cat:OpR X (binaryOp .Add) rCat:=by
 intro pins s σ H x y v u Q I rx ry h
 obtain ⟨l,b,xs,zs,rfl,rfl,hH,hB,hz,q⟩:=h
 cases rx
 cases ry
 obtain ⟨z,its,n,r,hl,e⟩:=I.lstM hH
 obtain ⟨z2,its2,n2,r2,hl2,e2⟩:=I.lstM hB
 refine PySem.P.add_list e e2 ?_ (by rw [List.size_toArray,List.size_toArray];omega)
 have ea:its.toArray++its2.toArray=(its++its2).toArray:=by simp
 rw [ea]
 exact ⟨.ref _,_,I.lnew (t' :=s.toks) (r.append r2) (by rw [List.length_append];omega),rfl,q _ I.fresh⟩
inductive rRep (x:V)(y:V)(H:Hp)(Q:VK):Prop where
 | mk (l k xs:_) (_:x=.ref l) (_:y=.int k) (_:H l=some (.lst xs)) (_: -(2^63)≤k) (_:k < 2^63) (_:xs.length*k.toNat≤sizeLine) (_:∀p,H p=none→Q (.ref p) (upd H p (.lst (List.replicate k.toNat xs).flatten))):rRep x y H Q
theorem len_rep {α:Type}(xs:List α)(k:Nat):(List.replicate k xs).flatten.length=k*xs.length:=by
 induction k with
 | zero=>simp
 | succ k ih=>rw [List.replicate_succ,List.flatten_cons,List.length_append,ih,Nat.succ_mul,Nat.add_comm]
theorem op_rep:OpR X (binaryOp .Mult) rRep:=by
 intro pins s σ H x y v u Q I rx ry h
 obtain ⟨l,k,xs,rfl,rfl,hH,h1,h2,hz,q⟩:=h
 cases rx
 obtain ⟨t,rfl⟩:=ry
 obtain ⟨z,its,n,r,hl,e⟩:=I.lstM hH
 have hlen:its.toArray.size*k.toNat≤sizeLine:=by rw [List.size_toArray, ← hl];exact hz
 have hcap:¬ its.toArray.size*k.toNat > (2^63 - 1) / 8:=by
  have:(sizeLine:Nat)≤(2^63 - 1) / 8:=by decide
  omega
 have hfit:¬ (!Builtin.List.listFitsIndex k)=true:=by
  rw [fitsIndex_both h1 h2]
  exact Bool.false_ne_true
 have hlong:¬ Builtin.List.listTooLong (its.toArray.size*k.toNat)=true:=by
  rw [notLongL hlen]
  exact Bool.false_ne_true
 have hnew:List.foldl (fun x1 x2=>x1++x2) #[] (List.replicate (if its.toArray.isEmpty=true then 0 else k.toNat) its.toArray)=(List.replicate k.toNat its).flatten.toArray:=by
  have f0:∀m:Nat,List.foldl (fun x1 x2=>x1++x2) #[] (List.replicate m its.toArray)=(List.replicate m its).flatten.toArray:=fun m=>by
   have:=foldl_rep its m []
   rw [List.nil_append] at this
   exact this
  rw [f0]
  cases its with
  | nil=>simp
  | cons a r' =>rw [if_neg (by simp)]
 refine wpAny_binaryOp_repeat_ref (T:="list") (U:="int") (by decide) ⟨_,e,rfl⟩ (fun s' =>typeIs_int s' k t) noFill_list_mul F.fills_int_mul F.slot_int_rmul repeat_list F.slot_int_index.lookup
  (call_meets F.slot_int_rmul (typeIs_int s k t) F.entry_int_rmul (F.args_int_rmul_2 _ _) (int___rmul___int_list k t l its.toArray n)
   ⟨e,rfl,⟨_,e,rfl⟩,call_meets F.slot_list_mul ⟨_,e,rfl⟩ F.entry_list_mul (F.args_list_mul_2 _ _) (AutoListH.list___mul___list_int_3 l its.toArray n k t hfit hcap hlong) ⟨e,?_⟩⟩)
 rw [hnew]
 exact ⟨.ref _,_,I.lnew (t' :=s.toks) (r.rep k.toNat) (by rw [len_rep,Nat.mul_comm];exact hz),rfl,q _ I.fresh⟩
end
section
variable {prog:Program}{w:World}{A:Around}{E:Value→Shared→Prop}{s:Shared}
set_option maxRecDepth 100000 in
end
section
variable {X:Cx}
end
end L2
namespace Att
open PySem PySem.W PySem.Calls PyProof.Rows
theorem ints_of_wellAll {P:Params}{h:Heap}:∀(ns:List Int) (vs:List Value),WellAll P h vs (ns.map WData.int)→IntsAre vs ns:=by
 intro ns
 induction ns with
 | nil=>
  intro vs w
  rw [List.map_nil] at w
  cases w
  exact .nil
 | cons n ns ih=>
  intro vs w
  rw [List.map_cons] at w
  cases w with
  | cons a b=>
   cases a
   exact .cons _ _ (ih _ b)
theorem script_of {l:OpenLaw}{n:Nat}(hn:l.most=some n){P:Params}{h:Heap}{args:List WData}{vals:List Value}
  (hpre:l.row.toRowW.claim.pre args=true) (hwl:WellAll P h vals args):
  ∃a vs ns,vals=[Value.ref a]∧args=[WData.list (ns.map WData.int)]∧h.get? a=some {cls:=.type "list",data:=.seq vs.toArray}∧IntsAre vs ns∧ns.length≤n:=by
 have hsh:WShape.hasAll [] args [.list .int]=true:=(pre_splitW hpre).1
 have hc:l.pre.holds [] {args:=args}=true:=(pre_splitW hpre).2
 obtain ⟨d,r,rfl,h1,h2⟩:=hasAllW_cons hsh
 obtain rfl:=hasAllW_nil h2
 obtain ⟨xs,rfl,h3⟩:=hasW_list h1
 obtain ⟨ns,rfl⟩:=items_int h3
 have hlen:ns.length≤n:=by
  unfold OpenLaw.pre at hc
  have h4:(WTm.not (.lt (.lit (.int (n:Int))) (.len (.arg 0)))).holds [] {args:=[.list (ns.map .int)]}=true:=by
   have h4:=(holds_andW hc).1
   rw [hn] at h4
   exact h4
  have h5:=condW_of h4 (w_not (w_lt w_lit (w_len_list (w_arg rfl))))
  rw [List.length_map] at h5
  refine Nat.le_of_not_lt fun q=> ?_
  have q' :(n:Int) < ((ns.length:Nat):Int):=by omega
  first
   | (rw [decide_eq_true q'] at h5;exact absurd h5 (by decide))
   | (simp at h5;omega)
 cases hwl with
 | cons w1 w2=>
  cases w2
  cases w1 with
  | list ho hall=>exact ⟨_,_,ns,rfl,rfl,ho,ints_of_wellAll ns _ hall,hlen⟩
theorem post_true (l:OpenLaw)(args:List WData):l.row.toRowW.claim.post args (.bool true) args=true:=
 postW_of (r:=l.row.toRowW) (X:=(true==true))
  (show WShape.has [] (.bool true) .bool=true by first | rfl | decide | simp [WShape.has,WShape.arms,WShape.armsAll])
  (show (WTm.eq .res (.lit (.bool true))).value [] {args:=args,res:=some (.bool true),after:=args}=some (.bool (true==true)) from w_eq_bool (w_res rfl) w_lit) rfl
section
variable {prog:Program}{w:World}{A:Around}{E:Value→Shared→Prop}{s:Shared}{K:Frag}
end
end Att
namespace L2
open PySem PySem.Spec PyProof.Rows
theorem vals_ints:∀{vs:List Value} {ns:List Int},IntsAre vs ns→Vals (ns.map V.int) vs
 | _,_,.nil=>.nil
 | _,_,.cons n t h=>.cons ⟨t,rfl⟩ (vals_ints h)
def Only (H:Hp):Prop:=∀b,H b=none∨∃o xs,H b=some (.frz o (.lst xs))
theorem law_call {P:Program}{w:World}{K:Frag}{mg mb:Str→Option Value}{CX:CXT}{k:Nat}{fa a:Addr}{fd:FuncData}{x:Str}{sp:Sp}{s₁:Shared}{vs:List Value}{ns:List Int}
  (KX:K.In s₁.heap) (hns:s₁.heap.Ns mainGlobals mg) (hb:s₁.heap.Ns builtinsNs mb) (hbb:∀x:Str,x≠ "__name__"→mb x=bootBuiltins x) (hlim:s₁.heap.NoLimit) (hsee:s₁.heap.NoSeer) (hg:s₁.gens= #[])
  (ha:s₁.heap.get? a=some {cls:=.type "list",data:=.seq vs.toArray}) (hi:IntsAre vs ns) (hl:ns.length≤sizeLine) (hr:Room k callerA)
  (F:∀base:Heap,K.In base→base.Ns mainGlobals mg→FnOk P w K mg base CX k fa fd [x] sp) (hbind:∀(s:Shared) (u:Value),BindsTo s fd ⟨[u],[]⟩ [(x,u)])
  (hsp:∀H:Hp,Only H→SqL K H a (ns.map V.int)→sp [.ref a] H (fun v _=>v=.bl true) fun _ _ _=>False)
  (hCX:∀H e s',CX [] H s₁ (fun _ _ _=>False) e s' →False):
  codeAny (model P w) callerA (.call (.ref fa) ⟨[.ref a],[]⟩) (fun r s' =>r=.ok (.ret (.bool true))∧OldK s₁.heap s'.heap∧s'.os=s₁.os∧AllBare s'.gens) s₁:=by
 have rv:=vals_ints hi
 have lenV:=hi.length
 have core:∀H:Hp,Only H→SqL K H a (ns.map V.int)→HOk P w H s₁.heap→(∀b,H b≠none→b=a)→(H a≠none→K.lookup a=none)→
   codeAny (model P w) callerA (.call (.ref fa) ⟨[.ref a],[]⟩) (fun r s' =>r=.ok (.ret (.bool true))∧OldK s₁.heap s'.heap∧s'.os=s₁.os∧AllBare s'.gens) s₁:=by
  intro H hO hS hok hA hK
  have base_of:∀{b:Addr} {o:Obj},s₁.heap.get? b=some o→H b=none→(hidT s₁.heap H).get? b=some o:=fun e n=>hidT_get e n
  have noA:∀{b:Addr} {o:Obj} {es:Array DictEntry} {ep:Nat},s₁.heap.get? b=some o→o.data=.dict es ep→H b=none:=fun {b o es ep} e d=>by
   cases q:H b with
   | none=>rfl
   | some u=>
    have e' :b=a:=hA b (by rw [q];simp)
    subst e'
    rw [ha] at e;cases e
    have d' :Data.seq vs.toArray _=Data.dict es ep:=d
    cases d'
  have nsK:∀{b:Addr} {m:Str→Option Value},s₁.heap.Ns b m→(hidT s₁.heap H).Ns b m:=fun {b m} ⟨o,es,ep,e,d,r⟩=>⟨o,es,ep,base_of e (noA e d),d,r⟩
  have hKb:K.In (hidT s₁.heap H):=fun b o e=>base_of (KX b o e) (by
   cases q:H b with
   | none=>rfl
   | some u=>
    have e' :b=a:=hA b (by rw [q];simp)
    subst e'
    rw [hK (by rw [q];simp)] at e;cases e)
  have hM:Mod K mg (hidT s₁.heap H):=⟨hKb,nsK hns,⟨mb,nsK hb,hbb⟩,let ⟨mc,h1,h2⟩:=hlim;⟨mc,nsK h1,h2⟩,
   ⟨let ⟨mc,h1,h2⟩:=hsee.statics;⟨mc,nsK h1,h2⟩,let ⟨mc,h1,h2⟩:=hsee.mods;⟨mc,nsK h1,h2⟩,let ⟨mc,h1,h2⟩:=hsee.imp;⟨mc,nsK h1,h2⟩,
    let ⟨mg',bm,ob,h1,h2,h3,h4,h5⟩:=hsee.main;⟨mg',bm,ob,nsK h1,h2,base_of h3 (by
     cases q:H bm with
     | none=>rfl
     | some u=>
      have e' :bm=a:=hA bm (by rw [q];simp)
      subst e'
      rw [ha] at h3
      cases h3
      have h4' :Value.type "list"=Value.type "module":=h4
      injection h4' with e9
      exact absurd e9 (by decide)),h4,h5⟩⟩⟩
  have e0:Env0 P w K mg (hidT s₁.heap H) callerA [] s₁ H:=⟨rfl,hM,fun b o e=>of_hidT e,Nat.le_of_eq (hidT_size _ _),trivial,fun b hb=>absurd (show b∈([]:List Addr) from hb) (by simp),hok,.of_eq hg⟩
  refine codeAny_mono ((F _ hKb (nsK hns)).run callerA [] s₁ H ⟨[.ref a],[]⟩ [.ref a] [.ref a] _ _ hr e0 (hbind s₁ (.ref a)) (.cons rfl .nil) (hsp H hO hS)) fun r s' h=> ?_
  cases r with
  | error e=>exact (hCX H e s' h).elim
  | ok fl=>
   cases fl with
   | next=>exact False.elim h
   | brk=>exact False.elim h
   | cont=>exact False.elim h
   | ret u=>
    obtain ⟨v,H',os,bare,un,hok',r',q⟩:=h
    have q' :v=.bl true:=q
    subst q'
    obtain rfl:u=Value.bool true:=r'
    refine ⟨rfl,OldK.of_keep fun b o e=> ?_,os,bare⟩
    cases q:H b with
    | none=>exact un.keep b o e q (by intro z;exact absurd (show b∈([]:List Addr) from z) (by simp)) (by simp)
    | some u=>
     rcases hO b with z | ⟨ob,xs,z⟩
     ·rw [q] at z;cases z
     ·have z2:=un.frzs b ob _ z
      obtain ⟨e1,_⟩:=hok b _ z
      obtain ⟨e2,_⟩:=hok' b _ z2
      rw [e] at e1;cases e1
      exact e2
 cases hk:K.lookup a with
 | some o=>
  have e:=KX a o hk
  rw [ha] at e
  cases e
  refine core (fun _=>none) (fun _=>.inl rfl) (.inr ⟨_,vs.toArray,_,hk,rfl,rfl,rfl,by rw [List.size_toArray,lenV];exact hl,by simpa using rv⟩) (fun b u z=>by have z' :(none:Option HO)=some u:=z;cases z') (fun b z=>absurd rfl z) fun z=>absurd rfl z
 | none=>
  refine core (fun b=>if b=a then some (.frz {cls:=.type "list",data:=.seq vs.toArray} (.lst (ns.map V.int))) else none) (fun b=> ?_) (.inl (.inr ⟨{cls:=.type "list",data:=.seq vs.toArray},if_pos rfl⟩)) (fun b u z=> ?_) (fun b z=> ?_) fun _=>hk
  ·by_cases hb:b=a
   ·exact .inr ⟨_,_,if_pos hb⟩
   ·exact .inl (if_neg hb)
  ·by_cases hb:b=a
   ·have z' :=(if_pos hb).symm.trans z
    cases z'
    subst hb
    exact ⟨ha,by rw [List.length_map];exact hl,vs,_,rv,ha⟩
   ·have z' :=(if_neg hb).symm.trans z
    cases z'
  ·by_cases hb:b=a
   ·exact hb
   ·exact absurd (if_neg hb) z
end L2
namespace L2
open PySem PySem.Spec PyProof.Rows
abbrev KOf {K:Frag}{h:Heap}(_:K.In h):Frag:=K
end L2
namespace L2
open PySem PySem.Spec PyProof.Rows
def inClass (s:Stmt)(j:Nat):Stmt:=match s with
 | .ClassDef _ _ _ body _ _ _ _ _ _ _=>body.getD j (.Pass ⟨0,0,0,0⟩)
 | _=>.Pass ⟨0,0,0,0⟩
def defArgs (s:Stmt):Arguments:=match s with
 | .FunctionDef _ a _ _ _ _ _ _ _ _=>a
 | _=>{posonlyargs:=[],args:=[],vararg:=none,kwonlyargs:=[],kw_defaults:=[],kwarg:=none,defaults:=[]}
def defBody (s:Stmt):List Stmt:=match s with
 | .FunctionDef _ _ b _ _ _ _ _ _ _=>b
 | _=>[]
def defScope (s:Stmt):Scope:=match s with
 | .FunctionDef _ _ _ _ _ _ sc _ _ _=>sc
 | _=>{kind:=.function,names:=[],isGenerator:=false,isCoroutine:=false}
abbrev E0:XK:=fun _ _ _=>False
structure Fun (K:Frag)(x qual:Str)(st:Stmt)(f:Addr)(fd:FuncData):Prop where
 ex:∃(oc:Value) (od:Option Addr) (kV doc pm:Value) (an:Option Addr) (cdv ct:Value) (osl:Array (Option Value)),
  fd=fnOf x qual (defArgs st) (defBody st) (defScope st) .none kV doc pm an cdv ct∧K.lookup f=some ⟨oc,od,.func fd,osl⟩∧codeIn K cdv qual=true
 kp:keepIn K (.ref f)=true
section
variable {P:Program}{w:World}{K:Frag}{mg:Str→Option Value}{base:Heap}
theorem Fun.binds {x qual:Str}{st:Stmt}{f:Addr}{fd:FuncData}{ps:List Str}(F:Fun K x qual st f fd)
  (h:∀(kV doc pm:Value) (an:Option Addr) (cdv ct:Value) (us:List Value),us.length=ps.length→bindArgs (fnOf x qual (defArgs st) (defBody st) (defScope st) .none kV doc pm an cdv ct) ⟨us,[]⟩=pure (ps.zip us)):Binds K fd ps []:=by
 obtain ⟨oc,od,kV,doc,pm,an,cdv,ct,osl,rfl,lk,hcd⟩:=F.ex
 exact .all (h kV doc pm an cdv ct)
theorem fun_mk {x qual:Str}{st:Stmt}{f:Addr}{oc:Value}{od an:Option Addr}{osl:Array (Option Value)}{kV doc pm cdv ct:Value}(l:K.lookup f=some ⟨oc,od,.func (fnOf x qual (defArgs st) (defBody st) (defScope st) .none kV doc pm an cdv ct),osl⟩)
  (c:codeIn K cdv qual=true) (k:keepIn K (.ref f)=true):Fun K x qual st f (fnOf x qual (defArgs st) (defBody st) (defScope st) .none kV doc pm an cdv ct):=⟨⟨oc,od,kV,doc,pm,an,cdv,ct,osl,rfl,l,c⟩,k⟩
end
theorem hu_of {A:Around}{k:Nat}(hr:Room k A):A.units+1 < cLine:=Nat.lt_of_le_of_lt (Nat.add_le_add_left (by decide:1≤64) _) hr.units
section
variable {X:Cx}
theorem pv (i:Nat){x:Str}{pos:Pos}(hN:X.N[i]? =some x:=by rfl)(hv:Vis X.env.scope x:=by first | exact Or.inl rfl | exact Or.inr (Or.inl rfl) | exact Or.inr (Or.inr rfl))(hd:(x==("__debug__":Str))=false:=by decide)
  (hcd:(x==("__classdict__":Str))=false:=by decide):PE X (.Name x pos) (tVar i):=pe_var hN hv hd hcd
end
theorem iteF {A B:Prop}(h:B):if false=true then A else B:=by
 rw [if_neg Bool.false_ne_true]
 exact h
theorem iteT {A B:Prop}(h:A):if true=true then A else B:=by
 rw [if_pos rfl]
 exact h
theorem ite2 {c A B:Prop}[Decidable c](h1:c→A)(h2:¬ c→B):if c then A else B:=by
 by_cases h:c
 ·rw [if_pos h]
  exact h1 h
 ·rw [if_neg h]
  exact h2 h
def Same (H H' :Hp):Prop:=∀b o,H b=some o→H' b=some o
theorem Same.refl (H:Hp):Same H H:=fun _ _ h=>h
theorem Same.trans {H H1 H2:Hp}(a:Same H H1)(b:Same H1 H2):Same H H2:=fun c o h=>b c o (a c o h)
theorem Same.free {H H' :Hp}(e:Same H H'){l:Addr}(h:H' l=Option.none):H l=Option.none:=by
 cases q:H l with
 | none=>rfl
 | some o=>
  rw [e l o q] at h
  cases h
theorem Same.seq {K:Frag}{H H' :Hp}{a:Addr}{xs:List V}(e:Same H H')(h:SqL K H a xs):SqL K H' a xs:=by
 rcases h with (h | ⟨o,h⟩) | h
 ·exact .inl (.inl (e _ _ h))
 ·exact .inl (.inr ⟨o,e _ _ h⟩)
 ·exact .inr h
end L2
namespace Ty
def gz (t b:Int):Int:=(Int.gcd t b:Nat)
def sg (t b:Int):Int:=if b < 0 then -gz t b else gz t b
def low (t b:Int):Int×Int:=(t.fdiv (sg t b),b.fdiv (sg t b))
theorem gcd_step (a b:Int):Int.gcd b (a.fmod b)=Int.gcd a b:=by
 rw [Int.fmod_def,Int.gcd_sub_mul_left_right,Int.gcd_comm]
theorem fmod_less {a b:Int}(h:b≠0):(a.fmod b).natAbs < b.natAbs:=by
 rcases Int.lt_trichotomy b 0 with q | q | q
 ·have h1:(-a).fmod (-b)= -(a.fmod b):=by
   rw [Int.fmod_def,Int.fmod_def,Int.neg_fdiv_neg,Int.neg_mul]
   omega
  have h2:=Int.fmod_nonneg_of_pos (-a) (show 0 < -b by omega)
  have h3:=Int.fmod_lt_of_pos (-a) (show 0 < -b by omega)
  omega
 ·exact absurd q h
 ·have h2:=Int.fmod_nonneg_of_pos a q
  have h3:=Int.fmod_lt_of_pos a q
  omega
theorem gz_pos {t b:Int}(h:b≠0):0 < gz t b:=by
 have:=Int.gcd_pos_iff.mpr (Or.inr h:t≠0∨b≠0)
 show (0:Int) < ((Int.gcd t b:Nat):Int)
 omega
theorem gz_le {t b:Int}(h:b≠0):(gz t b).natAbs≤b.natAbs:=by
 have h1:Int.gcd t b ∣ b.natAbs:=Int.natAbs_dvd_natAbs.mpr (Int.gcd_dvd_right t b)
 have h2:=Nat.le_of_dvd (by omega) h1
 show ((Int.gcd t b:Nat):Int).natAbs≤_
 omega
theorem sg_ne {t b:Int}(h:b≠0):sg t b≠0:=by
 have:=gz_pos (t:=t) h
 unfold sg
 split <;> omega
theorem sg_abs {t b:Int}:(sg t b).natAbs=(gz t b).natAbs:=by
 unfold sg
 split
 ·exact Int.natAbs_neg _
 ·rfl
theorem sg_dvd_left (t b:Int):sg t b ∣ t:=by
 unfold sg gz
 split
 ·exact Int.neg_dvd.mpr (Int.gcd_dvd_left t b)
 ·exact Int.gcd_dvd_left t b
theorem sg_dvd_right (t b:Int):sg t b ∣ b:=by
 unfold sg gz
 split
 ·exact Int.neg_dvd.mpr (Int.gcd_dvd_right t b)
 ·exact Int.gcd_dvd_right t b
theorem fdiv_of_dvd {a g:Int}(h:g≠0)(d:g ∣ a):a=g*a.fdiv g:=by
 obtain ⟨c,hc⟩:=d
 have:=Int.fdiv_eq_of_eq_mul_right h hc
 rw [this]
 exact hc
theorem low_top {t b:Int}(h:b≠0):t=sg t b*(low t b).1:=fdiv_of_dvd (sg_ne h) (sg_dvd_left t b)
theorem low_bot {t b:Int}(h:b≠0):b=sg t b*(low t b).2:=fdiv_of_dvd (sg_ne h) (sg_dvd_right t b)
theorem low_pos {t b:Int}(h:b≠0):0 < (low t b).2:=by
 have e:=low_bot (t:=t) h
 have g:=gz_pos (t:=t) h
 rcases Int.lt_trichotomy (low t b).2 0 with q | q | q
 ·exfalso
  by_cases c:b < 0
  ·have s:sg t b= -gz t b:=by unfold sg;rw [if_pos c]
   rw [s] at e
   have:=Int.mul_pos_of_neg_of_neg (show -gz t b < 0 by omega) q
   omega
  ·have s:sg t b=gz t b:=by unfold sg;rw [if_neg c]
   rw [s] at e
   have:=Int.mul_neg_of_pos_of_neg g q
   omega
 ·exfalso
  rw [q,Int.mul_zero] at e
  exact h e
 ·exact q
theorem low_cross {t b:Int}(h:b≠0):(low t b).1*b=t*(low t b).2:=by
 have e1:=low_top (t:=t) h
 have e2:=low_bot (t:=t) h
 calc (low t b).1*b=(low t b).1*(sg t b*(low t b).2):=by rw [← e2]
  _=sg t b*(low t b).1*(low t b).2:=by rw [← Int.mul_assoc,Int.mul_comm (low t b).1]
  _=t*(low t b).2:=by rw [← e1]
theorem low_gcd {t b:Int}(h:b≠0):Int.gcd (low t b).1 (low t b).2=1:=by
 have e1:=low_top (t:=t) h
 have e2:=low_bot (t:=t) h
 have k:Int.gcd t b=(sg t b).natAbs*Int.gcd (low t b).1 (low t b).2:=by
  have q:=Int.gcd_mul_left (sg t b) (low t b).1 (low t b).2
  rw [← e1, ← e2] at q
  exact q
 have g:(sg t b).natAbs=Int.gcd t b:=by
  rw [sg_abs]
  rfl
 have p:=Int.gcd_pos_iff.mpr (Or.inr h:t≠0∨b≠0)
 rw [g] at k
 have k' :Int.gcd t b*1=Int.gcd t b*Int.gcd (low t b).1 (low t b).2:=by rw [Nat.mul_one];exact k
 exact (Nat.eq_of_mul_eq_mul_left p k').symm
theorem natAbs_factor {g a:Int}(h:g≠0):a.natAbs≤(g*a).natAbs:=by
 rw [Int.natAbs_mul]
 have:1≤g.natAbs:=by omega
 have:=Nat.mul_le_mul_right a.natAbs this
 omega
theorem low_top_le {t b:Int}(h:b≠0):(low t b).1.natAbs≤t.natAbs:=by
 have e:=low_top (t:=t) h
 have:=natAbs_factor (g:=sg t b) (a:=(low t b).1) (sg_ne h)
 rw [← e] at this
 exact this
theorem low_bot_le {t b:Int}(h:b≠0):(low t b).2.natAbs≤b.natAbs:=by
 have e:=low_bot (t:=t) h
 have:=natAbs_factor (g:=sg t b) (a:=(low t b).2) (sg_ne h)
 rw [← e] at this
 exact this
theorem low_of {t b g x y:Int}(hg:g≠0)(ht:t=g*x)(hb:b=g*y)(hy:0 < y)(h1:Int.gcd x y=1):low t b=(x,y):=by
 have hbn:b≠0:=by
  rw [hb]
  exact Int.mul_ne_zero hg (by omega)
 have gg:Int.gcd t b=g.natAbs:=by
  rw [ht,hb,Int.gcd_mul_left,h1,Nat.mul_one]
 have s:sg t b=g:=by
  unfold sg gz
  rw [gg]
  by_cases c:g < 0
  ·have:b < 0:=by rw [hb];exact Int.mul_neg_of_neg_of_pos c hy
   rw [if_pos this]
   omega
  ·have:¬ b < 0:=by
    have:=Int.mul_nonneg (show 0≤g by omega) (show 0≤y by omega)
    omega
   rw [if_neg this]
   omega
 unfold low
 rw [s]
 rw [Int.fdiv_eq_of_eq_mul_right hg ht,Int.fdiv_eq_of_eq_mul_right hg hb]
theorem low_self {x y:Int}(hy:0 < y)(h:Int.gcd x y=1):low x y=(x,y):=low_of (g:=1) (by decide) (by omega) (by omega) hy h
theorem low_scale {t b k:Int}(hk:k≠0)(h:b≠0):low (k*t) (k*b)=low t b:=by
 refine low_of (g:=k*sg t b) (Int.mul_ne_zero hk (sg_ne h)) ?_ ?_ (low_pos h) (low_gcd h)
 ·rw [Int.mul_assoc]
  exact congrArg (k*·) (low_top h)
 ·rw [Int.mul_assoc]
  exact congrArg (k*·) (low_bot h)
theorem low_cross_iff {t b u c:Int}(hb:b≠0)(hc:c≠0)(h:t*c=u*b):low t b=low u c:=by
 rw [← low_scale (t:=t) (b:=b) hc hb, ← low_scale (t:=u) (b:=c) hb hc]
 rw [Int.mul_comm c t,h,Int.mul_comm u b,Int.mul_comm c b]
end Ty
set_option maxHeartbeats 4000000
namespace Ty
open PySem PySem.Spec PyProof.Rows L2
open Builtin.Int (intBits)
section
variable {X:Cx}
def CMulB (i j:Int):Prop:=intBits i≤33554432∧intBits j≤33554432
theorem op_mulB:OpR X (binaryOp .Mult) (rI CMulB fun i j=>.int (i*j)):=
 opI fun _ _ _ _ _ _ _ hc q=>mul_int q (IntMulOk.of_le hc.1 hc.2 (by decide))
def CDivB (i j:Int):Prop:=j≠0∧intBits j≤9000
theorem noPy {i j:Int}(h:intBits j≤9000):Builtin.divisionGoesByPylong i j=false:=by
 refine PyProof.noPylong_of_log2 ?_
 have h1:=intBits_le_iff.mp h
 by_cases h0:j.natAbs=0
 ·rw [h0]
  decide+kernel
 ·exact (Nat.log2_lt h0).mpr h1
theorem op_fdivB:OpR X (binaryOp .FloorDiv) (rI CDivB fun i j=>.int (i.fdiv j)):=
 opI fun _ _ _ _ _ _ _ hc q=>floordiv_int hc.1 q (.inl (noPy hc.2))
end
inductive Da where
 | v (x:V)
 | t (ds:List Da)
 | l (ds:List Da)
mutual
def Is (K:Frag)(H:Hp):Da→V→Prop
 | .v x,u=>u=x∧flatV x=true
 | .t ds,u=>∃p xs,u=.ref p∧SqT K H p xs∧Iss K H ds xs
 | .l ds,u=>∃p xs,u=.ref p∧SqL K H p xs∧Iss K H ds xs
def Iss (K:Frag)(H:Hp):List Da→List V→Prop
 | [],[]=>True
 | d::ds,x::xs=>Is K H d x∧Iss K H ds xs
 | _,_=>False
end
mutual
def eqDa:Da→Da→Bool
 | .v x,.v y=>eqV x y
 | .t ds,.t es=>eqDas ds es
 | .l ds,.l es=>eqDas ds es
 | _,_=>false
def eqDas:List Da→List Da→Bool
 | [],[]=>true
 | d::ds,e::es=>eqDa d e && eqDas ds es
 | _,_=>false
end
mutual
def alike:Da→Da→Bool
 | .v _,.v _=>true
 | .t ds,.t es=>alikes ds es
 | .l ds,.l es=>alikes ds es
 | _,_=>false
def alikes:List Da→List Da→Bool
 | d::ds,e::es=>alike d e && alikes ds es
 | _,_=>true
end
mutual
def dep:Da→Nat
 | .v _=>0
 | .t ds=>deps ds+1
 | .l ds=>deps ds+1
def deps:List Da→Nat
 | []=>0
 | d::ds=>max (dep d) (deps ds)
end
theorem Iss.length {K:Frag}{H:Hp}:∀{ds:List Da} {xs:List V},Iss K H ds xs→ds.length=xs.length
 | [],[],_=>rfl
 | _::_,_::_,h=>congrArg (·+1) (Iss.length (by unfold Iss at h;exact h.2))
 | [],_::_,h=>by unfold Iss at h;exact h.elim
 | _::_,[],h=>by unfold Iss at h;exact h.elim
def bitDa (ds es:List Da)(j:Nat):Bool:=match ds[j]?,es[j]? with
 | some d,some e=>eqDa d e
 | _,_=>true
theorem eqDas_bits:∀ds es:List Da,eqDas ds es=((List.range (min ds.length es.length)).all (bitDa ds es) && ds.length==es.length)
 | [],[]=>rfl
 | [],_::_=>by simp [eqDas]
 | _::_,[]=>by simp [eqDas]
 | d::ds,e::es=>by
  have ih:=eqDas_bits ds es
  have r:min (d::ds).length (e::es).length=min ds.length es.length+1:=by simp [Nat.succ_min_succ]
  rw [r,List.range_succ_eq_map,List.all_cons,List.all_map]
  have b0:bitDa (d::ds) (e::es) 0=eqDa d e:=rfl
  have b1:(bitDa (d::ds) (e::es) ∘ Nat.succ)=bitDa ds es:=by
   funext j
   rfl
  have l1:((d::ds).length==(e::es).length)=(ds.length==es.length):=by simp
  rw [b0,b1,l1,Bool.and_assoc, ← ih]
  rfl
section
variable {X:Cx}{pins:List (Addr×Obj)}{σ:L2.St}{H:Hp}{s:Shared}
theorem eqV_refl {x:V}(h:flatV x=true):eqV x x=true:=by
 cases x <;> first | rfl | (simp [eqV];done) | (cases h;done)
mutual
theorem is_same (I:Inv X pins σ H s):∀(d e:Da) (x:V),Is X.K H d x→Is X.K H e x→alike d e=true→eqDa d e=true
 | .v a,.v b,x,h1,h2,_=>by
  unfold Is at h1 h2
  obtain ⟨rfl,f⟩:=h1
  obtain ⟨rfl,_⟩:=h2
  unfold eqDa
  exact eqV_refl f
 | .t ds,.t es,x,h1,h2,a=>by
  unfold Is at h1 h2
  obtain ⟨p,xs,rfl,q1,k1⟩:=h1
  obtain ⟨p',ys,e',q2,k2⟩:=h2
  cases e'
  cases I.tuple_inj q1 q2
  unfold eqDa
  unfold alike at a
  exact iss_same I ds es xs k1 k2 a
 | .l ds,.l es,x,h1,h2,a=>by
  unfold Is at h1 h2
  obtain ⟨p,xs,rfl,q1,k1⟩:=h1
  obtain ⟨p',ys,e',q2,k2⟩:=h2
  cases e'
  cases I.list_inj q1 q2
  unfold eqDa
  unfold alike at a
  exact iss_same I ds es xs k1 k2 a
 | .v _,.t _,_,_,_,a=>by unfold alike at a;cases a
 | .v _,.l _,_,_,_,a=>by unfold alike at a;cases a
 | .t _,.v _,_,_,_,a=>by unfold alike at a;cases a
 | .t _,.l _,_,_,_,a=>by unfold alike at a;cases a
 | .l _,.v _,_,_,_,a=>by unfold alike at a;cases a
 | .l _,.t _,_,_,_,a=>by unfold alike at a;cases a
theorem iss_same (I:Inv X pins σ H s):∀(ds es:List Da) (xs:List V),Iss X.K H ds xs→Iss X.K H es xs→alikes ds es=true→eqDas ds es=true
 | [],[],_,_,_,_=>by unfold eqDas;rfl
 | d::ds,e::es,x::xs,h1,h2,a=>by
  unfold Iss at h1 h2
  unfold alikes at a
  rw [Bool.and_eq_true] at a
  unfold eqDas
  rw [is_same I d e x h1.1 h2.1 a.1,iss_same I ds es xs h1.2 h2.2 a.2]
  rfl
 | [],_::_,[],_,h2,_=>by unfold Iss at h2;exact h2.elim
 | [],_::_,_::_,h1,_,_=>by unfold Iss at h1;exact h1.elim
 | _::_,[],[],h1,_,_=>by unfold Iss at h1;exact h1.elim
 | _::_,[],_::_,_,h2,_=>by unfold Iss at h2;exact h2.elim
 | _::_,_::_,[],h1,_,_=>by unfold Iss at h1;exact h1.elim
end
theorem in1_units (A:Around):A.in1.units=A.units+1:=rfl
mutual
theorem eqAt_da (I:Inv X pins σ H s):∀(d e:Da) (x y:V) (u w:Value) (A:Around),Is X.K H d x→Is X.K H e y→alike d e=true→RelV x u→RelV y w→A.units+dep d < cLine→SeqAt.EqAt A s u w (eqDa d e)
 | .v a,.v b,x,y,u,w,A,h1,h2,_,r1,r2,_=>by
  unfold Is at h1 h2
  obtain ⟨rfl,f1⟩:=h1
  obtain ⟨rfl,f2⟩:=h2
  unfold eqDa
  exact eqAt_V r1 r2 f1 f2
 | .t ds,.t es,x,y,u,w,A,h1,h2,a,r1,r2,hu=>by
  have h1' :=h1
  have h2' :=h2
  unfold Is at h1 h2
  obtain ⟨p,xs,rfl,q1,k1⟩:=h1
  obtain ⟨p',ys,rfl,q2,k2⟩:=h2
  cases r1
  cases r2
  by_cases e:p=p'
  ·subst e
   rw [is_same I _ _ _ h1' h2' a]
   exact .same _
  ·refine .of_refs e ?_
   obtain ⟨its,v1,t1,_⟩:=I.tuple q1
   obtain ⟨its2,v2,t2,_⟩:=I.tuple q2
   unfold eqDa
   rw [eqDas_bits,k1.length,k2.length,v1.length,v2.length]
   have z:=SeqAt.RcAt.tuples (A:=A) (e:=bitDa ds es) t1 t2 (by unfold dep at hu;omega) fun j g1 g2=>by
    unfold dep at hu
    unfold alike at a
    exact eqAt_das I ds es xs ys its its2 A.in1 k1 k2 a v1 v2 (by rw [in1_units];omega) j (by simpa using g1) (by simpa using g2)
   simpa using z
 | .l ds,.l es,x,y,u,w,A,h1,h2,a,r1,r2,hu=>by
  have h1' :=h1
  have h2' :=h2
  unfold Is at h1 h2
  obtain ⟨p,xs,rfl,q1,k1⟩:=h1
  obtain ⟨p',ys,rfl,q2,k2⟩:=h2
  cases r1
  cases r2
  by_cases e:p=p'
  ·subst e
   rw [is_same I _ _ _ h1' h2' a]
   exact .same _
  ·refine .of_refs e ?_
   obtain ⟨its,v1,t1,_⟩:=I.list q1
   obtain ⟨its2,v2,t2,_⟩:=I.list q2
   unfold eqDa
   unfold dep at hu
   unfold alike at a
   by_cases el:its.length=its2.length
   ·rw [eqDas_bits,k1.length,k2.length,v1.length,v2.length]
    have z:=SeqAt.RcAt.lists (A:=A) (e:=bitDa ds es) t1.isList t2.isList (by simpa using el) (by omega) fun j g1 g2=>
     eqAt_das I ds es xs ys its its2 A.in1 k1 k2 a v1 v2 (by rw [in1_units];omega) j (by simpa using g1) (by simpa using g2)
    rw [el,Nat.min_self,beq_self_eq_true,Bool.and_true]
    rw [List.size_toArray,el] at z
    exact z
   ·have ne:eqDas ds es=false:=by
     rw [eqDas_bits,k1.length,k2.length,v1.length,v2.length,beq_eq_false_iff_ne.mpr el,Bool.and_false]
    rw [ne]
    exact SeqAt.RcAt.lists_lengths t1.isList t2.isList (by simpa using el) (by omega)
 | .v _,.t _,_,_,_,_,_,_,_,a,_,_,_=>by unfold alike at a;cases a
 | .v _,.l _,_,_,_,_,_,_,_,a,_,_,_=>by unfold alike at a;cases a
 | .t _,.v _,_,_,_,_,_,_,_,a,_,_,_=>by unfold alike at a;cases a
 | .t _,.l _,_,_,_,_,_,_,_,a,_,_,_=>by unfold alike at a;cases a
 | .l _,.v _,_,_,_,_,_,_,_,a,_,_,_=>by unfold alike at a;cases a
 | .l _,.t _,_,_,_,_,_,_,_,a,_,_,_=>by unfold alike at a;cases a
theorem eqAt_das (I:Inv X pins σ H s):∀(ds es:List Da) (xs ys:List V) (us ws:List Value) (A:Around),Iss X.K H ds xs→Iss X.K H es ys→alikes ds es=true→Vals xs us→Vals ys ws→A.units+deps ds < cLine→
  ∀(j:Nat) (h1:j < us.length) (h2:j < ws.length),SeqAt.EqAt A s us[j] ws[j] (bitDa ds es j)
 | d::ds,e::es,x::xs,y::ys,u::us,w::ws,A,k1,k2,a,.cons r1 v1,.cons r2 v2,hu,0,_,_=>by
  unfold Iss at k1 k2
  unfold alikes at a
  rw [Bool.and_eq_true] at a
  unfold deps at hu
  exact eqAt_da I d e x y u w A k1.1 k2.1 a.1 r1 r2 (by omega)
 | d::ds,e::es,x::xs,y::ys,u::us,w::ws,A,k1,k2,a,.cons r1 v1,.cons r2 v2,hu,j+1,h1,h2=>by
  unfold Iss at k1 k2
  unfold alikes at a
  rw [Bool.and_eq_true] at a
  unfold deps at hu
  exact eqAt_das I ds es xs ys us ws A k1.2 k2.2 a.2 v1 v2 (by omega) j (by simpa using h1) (by simpa using h2)
 | [],_,[],_,_,_,_,_,_,_,.nil,_,_,_,h1,_=>absurd h1 (Nat.not_lt_zero _)
 | _,[],_,[],_,_,_,_,_,_,_,.nil,_,_,_,h2=>absurd h2 (Nat.not_lt_zero _)
 | [],_,_::_,_,_,_,_,k1,_,_,_,_,_,_,_,_=>by unfold Iss at k1;exact k1.elim
 | _::_,_,[],_,_,_,_,k1,_,_,_,_,_,_,_,_=>by unfold Iss at k1;exact k1.elim
 | _,[],_,_::_,_,_,_,_,k2,_,_,_,_,_,_,_=>by unfold Iss at k2;exact k2.elim
 | _,_::_,_,[],_,_,_,_,k2,_,_,_,_,_,_,_=>by unfold Iss at k2;exact k2.elim
end
end
section
variable {X:Cx}
inductive rEqDa (K:Frag)(x:V)(y:V)(H:Hp)(Q:VK):Prop where
 | mk (ds es:_) (_:((Is K H (.t ds) x∧Is K H (.t es) y)∨(Is K H (.l ds) x∧Is K H (.l es) y))) (_:alikes ds es=true) (_:deps ds≤60) (_:Q (.bl (eqDas ds es)) H):rEqDa K x y H Q
inductive rNeDa (K:Frag)(x:V)(y:V)(H:Hp)(Q:VK):Prop where
 | mk (ds es:_) (_:((Is K H (.t ds) x∧Is K H (.t es) y)∨(Is K H (.l ds) x∧Is K H (.l es) y))) (_:alikes ds es=true) (_:deps ds≤60) (_:Q (.bl (!eqDas ds es)) H):rNeDa K x y H Q
theorem op_eqDa (hu:X.A.units+64 < cLine):OpR X (compareOp .Eq) (rEqDa X.K):=by
 intro pins s σ H x y v u Q I rx ry h
 obtain ⟨ds,es,h,a,hd,q⟩:=h
 rcases h with ⟨h1,h2⟩ | ⟨h1,h2⟩
 ·unfold Is at h1 h2
  obtain ⟨p,xs,rfl,q1,k1⟩:=h1
  obtain ⟨p',ys,rfl,q2,k2⟩:=h2
  cases rx
  cases ry
  obtain ⟨its,v1,t1,_⟩:=I.tuple q1
  obtain ⟨its2,v2,t2,_⟩:=I.tuple q2
  have z:=SeqAt.RcAt.tuples (A:=X.A) (e:=bitDa ds es) t1 t2 (by omega) fun j g1 g2=>
   eqAt_das I ds es xs ys its its2 X.A.in1 k1 k2 a v1 v2 (by rw [in1_units];omega) j (by simpa using g1) (by simpa using g2)
  refine z X.prog X.w X.xe _ ⟨.bl _,H,I,rfl,?_⟩
  have e:=eqDas_bits ds es
  rw [k1.length,k2.length,v1.length,v2.length] at e
  simpa [e] using q
 ·unfold Is at h1 h2
  obtain ⟨p,xs,rfl,q1,k1⟩:=h1
  obtain ⟨p',ys,rfl,q2,k2⟩:=h2
  cases rx
  cases ry
  obtain ⟨its,v1,t1,_⟩:=I.list q1
  obtain ⟨its2,v2,t2,_⟩:=I.list q2
  have e:=eqDas_bits ds es
  rw [k1.length,k2.length,v1.length,v2.length] at e
  by_cases el:its.length=its2.length
  ·have z:=SeqAt.RcAt.lists (A:=X.A) (e:=bitDa ds es) t1.isList t2.isList (by simpa using el) (by omega) fun j g1 g2=>
    eqAt_das I ds es xs ys its its2 X.A.in1 k1 k2 a v1 v2 (by rw [in1_units];omega) j (by simpa using g1) (by simpa using g2)
   refine z X.prog X.w X.xe _ ⟨.bl _,H,I,rfl,?_⟩
   rw [el,Nat.min_self,beq_self_eq_true,Bool.and_true] at e
   simpa [e,el] using q
  ·have ne:eqDas ds es=false:=by rw [e,beq_eq_false_iff_ne.mpr el,Bool.and_false]
   rw [ne] at q
   exact SeqAt.RcAt.lists_lengths t1.isList t2.isList (by simpa using el) (by omega) X.prog X.w X.xe _ ⟨.bl _,H,I,rfl,q⟩
theorem op_neDa (hu:X.A.units+64 < cLine):OpR X (compareOp .NotEq) (rNeDa X.K):=by
 intro pins s σ H x y v u Q I rx ry h
 obtain ⟨ds,es,h,a,hd,q⟩:=h
 rcases h with ⟨h1,h2⟩ | ⟨h1,h2⟩
 ·unfold Is at h1 h2
  obtain ⟨p,xs,rfl,q1,k1⟩:=h1
  obtain ⟨p',ys,rfl,q2,k2⟩:=h2
  cases rx
  cases ry
  obtain ⟨its,v1,t1,_⟩:=I.tuple q1
  obtain ⟨its2,v2,t2,_⟩:=I.tuple q2
  have z:=SeqAt.RcNeAt.tuples (A:=X.A) (e:=bitDa ds es) t1 t2 (by omega) fun j g1 g2=>
   eqAt_das I ds es xs ys its its2 X.A.in1 k1 k2 a v1 v2 (by rw [in1_units];omega) j (by simpa using g1) (by simpa using g2)
  refine z X.prog X.w X.xe _ ⟨.bl _,H,I,rfl,?_⟩
  have e:=eqDas_bits ds es
  rw [k1.length,k2.length,v1.length,v2.length] at e
  simpa [e] using q
 ·unfold Is at h1 h2
  obtain ⟨p,xs,rfl,q1,k1⟩:=h1
  obtain ⟨p',ys,rfl,q2,k2⟩:=h2
  cases rx
  cases ry
  obtain ⟨its,v1,t1,_⟩:=I.list q1
  obtain ⟨its2,v2,t2,_⟩:=I.list q2
  have e:=eqDas_bits ds es
  rw [k1.length,k2.length,v1.length,v2.length] at e
  by_cases el:its.length=its2.length
  ·have z:=SeqAt.RcNeAt.lists (A:=X.A) (e:=bitDa ds es) t1.isList t2.isList (by simpa using el) (by omega) fun j g1 g2=>
    eqAt_das I ds es xs ys its its2 X.A.in1 k1 k2 a v1 v2 (by rw [in1_units];omega) j (by simpa using g1) (by simpa using g2)
   refine z X.prog X.w X.xe _ ⟨.bl _,H,I,rfl,?_⟩
   rw [el,Nat.min_self,beq_self_eq_true,Bool.and_true] at e
   simpa [e,el] using q
  ·have ne:eqDas ds es=false:=by rw [e,beq_eq_false_iff_ne.mpr el,Bool.and_false]
   rw [ne] at q
   exact SeqAt.RcNeAt.lists_lengths t1.isList t2.isList (by simpa using el) (by omega) X.prog X.w X.xe _ ⟨.bl _,H,I,rfl,q⟩
def clsV:V→Value
 | .ty n=>.type n
 | .ref a=>.ref a
 | _=>.none
def isCls:V→Bool
 | .ty _=>true
 | .ref _=>true
 | _=>false
theorem cls_rel {c:V}{u:Value}(h:isCls c=true)(r:RelV c u):u=clsV c:=by
 cases c <;> first | exact r | (cases h;done)
end
section
variable {K:Frag}
end
theorem b_len:bootBuiltins "len"=some (.builtin "len"):=by decide+kernel
theorem b_abs:bootBuiltins "abs"=some (.builtin "abs"):=by decide+kernel
theorem b_isinstance:bootBuiltins "isinstance"=some (.builtin "isinstance"):=by decide+kernel
theorem b_str:bootBuiltins "str"=some (.type "str"):=by decide+kernel
theorem b_list:bootBuiltins "list"=some (.type "list"):=by decide+kernel
theorem b_tuple:bootBuiltins "tuple"=some (.type "tuple"):=by decide+kernel
theorem b_dict:bootBuiltins "dict"=some (.type "dict"):=by decide+kernel
theorem b_ValueError:bootBuiltins "ValueError"=some (.type "ValueError"):=by decide+kernel
theorem pe_ty {X:Cx}{x:Str}{n:String}{pos:Pos}(hg:Gl X x)(hm:X.mg x=none)(hv:bootBuiltins x=some (.type n))(hn:x≠ "__name__":=by decide)(hd:(x==("__debug__":Str))=false:=by decide):PE X (.Name x pos) (tC (.ty n)):=pe_bltn (v:=.ty n) hg hm hv rfl hn hd
def CMod (_ j:Int):Prop:=j≠0
theorem nz {i j:Int}(h:j≠0):CMod i j:=h
theorem op_modB {X:Cx}:OpR X (binaryOp .Mod) (rI CMod fun i j=>.int (i.fmod j)):=op_modN
end Ty
set_option maxHeartbeats 4000000
namespace TyAtt
open PySem PySem.W PySem.Calls PyProof.Rows
open Builtin.Int (intBits)
theorem bits_item {ns:List Int}{n:Int}(h:(WData.list (ns.map WData.int)).layable=true)(hn:n∈ns):intBits n≤1048576:=by
 obtain ⟨_,_,hw⟩:=layableW_iff.mp h
 have a:∀(l:List Int),n∈l→intBits n≤WData.weightAll (l.map WData.int):=by
  intro l
  induction l with
  | nil=>intro q;cases q
  | cons y r ih=>
   intro q
   rw [List.map_cons]
   unfold WData.weightAll
   rcases List.mem_cons.mp q with z | z
   ·subst z
    have:intBits n≤WData.weight (.int n):=by
     unfold WData.weight
     exact Nat.le_refl _
    omega
   ·have:=ih z
    omega
 have b:=a ns hn
 unfold WData.weight at hw
 omega
theorem attach_bits {l:OpenLaw}{n:Nat}{q:Program}{loose:List Str}{XP:(Str→Option Value)→Heap→Prop}{YP:World→Heap→Prop}{d:DefRec}
  (hn:l.most=some n) (hdf:d.params.defaults=[])
  (call:∀(w:World) (s₀ s₁:Shared) (mg mb:Str→Option Value) (fa:Addr) (o:Obj) (pm cd doc:Value) (a:Addr) (vs:List Value) (ns:List Int),
   Ground q loose [] XP w s₀ mg mb s₁.heap→YP w s₁.heap→
   s₁.heap.get? fa=some o→o.data=.func (docDef d.name d.params d.body d.scope pm cd doc)→s₁.heap.CodeRec cd d.name→mg d.name=some (.ref fa)→
   s₁.heap.get? a=some {cls:=.type "list",data:=.seq vs.toArray}→IntsAre vs ns→ns.length≤n→(∀i∈ns,intBits i≤1048576)→s₁.gens= #[]→
   codeAny (model l.prog w) callerA (.call (.ref fa) ⟨[.ref a],[]⟩) (fun r s' =>r=.ok (.ret (.bool true))∧OldK s₁.heap s'.heap∧s'.os=s₁.os∧AllBare s'.gens) s₁):
  WalkO q loose XP YP l.row.toRowW d [] (fun f vs=>PySem.call f vs):=by
 intro w s₀ s₁ mg mb G Y fa o pm cd doc dV kV ho hd hcd hD hmg hg args vals as hpre hlay hrd hwl hlo
 obtain rfl:dV=.none:=Dflts.none hD hdf
 obtain rfl:kV=.none:=Dflts.noKw hD
 obtain ⟨a,vs,ns,rfl,rfl,hobj,hints,hlen⟩:=Att.script_of hn hpre hwl
 have hb:∀i∈ns,intBits i≤1048576:=fun i hi=>bits_item (layW_cons hlay).1 hi
 refine enter_call (codeAny_mono (call w s₀ s₁ mg mb fa o pm cd doc a vs ns G Y ho (fd_plain hd) hcd hmg hobj hints hlen hb hg) fun r s' hq=> ?_)
 obtain ⟨rfl,h2,h3,h4⟩:=hq
 exact ⟨.inl ⟨.bool true,.bool true,[],rfl,fun _=>rfl,.bool true,Att.post_true l _,fun _=>⟨List.Pairwise.nil,fun _ hm=>(nomatch hm)⟩⟩,h2,h3,h4⟩
end TyAtt
namespace Ty
open PySem PySem.Spec PyProof.Rows L2
open Builtin.Int (intBits)
structure Fn (P:Program)(w:World)(K:Frag)(mg:Str→Option Value)(base:Heap)(CX:CXT)(k:Nat)(x:Str)(ps:List Str)(sp:Sp):Prop where
 ex:∃(f:Addr) (fd:FuncData),FnOk P w K mg base CX k f fd ps sp∧Binds K fd ps []∧mg x=some (.ref f)∧keepIn K (.ref f)=true
structure Def (K:Frag)(mg:Str→Option Value)(x:Str)(st:Stmt)(ps:List Str):Prop where
 ex:∃(f:Addr) (dV oc:Value) (od:Option Addr) (kV doc pm:Value) (an:Option Addr) (cdv ct:Value) (osl:Array (Option Value)),
  K.lookup f=some ⟨oc,od,.func (fnOf x x (defArgs st) (defBody st) (defScope st) dV kV doc pm an cdv ct),osl⟩∧codeIn K cdv x=true∧keepIn K (.ref f)=true∧
  Binds K (fnOf x x (defArgs st) (defBody st) (defScope st) dV kV doc pm an cdv ct) ps []∧mg x=some (.ref f)
theorem Def.of {K:Frag}{mg:Str→Option Value}{x:Str}{st:Stmt}{ps:List Str}{f:Addr}{fd:FuncData}(F:Fun K x x st f fd)(b:Binds K fd ps [])(m:mg x=some (.ref f)):Def K mg x st ps:=by
 obtain ⟨oc,od,kV,doc,pm,an,cdv,ct,osl,rfl,lk,hcd⟩:=F.ex
 exact ⟨f,.none,oc,od,kV,doc,pm,an,cdv,ct,osl,lk,hcd,F.kp,b,m⟩
section
variable {P:Program}{w:World}{K:Frag}{mg:Str→Option Value}{base:Heap}{CX:CXT}
theorem Def.ok {x:Str}{st:Stmt}{N ps:List Str}{k:Nat}{sp:Sp}(D:Def K mg x st ps)(S:FnScope N ps (defScope st))(len:∀vs H Q E,sp vs H Q E→vs.length=ps.length)
  (hbody:∀(f:Addr) (cdv:Value) (A:Around) (outer:List Env) (s:Shared) (H:Hp) (vs:List V) (Q:VK) (E:XK),Room k (A.deeper (envOfC x (defScope st) s.heap.objs.size f cdv))→sp vs H Q E→
   ∃t,PSs (cxOf CX P w K mg base N x (defScope st) f cdv A outer s H E).nox (defBody st) t∧t {nx:=fun _ H' =>Q .non H',rt:=Q} (start N vs) H):Fn P w K mg base CX (k+1) x ps sp:=by
 obtain ⟨f,dV,oc,od,kV,doc,pm,an,cdv,ct,osl,lk,hcd,kp,b,m⟩:=D.ex
 refine ⟨f,_,fn_of lk hcd S len fun A outer s H vs Q E hr hsp=> ?_,b,m,kp⟩
 obtain ⟨t,h,q⟩:=hbody f cdv A outer s H vs Q E hr hsp
 exact ⟨t,h.nox,q⟩
theorem _root_.L2.Fun.okG {x:Str}{st:Stmt}{f:Addr}{fd:FuncData}{N ps:List Str}{k:Nat}{sp:Sp}(F:Fun K x x st f fd)(S:FnScope N ps (defScope st))(len:∀vs H Q E,sp vs H Q E→vs.length=ps.length)
  (hbody:∀(cdv:Value) (A:Around) (outer:List Env) (s:Shared) (H:Hp) (vs:List V) (Q:VK) (E:XK),Room k (A.deeper (envOfC x (defScope st) s.heap.objs.size f cdv))→sp vs H Q E→
   ∃t,PSs (cxOf CX P w K mg base N x (defScope st) f cdv A outer s H E).nox (defBody st) t∧t {nx:=fun _ H' =>Q .non H',rt:=Q} (start N vs) H):FnOk P w K mg base CX (k+1) f fd ps sp:=by
 obtain ⟨oc,od,kV,doc,pm,an,cdv,ct,osl,rfl,lk,hcd⟩:=F.ex
 refine fn_of lk hcd S len fun A outer s H vs Q E hr hsp=> ?_
 obtain ⟨t,h,q⟩:=hbody cdv A outer s H vs Q E hr hsp
 exact ⟨t,h.nox,q⟩
def Mute (CX:CXT):Prop:=∀outer H s e s',CX outer H s E0 e s' →False
theorem passM {X:Cx}(h:Mute CX):Passes CX X.nox E0:=fun _ _ _ _ _ _ _ q=>(h _ _ _ _ _ q).elim
section
variable {X:Cx}{k:Nat}{ps:List Str}{sp:Sp}{E:XK}{x:Str}{p pos:Pos}{e:Expr}{es:List Expr}{t:TA}
theorem pe_fn (F:Fn X.prog X.w X.K X.mg X.base CX k x ps sp)(hr:Room k X.A)(hx:Passes CX X E)(ha:PA X (e::es) t)(hg:Gl X x:=by rfl)(hdb:(x==("__debug__":Str))=false:=by decide)
  (he:starEach (e::es) X.env=(false,eval e X.env)::starEach es X.env:=by rfl) (hpl:(backTo pos (starEach es X.env)).any (·.1)=false:=by rfl):PE X (.Call (.Name x p) (e::es) [] pos) (tCall sp [] E t):=by
 obtain ⟨f,fd,G,b,m,kp⟩:=F.ex
 exact pe_call G hr hg m kp b .nil hx ha hdb he hpl
end
end
def spLaw (K:Frag):Sp:=fun vs H Q _=>∃(a:Addr) (ns:List Int),vs=[.ref a]∧SqL K H a (ns.map V.int)∧ns.length≤63∧(∀i∈ns,intBits i≤1048576)∧∀H',Q (.bl true) H'
theorem walk {l:PySem.W.OpenLaw}{q:Program}{loose:List Str}{XP:(Str→Option Value)→Heap→Prop}{YP:World→Heap→Prop}{d:DefRec}{K:Params→Frag}{CX:World→CXT}{x:Str}{k:Nat}
  (hn:l.most=some 63) (hdf:d.params.defaults=[]) (hi:importsNone q=true) (hr:Room k callerA)
  (hY:∀(w:World) (h:Heap),YP w h→(K w.params).In h) (hm:∀w,Mute (CX w))
  (F:∀(w:World) (mg:Str→Option Value) (fa:Addr) (h:Heap),(K w.params).In h→h.Ns mainGlobals mg→mg d.name=some (.ref fa)→
   ∃fd:FuncData,(∀(s:Shared) (u:Value),BindsTo s fd ⟨[u],[]⟩ [(x,u)])∧
    ∀base:Heap,(K w.params).In base→base.Ns mainGlobals mg→FnOk l.prog w (K w.params) mg base (CX w) k fa fd [x] (spLaw (K w.params))):
  PySem.W.WalkO q loose XP YP l.row.toRowW d [] (fun f vs=>PySem.call f vs):=by
 refine TyAtt.attach_bits hn hdf fun w s₀ s₁ mg mb fa o pm cd doc a vs ns G Y ho hd hcd hmg hobj hints hlen hb hg=> ?_
 have KX:=hY w _ Y
 obtain ⟨fd,hbd,hF⟩:=F w mg fa _ KX G.T.g hmg
 exact law_call KX G.T.g G.T.b G.T.builtins G.T.nolimit (G.T.seer hi) hg hobj hints (Nat.le_trans hlen (by decide)) hr hF hbd (fun H hO hS=>⟨a,ns,rfl,hS,hlen,hb,fun _=>rfl⟩) fun H e s' =>hm w [] H s₁ e s'
end Ty
set_option maxHeartbeats 4000000
namespace Ty
open PySem PySem.Spec PyProof.Rows
def KD (h h' :Heap):Prop:=∀b o,h.get? b=some o→∃o',h'.get? b=some o' ∧o'.dict=o.dict
theorem KD.refl {h:Heap}:KD h h:=fun b o e=>⟨o,e,rfl⟩
theorem KD.trans {h1 h2 h3:Heap}(a:KD h1 h2)(b:KD h2 h3):KD h1 h3:=fun c o e=>by
 obtain ⟨o1,e1,d1⟩:=a c o e
 obtain ⟨o2,e2,d2⟩:=b c o1 e1
 exact ⟨o2,e2,d2.trans d1⟩
theorem KD.keeps {h h' :Heap}(k:∀b o,h.get? b=some o→h'.get? b=some o):KD h h' :=fun b o e=>⟨o,k b o e,rfl⟩
theorem not_freed {h:Heap}{a:Addr}{o:Obj}(e:h.get? a=some o):o.isFreed=false:=by
 unfold Heap.get? at e
 split at e
 ·cases e
 ·rename_i o' hn
  unfold Obj.isFreed
  split
  ·rename_i c d sl
   exact absurd e (hn c d sl)
  ·rfl
theorem KD.update {h:Heap}{a:Addr}{f:Obj→Obj}(hf:∀o,(f o).dict=o.dict∧(f o).isFreed=o.isFreed):KD h (h.update a f):=fun b o e=>by
 by_cases c:b=a
 ·subst c
  exact ⟨f o,Heap.get?_update_self f e ((hf o).2.trans (not_freed e)),(hf o).1⟩
 ·exact ⟨o,(Heap.get?_update_other h f (fun z=>c z.symm)).trans e,rfl⟩
def Kp {α:Type}:Sem α→Prop
 | .pure _=>True
 | .raise _=>True
 | .unsupported _=>True
 | .finish _=>True
 | .rule _ k=>Kp (k ())
 | .at _ k=>Kp (k ())
 | .load _ _ k=>∀o,Kp (k o)
 | .update _ _ f k=>(∀o,(f o).dict=o.dict∧(f o).isFreed=o.isFreed)∧Kp (k ())
 | .alloc _ k=>∀a,Kp (k a)
 | .loadIfAlive _ k=>∀o,Kp (k o)
 | .point _ k=>Kp (k ())
 | .fresh k=>∀t,Kp (k t)
 | .ask k=>∀t,Kp (k t)
 | .handled _ k=>∀t,Kp (k t)
 | .stack k=>∀t,Kp (k t)
 | .thread k=>∀t,Kp (k t)
 | _=>False
theorem Kp.bind {α β:Type}:∀{m:Sem α} {f:α→Sem β},Kp m→(∀a,Kp (f a))→Kp (m.bind f):=by
 intro m f
 induction m with
 | pure a=>exact fun _ h=>h a
 | raise e=>exact fun _ _=>trivial
 | unsupported w=>exact fun _ _=>trivial
 | finish e=>exact fun _ _=>trivial
 | rule t k ih=>exact fun h hf=>ih () h hf
 | «at» p k ih=>exact fun h hf=>ih () h hf
 | load a p k ih=>exact fun h hf o=>ih o (h o) hf
 | update a p g k ih=>exact fun h hf=>⟨h.1,ih () h.2 hf⟩
 | alloc o k ih=>exact fun h hf a=>ih a (h a) hf
 | loadIfAlive a k ih=>exact fun h hf o=>ih o (h o) hf
 | point l k ih=>exact fun h hf=>ih () h hf
 | fresh k ih=>exact fun h hf o=>ih o (h o) hf
 | ask k ih=>exact fun h hf o=>ih o (h o) hf
 | handled o k ih=>exact fun h hf o=>ih o (h o) hf
 | stack k ih=>exact fun h hf o=>ih o (h o) hf
 | thread k ih=>exact fun h hf o=>ih o (h o) hf
 | _=>exact fun h=>h.elim
theorem Kp.wp {α:Type}{M:Model}{Γ:PySem.Ctx}:∀{t:Sem α} {P:α→Pos→Shared→Prop} {E:Value→Pos→Shared→Prop} {p:Pos} {s:Shared} {h0:Heap},Kp t→KD h0 s.heap→Sem.wp M Γ t P E p s→Sem.wp M Γ t (fun a p' s' =>P a p' s' ∧KD h0 s'.heap) E p s:=by
 intro t
 induction t with
 | pure a=>exact fun _ kd h=>⟨h,kd⟩
 | raise e=>exact fun _ _ h=>h
 | unsupported w=>exact fun _ _ h=>h
 | finish e=>exact fun _ _ h=>h
 | rule t k ih=>exact fun hk kd h=>ih () hk kd h
 | «at» p k ih=>exact fun hk kd h=>ih () hk kd h
 | load a p k ih=>exact fun hk kd h=>by obtain ⟨o,e,h⟩:=h;exact ⟨o,e,ih o (hk o) kd h⟩
 | update a p g k ih=>exact fun hk kd h=>⟨h.1,ih () hk.2 (kd.trans (KD.update hk.1)) h.2⟩
 | alloc o k ih=>exact fun hk kd h=>ih _ (hk _) (kd.trans (KD.keeps fun b o e=>Heap.get?_push_of_some _ e)) h
 | loadIfAlive a k ih=>exact fun hk kd h=>ih _ (hk _) kd h
 | point l k ih=>exact fun hk kd h=>ih () hk kd h
 | fresh k ih=>exact fun hk kd h=>ih _ (hk _) kd h
 | ask k ih=>exact fun hk kd h=>ih _ (hk _) kd h
 | handled o k ih=>exact fun hk kd h=>ih _ (hk _) kd h
 | stack k ih=>exact fun hk kd h=>ih _ (hk _) kd h
 | thread k ih=>exact fun hk kd h=>ih _ (hk _) kd h
 | _=>exact fun hk=>hk.elim
theorem Kp.any {α:Type}{M:Model}{A:Around}{t:Sem α}{Q:α→Shared→Prop}{E:Value→Shared→Prop}{s:Shared}(k:Kp t)(h:wpAny M A t Q E s):wpAny M A t (fun a s' =>Q a s' ∧KD s.heap s'.heap) E s:=
 fun Γ p hΓ=>Kp.wp k KD.refl (h Γ p hΓ)
theorem kp_pure {α:Type}{a:α}:Kp (pure a:Sem α):=trivial
theorem kp_un {α:Type}{w:String}:Kp (unsupported w:Sem α):=trivial
theorem kp_bind {α β:Type}{m:Sem α}{f:α→Sem β}(h:Kp m)(hf:∀a,Kp (f a)):Kp (m >>=f):=Kp.bind h hf
theorem kp_ite {α:Type}{c:Prop}[Decidable c]{a b:Sem α}(h1:Kp a)(h2:Kp b):Kp (if c then a else b):=by
 split
 ·exact h1
 ·exact h2
theorem kp_load {a:Addr}:Kp (load a):=fun _=>trivial
theorem kp_stack:Kp stack:=fun _=>trivial
theorem kp_setField {e x:Value}{i:Nat}:Kp (setField e i x):=by
 unfold setField
 split
 ·unfold updateField
  refine kp_bind kp_load fun o=> ?_
  split
  ·refine kp_ite ⟨fun o=> ?_,trivial⟩ kp_un
   unfold Obj.mapFields
   split <;> exact ⟨rfl,rfl⟩
  ·exact kp_un
 ·exact kp_un
theorem kp_field {e:Value}{i:Nat}:Kp (field e i):=by
 unfold field
 refine kp_bind ?_ fun vs=> ?_
 ·unfold fieldsOf
  split
  ·refine kp_bind kp_load fun o=> ?_
   split
   ·exact kp_pure
   ·exact kp_un
  ·exact kp_un
 ·split
  ·exact kp_pure
  ·exact kp_un
theorem kp_setFlight {e:Value}{f:Option Addr}:Kp (setFlight e f):=by
 unfold setFlight
 exact kp_bind kp_field fun tb=>kp_ite kp_setField kp_pure
theorem kp_behind {env:Env}{outer:List Env}:Kp (behindIsImport env outer):=by
 unfold behindIsImport
 exact kp_ite kp_pure (kp_ite kp_pure (kp_bind kp_field fun _=>kp_pure))
theorem kp_keptBack {env:Env}{b:Bool}{outer:List Env}:Kp (keptBack env b outer):=by
 unfold keptBack
 split
 ·refine kp_ite kp_pure (kp_bind ?_ fun _=>kp_pure)
  unfold underTheClaimsCaller
  exact kp_bind kp_stack fun _=>kp_pure
 ·exact kp_pure
theorem kp_readyFrames:∀l:List Env,Kp (readyFrames l)
 | []=>trivial
 | env::outer=>by
  rw [readyFrames.eq_2]
  split
  ·refine kp_bind kp_load fun o=>kp_ite kp_pure (kp_bind kp_behind fun _=>kp_bind kp_keptBack fun _=>kp_bind ⟨fun o=>⟨rfl,?_⟩,trivial⟩ fun _=>kp_readyFrames outer)
   obtain ⟨c,d,dt,sl⟩:=o
   cases dt <;> rfl
  ·exact kp_un
theorem kp_frameOf {env:Env}:Kp (PySem.frameOf env):=by
 unfold PySem.frameOf
 refine kp_bind ?_ fun l=>kp_bind ?_ fun o=> ?_
 ·unfold frameEnvs
  exact kp_bind kp_stack fun _=>kp_pure
 ·unfold frameObject
  split
  ·exact kp_pure
  ·exact kp_bind (kp_readyFrames _) fun _=>kp_pure
 ·split
  ·exact kp_pure
  ·exact kp_un
theorem kp_entryPlaceOf {f:Addr}{b:Bool}:Kp (entryPlaceOf f b):=by
 unfold entryPlaceOf
 refine kp_bind kp_stack fun a=> ?_
 dsimp only
 split <;> exact kp_pure
theorem kp_newEntry {a b c d e:Value}{l:List Value}:Kp (EntryCells.newEntry a b c d e l):=by
 unfold EntryCells.newEntry newFields newObj
 dsimp only
 refine kp_ite (kp_bind kp_un fun _=> ?_) ?_
 ·exact fun _=>trivial
 ·exact fun _=>trivial
theorem kp_noteFrame {e:Value}{env:Env}:Kp (noteFrame e env):=by
 unfold noteFrame
 split
 ·refine kp_bind kp_field fun head=>kp_ite (kp_bind kp_field fun x=>kp_ite kp_pure (kp_bind kp_setField fun _=> ?_)) ?_
  ·exact kp_bind kp_frameOf fun _=>kp_bind kp_entryPlaceOf fun _=>kp_bind kp_newEntry fun _=>kp_setField
  ·exact kp_bind kp_frameOf fun _=>kp_bind kp_entryPlaceOf fun _=>kp_bind kp_newEntry fun _=>kp_setField
 ·exact kp_un
theorem kp_leaving {e:Value}{env:Env}:Kp (leaving env e):=by
 unfold leaving
 exact kp_bind kp_noteFrame fun _=>kp_setFlight
end Ty
set_option maxHeartbeats 4000000
namespace Ty
open PySem PySem.Spec PyProof.Rows L2
theorem Un.shrink {fs fs' ex:List Addr}{H H' :Hp}{h h' :Heap}(u:Un fs' ex H H' h h')(hs:∀b o,h.get? b=some o→b∈fs' →b∈fs):Un fs ex H H' h h' :=
 ⟨fun b o e n hb hx=>u.keep b o e n (fun z=>hb (hs b o e z)) hx,fun b o e n hb hx=>u.any e n hx,u.free,u.there,u.tups,u.frzs,u.tbls⟩
theorem un_land {l:List Env}{H H' :Hp}{h h1 h2 B:Heap}(u:Un (frs l) [] H H' h h1)(s1:B.StaysIn h1)(s2:B.StaysIn h2)(th:∀b o,h.get? b=some o→b∉frs l→∃o',B.get? b=some o')
  (ff:h1.FunFrames B l) (up:h1.UpToSlots h2):Un (frs l) [] H H' h h2:=by
 have inB:∀b o,h.get? b=some o→H b=none→b∉frs l→B.get? b=some o:=fun b o e n hb=>by
  obtain ⟨o',eB⟩:=th b o e hb
  have z:=u.keep b o e n hb (by simp)
  rw [s1 b o' eB] at z
  cases z
  exact eB
 refine ⟨fun b o e n hb _=>s2 b o (inB b o e n hb),fun b o e n hb _=> ?_,fun b o e n _=>u.free b o e n (by simp),fun b o e _=> ?_,u.tups,u.frzs,u.tbls⟩
 ·obtain ⟨sl,e1⟩:=u.any e n (by simp)
  obtain ⟨_,o',e2,nf⟩:=ff.mem hb
  rw [e1] at e2
  cases e2
  obtain ⟨sl',e3⟩:=up b _ e1 nf
  exact ⟨sl',e3⟩
 ·by_cases hb:b∈frs l
  ·obtain ⟨_,o',e2,nf⟩:=ff.mem hb
   obtain ⟨sl',e3⟩:=up b _ e2 nf
   exact ⟨_,e3⟩
  ·obtain ⟨o',eB⟩:=th b o e hb
   exact ⟨o',s2 b o' eB⟩
theorem hok_land {P:Program}{w:World}{H' :Hp}{h1 h2 B:Heap}(ok:HOk P w H' h1)(s1:B.StaysIn h1)(s2:B.StaysIn h2)(tr:∀b u,H' b=some u→∃o,B.get? b=some o):HOk P w H' h2:=fun b u e=>
 (ok b u e).stay (fun c v hc q=>by
  obtain ⟨o,eB⟩:∃o,B.get? c=some o:=by
   rcases hc with z | z
   ·rw [z]
    exact tr b u e
   ·exact tr c _ z
  rw [s1 c o eB] at q
  cases q
  exact s2 c _ eB) (fun _ q=>q) fun _ _ q=>q
theorem obj_some {P:Program}{w:World}{H:Hp}{h:Heap}{a:Addr}{o:HO}(x:ObjOk P w H h a o):∃ob,h.get? a=some ob:=by
 cases o with
 | lst xs=>obtain ⟨_,_,_,_,e⟩:=x;exact ⟨_,e⟩
 | tup xs=>obtain ⟨_,_,_,ob,e,_⟩:=x;exact ⟨ob,e⟩
 | dK kvs=>obtain ⟨_,_,_,_,ob,_,_,e,_⟩:=x;exact ⟨ob,e⟩
 | dT kvs=>obtain ⟨_,_,_,_,ob,_,_,e,_⟩:=x;exact ⟨ob,e⟩
 | set S n=>obtain ⟨ob,_,_,_,e,_⟩:=x;exact ⟨ob,e⟩
 | ins C dx fs=>obtain ⟨_,_,_,e,_⟩:=x;exact ⟨_,e⟩
 | own y=>exact (show ∃o,h.get? a=some o from x)
 | xd fs=>obtain ⟨_,⟨od,_,_,e,_⟩,_⟩:=x;exact ⟨od,e⟩
 | rng lo hi=>obtain ⟨_,_,_,e⟩:=x;exact ⟨_,e⟩
 | frz ob u=>exact ⟨ob,x.1⟩
 | tbl ps=>exact ⟨_,x⟩
 | met f y=>exact ⟨_,x⟩
 | ext φ=>exact x.2.1
def DictAt (h:Heap)(a:Addr)(dx:Option Addr):Prop:=∃o,h.get? a=some o∧o.dict=dx
theorem DictAt.kd {h h' :Heap}{a:Addr}{dx:Option Addr}(d:DictAt h a dx)(k:KD h h'):DictAt h' a dx:=by
 obtain ⟨o,e,d⟩:=d
 obtain ⟨o',e',d'⟩:=k a o e
 exact ⟨o',e',d'.trans d⟩
def CXr (P:Program)(w:World):CXT:=fun outer H s E e s' =>∃(a:Addr) (cls a0:Value) (dx:Option Addr) (H' :Hp) (B:Heap),
 e=.ref a∧Heap.FlyingW B outer a cls a0 s'.heap∧DictAt s'.heap a dx∧Un (frs outer) [] H H' s.heap s'.heap∧HOk P w H' s'.heap∧s'.os=s.os∧AllBare s'.gens∧
 (∀b o,s.heap.get? b=some o→b∉frs outer→∃o',B.get? b=some o')∧(∀b u,H' b=some u→∃o,B.get? b=some o)∧E cls dx H'
theorem CXr.mute {P:Program}{w:World}:Mute (CXr P w):=fun _ _ _ _ _ ⟨_,_,_,_,_,_,_,_,_,_,_,_,_,_,_,z⟩=>z
section
variable {P:Program}{w:World}{K:Frag}{mg:Str→Option Value}{base:Heap}{N:List Str}{qual:Str}{scope:Scope}{f:Addr}{cdv:Value}{A:Around}{outer:List Env}{s0:Shared}{H0:Hp}{E:XK}
abbrev cxr (P:Program)(w:World)(K:Frag)(mg:Str→Option Value)(base:Heap)(N:List Str)(qual:Str)(scope:Scope)(f:Addr)(cdv:Value)(A:Around)(outer:List Env)(s0:Shared)(H0:Hp)(E:XK):Cx:=cxOf (CXr P w) P w K mg base N qual scope f cdv A outer s0 H0 E
theorem out_of {pins:List (Addr×Obj)}{σ:L2.St}{H H' :Hp}{s s' :Shared}{a:Addr}{cls a0:Value}{dx:Option Addr}{B h2:Heap}(I:Inv (cxr P w K mg base N qual scope f cdv A outer s0 H0 E) pins σ H s)
  (fl:Heap.FlyingW B outer a cls a0 h2) (da:DictAt h2 a dx) (ff:s'.heap.FunFrames B (cxr P w K mg base N qual scope f cdv A outer s0 H0 E).stack) (st:B.StaysIn s'.heap)
  (un:Un (frs (cxr P w K mg base N qual scope f cdv A outer s0 H0 E).stack) [] H H' s.heap s'.heap) (ok:HOk P w H' s'.heap) (os:s'.os=s.os) (bare:AllBare s'.gens)
  (th:∀b o,s.heap.get? b=some o→b∉frs (cxr P w K mg base N qual scope f cdv A outer s0 H0 E).stack→∃o',B.get? b=some o') (tr:∀b u,H' b=some u→∃o,B.get? b=some o) (up:s'.heap.UpToSlots h2) (hE:E cls dx H'):
  CXr P w outer H0 s0 E (.ref a) {s' with heap:=h2}:=by
 have sh:∀b o,s0.heap.get? b=some o→b∈frs (cxr P w K mg base N qual scope f cdv A outer s0 H0 E).stack→b∈frs outer:=fun b o e hb=>by
  rcases List.mem_cons.mp (I.stkSub b hb) with z | z
  ·subst z
   exact absurd (Nat.lt_of_lt_of_le (Heap.lt_size e) I.ok.above) (Nat.lt_irrefl _)
  ·exact z
 have un2:=un_land un st fl.1 th ff up
 have ub:Un (frs (cxr P w K mg base N qual scope f cdv A outer s0 H0 E).stack) [] H0 H s0.heap s.heap:=I.base.mono (fun b hb=>by
  obtain ⟨env,he,hf⟩:=List.mem_filterMap.mp hb
  exact List.mem_filterMap.mpr ⟨env,List.mem_cons_of_mem _ he,hf⟩) fun _ z=>z
 refine ⟨a,cls,a0,dx,H',B,rfl,fl,da,Un.shrink (ub.trans un2) sh,hok_land ok st fl.1 tr,os.trans I.os,bare,fun b o e hb=> ?_,tr,hE⟩
 obtain ⟨o',e'⟩:=I.base.there b o e (fun z=>(nomatch (show b∈([]:List Addr) from z)))
 exact th b o' e' fun z=>hb (sh b o e z)
theorem pass_up:Passes (CXr P w) (cxr P w K mg base N qual scope f cdv A outer s0 H0 E) E:=fun pins σ H s e s' I q=>by
 obtain ⟨a,cls,a0,dx,H',B,rfl,fl,da,un,ok,os,bare,th,tr,hE⟩:=q
 show wpAny (model P w) (A.deeper (envOfC qual scope s0.heap.objs.size f cdv)) (leaving (envOfC qual scope s0.heap.objs.size f cdv) (.ref a)) _ _ s'
 refine wpAny_mono (Kp.any kp_leaving (wpAny_leaves_onW (outer:=outer) (Q:=fun _ s2=>∃h2,s2={s' with heap:=h2}∧B.FlyingW outer a cls a0 h2∧s'.heap.UpToSlots h2) (E:=fun _ _=>False) I.ok.frames rfl fl fun h2 fl2 up=>⟨h2,rfl,fl2,up⟩)) (fun _ s2 z=> ?_) fun _ _ z=>z.elim
 obtain ⟨⟨h2,rfl,fl2,up⟩,kd⟩:=z
 exact out_of I fl2 (da.kd kd) fl.2.2.1 fl.1 un ok os bare th tr up hE
end
end Ty
set_option maxHeartbeats 4000000
namespace Ty
open PySem PySem.Spec PyProof.Rows L2
section
variable {X:Cx}{pins:List (Addr×Obj)}{σ:L2.St}{H H' :Hp}{s:Shared}
theorem gone_ok {M:Model}{A:Around}{E:Value→Shared→Prop}{i:Nat}{x:Str}{pos:Pos}{Q:Unit→Shared→Prop}(I:Inv X pins σ H s)(hN:X.N.Nodup)(hi:X.N[i]? =some x)(hk:X.env.scope.names.lookup x=some .local)
  (h:∀s',Inv X pins (σ.set i none) H s' →Q () s'):wpAny M A (do bindName X.env x .none;unbindBehindTheSuite X.env x pos) Q E s:=by
 obtain ⟨m,hn,hl⟩:=id I.loc
 have hcls:(X.env.scope.kind==.class || (X.env.scope.kind==.module && X.env.locals !=X.env.globals))=false:=by rw [I.ok.kind];rfl
 have hiσ:i < σ.length:=by rw [I.len];exact (List.getElem?_eq_some_iff.mp hi).1
 have cne:=I.cne
 refine wpAny_nameGoes_keeps hk hn hcls fun h' v0 hn' hs=> ?_
 obtain ⟨oL,_,_,hoL,_⟩:=id hn
 have tracked:HOk X.prog X.w H h' :=fun b ob e=>by
  refine (I.hok b ob e).stay (fun c w' hc q=>(hs.2 c ?_).trans q) (fun _ q=>q) fun _ _ q=>q
  rintro rfl
  have hfree:=I.free
  rcases hc with rfl | hc
  ·rw [hfree] at e;cases e
  ·rw [hfree] at hc;cases hc
 refine h _ ⟨I.ok,I.os,I.bare,⟨fun b o e n hb hx=> ?_,fun b o e n hb hx=> ?_,I.base.free,fun b o e hx=> ?_,I.base.tups,I.base.frzs,I.base.tbls⟩,⟨_,hn',fun j y v' e1 e2 e3=> ?_⟩,fun y c e=> ?_,I.free,I.freeC,fun p hp=> ?_,tracked,by simpa using I.len⟩
 ·exact (hs.2 b (Nat.ne_of_lt (Nat.lt_of_lt_of_le (Heap.lt_size e) I.ok.above))).trans (I.base.keep b o e n hb hx)
 ·obtain ⟨sl,e1⟩:=I.base.slot b o e n hb hx
  exact ⟨sl,(hs.2 b (Nat.ne_of_lt (Nat.lt_of_lt_of_le (Heap.lt_size e) I.ok.above))).trans e1⟩
 ·obtain ⟨o',e1⟩:=I.base.there b o e hx
  exact ⟨o',(hs.2 b (Nat.ne_of_lt (Nat.lt_of_lt_of_le (Heap.lt_size e) I.ok.above))).trans e1⟩
 ·by_cases hj:j=i
  ·subst hj
   rw [List.getElem?_set_self hiσ] at e2
   cases e2
  ·rw [List.getElem?_set_ne (Ne.symm hj)] at e2
   obtain ⟨u',r',q⟩:=hl j y v' e1 e2 e3
   refine ⟨u',r',?_⟩
   rcases q with ⟨k,e⟩ | ⟨k,c,e,z⟩
   ·refine .inl ⟨k,?_⟩
    have:y≠x:=fun e=>hj (nodup_ix hN e1 (e▸hi))
    simp [this,e]
   ·exact .inr ⟨k,c,e,z.sameBut hs (cne y c e)⟩
 ·obtain ⟨w',z⟩:=I.cell y c e
  exact ⟨w',z.sameBut hs (cne y c e)⟩
 ·obtain ⟨e,n,ne,nf,d⟩:=I.pin p hp
  exact ⟨(hs.2 p.1 ne).trans e,n,ne,nf,d⟩
abbrev hnd (X:Cx)(a:Addr):Cx:={X with A:=X.A.mark (some (.ref a)),calm:=false,xe:=fun _ _=>False}
theorem hnd_ok {a:Addr}(ok:X.Ok):(hnd X a).Ok:=
 ⟨ok.mod,ok.kind,ok.glob,ok.blt,ok.above,ok.inj,ok.has,ok.cab,fun z=>(nomatch z),ok.frames,ok.stk,ok.exf,ok.bs,ok.bsz,ok.noex,ok.exfs,ok.funs,ok.frf⟩
theorem to_hnd {a:Addr}(I:Inv X pins σ H s):Inv (hnd X a) pins σ H s:=⟨hnd_ok I.ok,I.os,I.bare,I.base,I.loc,I.cell,I.free,I.freeC,I.pin,I.hok,I.len⟩
theorem of_hnd {a:Addr}(ok:X.Ok)(I:Inv (hnd X a) pins σ H s):Inv X pins σ H s:=⟨ok,I.os,I.bare,I.base,I.loc,I.cell,I.free,I.freeC,I.pin,I.hok,I.len⟩
theorem track {a:Addr}{o:HO}(I:Inv X pins σ H s)(fresh:∀ob,X.s₀.heap.get? a≠some ob)(hp:∀p∈X.pn++pins,p.1≠a)(hL:a≠X.env.locals)(hC:∀x c,X.env.cells.lookup x=some c→c≠a)(hn:H a=none)
  (new:ObjOk X.prog X.w (upd H a o) s.heap a o):Inv X pins σ (upd H a o) s:=by
 have ne:∀b u,H b=some u→b≠a:=fun b u e z=>by rw [z,hn] at e;cases e
 refine ⟨I.ok,I.os,I.bare,⟨I.base.keep,I.base.slot,fun b ob e n hx=> ?_,I.base.there,fun b xs e=> ?_,fun b ob u e=> ?_,fun b ps e=> ?_⟩,I.loc,I.cell,?_,fun x c e=> ?_,fun p h=> ?_,fun b u e=> ?_,I.len⟩
 ·rw [upd_ne (fun z=>fresh ob (by rw [← z];exact e))]
  exact I.base.free b ob e n hx
 ·have q:=I.base.tups b xs e
  rw [upd_ne (ne _ _ q)]
  exact q
 ·have q:=I.base.frzs b ob u e
  rw [upd_ne (ne _ _ q)]
  exact q
 ·obtain ⟨more,q⟩:=I.base.tbls b ps e
  exact ⟨more,by rw [upd_ne (ne _ _ q)];exact q⟩
 ·rw [upd_ne (Ne.symm hL)]
  exact I.free
 ·rw [upd_ne (hC x c e)]
  exact I.freeC x c e
 ·obtain ⟨e,n,r⟩:=I.pin p h
  exact ⟨e,by rw [upd_ne (hp p h)];exact n,r⟩
 ·by_cases z:b=a
  ·subst z
   rw [upd_same] at e
   cases e
   exact new
  ·rw [upd_ne z] at e
   exact (I.hok b u e).stay (fun _ _ _ q=>q) (fun c q=>by rw [upd_ne (ne _ _ q)];exact q) fun c xs q=>by rw [upd_ne (ne _ _ q)];exact q
def excO (cls:Value)(a:Addr)(dx:Option Addr):HO:=.ext fun h=>∃o vs,h.get? a=some o∧o.cls=cls∧o.data=.fields vs∧o.dict=dx
theorem excO_ok {P:Program}{w:World}{cls:Value}{a:Addr}{dx:Option Addr}{h:Heap}{o:Obj}{vs:Array Value}(e:h.get? a=some o)(hc:o.cls=cls)(hd:o.data=.fields vs)(hx:o.dict=dx):ObjOk P w H h a (excO cls a dx):=
 ⟨⟨o,vs,e,hc,hd,hx⟩,⟨o,e⟩,fun _ _ ⟨o',vs',q,c,d,x⟩ k=>⟨o',vs',k _ q,c,d,x⟩⟩
structure Ld (X:Cx)(pins:List (Addr×Obj))(σ:L2.St)(H:Hp)(a:Addr)(cls:Value)(dx:Option Addr)(s:Shared):Prop where
 ex:∃(H0:Hp) (s0:Shared) (a0:Value) (B:Heap),Inv X pins σ H0 s0∧Heap.FlyingW B X.stack a cls a0 s.heap∧DictAt s.heap a dx∧Un (frs X.stack) [] H0 H s0.heap s.heap∧HOk X.prog X.w H s.heap∧s.os=s0.os∧AllBare s.gens∧
  (∀b o,s0.heap.get? b=some o→b∉frs X.stack→∃o',B.get? b=some o')∧(∀b u,H b=some u→∃o,B.get? b=some o)
theorem Ld.inv {a:Addr}{cls:Value}{dx:Option Addr}(L:Ld X pins σ H a cls dx s):Inv X pins σ H s:=by
 obtain ⟨H0,s0,a0,B,I,fl,da,un,ok,os,bare,th,tr⟩:=L.ex
 exact I.call' (ch:=[]) os un ok bare fun b z=>absurd z (by simp)
theorem Ld.free {a:Addr}{cls:Value}{dx:Option Addr}(L:Ld X pins σ H a cls dx s):H a=none:=by
 obtain ⟨H0,s0,a0,B,I,fl,da,un,ok,os,bare,th,tr⟩:=L.ex
 cases q:H a with
 | none=>rfl
 | some u=>
  obtain ⟨o,e⟩:=tr a u q
  rw [fl.2.1] at e
  cases e
abbrev TH:=Value→Option Addr→Ends→L2.St→Hp→Prop
def PH (X:Cx)(hs:List ExceptHandler)(t:TH):Prop:=
 ∀(pins:List (Addr×Obj)) (s:Shared) (σ:L2.St) (H:Hp) (a:Addr) (cls:Value) (dx:Option Addr) (D:Ends),Ld X pins σ H a cls dx s→t cls dx D σ H→wpAny (model X.prog X.w) X.A (handleBy (.ref a) X.env hs) (SP X pins D) X.xe s
theorem ph_nil:PH X [] (fun _ _ _ _ _=>False):=fun _ _ _ _ _ _ _ _ _ h=>h.elim
structure ClsN (X:Cx)(c:Str)(cv:Value):Prop where
 ld:∀(a:Addr) (pins:List (Addr×Obj)) (s:Shared) (σ:L2.St) (H:Hp) (np:Pos) (Q:Value→Shared→Prop) (E:Value→Shared→Prop),Inv (hnd X a) pins σ H s→Q cv s→wpAny (model X.prog X.w) (X.A.mark (some (.ref a))) (eval (.Name c np) X.env) Q E s
theorem ClsN.own {c:Str}{C:Addr}(hm:X.mg c=some (.ref C))(hg:Gl X c:=by rfl)(hd:(c==("__debug__":Str))=false:=by decide):ClsN X c (.ref C):=
 ⟨fun a pins s σ H np Q E I h=>ld_glob (X:=hnd X a) I hg hm h hd⟩
def tAs (i:Nat)(cv:Value)(K:Frag)(ts:TS)(tr:TH):TH:=fun cls dx D σ H=>∃b,PySem.W.exmOne K cls cv=some b∧
 if b=true then ∀a,H a=none→ts {nx:=fun σ2 H2=>D.nx (σ2.set i none) H2,rt:=D.rt,bk:=fun σ2 H2=>D.bk (σ2.set i none) H2,ct:=fun σ2 H2=>D.ct (σ2.set i none) H2} (σ.set i (some (.ref a))) (upd H a (excO cls a dx)) else tr cls dx D σ H
theorem ph_as {c n:Str}{cv:Value}{i:Nat}{b₀:Stmt}{suite:List Stmt}{np pos:Pos}{rest:List ExceptHandler}{ts:TS}{tr:TH}(hc:ClsN X c cv)(hN:X.N.Nodup)(hi:X.N[i]? =some n)(hk:X.env.scope.names.lookup n=some .local)
  (ht:∀a,PSs (hnd X a) (b₀::suite) ts) (hr:PH X rest tr) (hex:X.ex=[]:=by rfl):PH X (.ExceptHandler (some (.Name c np)) (some n) (b₀::suite) pos::rest) (tAs i cv X.K ts tr):=by
 intro pins s σ H a cls dx D L h
 obtain ⟨b,hb,h⟩:=h
 have I:=L.inv
 refine wpAny_handleBy_cons (codeAny_handlers_test (hc.ld a pins s σ H np _ _ (to_hnd I) ?_)) (by intro q;cases q)
 obtain ⟨H0,s0,a0,B,I0,fl,da,un,ok,os,bare,th,tr'⟩:=L.ex
 obtain ⟨ob,hob,hcls⟩:=fl.there
 have LT:PySem.W.Looks (model X.prog X.w) s.heap (typeOf (.ref a)) cls:=by
  subst hcls
  exact (PySem.W.Looks.ld hob).andThen .now
 refine (PySem.W.exm_one I.kIn LT hb).here ?_
 cases b with
 | false=>
  rw [if_neg Bool.false_ne_true] at h
  exact hr pins s σ H a cls dx D L h
 | true=>
  rw [if_pos rfl] at h
  refine codeAny_handlers_suite_as ?_
  refine wpAny_mono (Kp.any kp_setFlight (lands_againW (Q:=fun _ s6=>∃h6,s6={s with heap:=h6}∧B.FlyingW X.stack a cls a0 h6∧s.heap.UpToSlots h6) (E:=fun _ _=>False) fl fun h6 fl6 up=>⟨h6,rfl,fl6,up⟩)) (fun _ s6 z=> ?_) fun _ _ z=>z.elim
  obtain ⟨⟨h6,rfl,fl6,up⟩,kd⟩:=z
  have da6:DictAt h6 a dx:=da.kd kd
  have un6:=un_land un fl.1 fl6.1 th fl.2.2.1 up
  have ok6:=hok_land ok fl.1 fl6.1 tr'
  have I6:Inv X pins σ H {s with heap:=h6}:=I0.call' (ch:=[]) os un6 ok6 bare fun b z=>absurd z (by simp)
  have fr:=L.free
  obtain ⟨oe,ws,hoe,hoec,hoed,_⟩:=fl6.first
  have hoex:oe.dict=dx:=by
   obtain ⟨o',e',d'⟩:=da6
   rw [hoe] at e'
   cases e'
   exact d'
  have ne:∀b u,H b=some u→b≠a:=fun b u e z=>by rw [z,fr] at e;cases e
  have new0:∀o,s0.heap.get? a≠some o:=fun o e=>by
   by_cases hb:a∈frs X.stack
   ·obtain ⟨_,o',e',nf⟩:=fl6.2.2.1.mem hb
    rw [hoe] at e'
    cases e'
    exact nf _ hoed
   ·obtain ⟨o',eB⟩:=th a o e hb
    rw [fl.2.1] at eB
    cases eB
  have I7:Inv X pins σ (upd H a (excO cls a dx)) {s with heap:=h6}:=by
   refine track I6 (fun o e=> ?_) (fun p hp z=> ?_) (fun z=> ?_) (fun x c e z=> ?_) fr (excO_ok hoe hoec hoed hoex)
   ·obtain ⟨o',e'⟩:=I0.base.there a o e (by rw [hex];simp)
    exact new0 o' e'
   ·have q:=(I0.pin p hp).1
    rw [z] at q
    exact new0 _ q
   ·obtain ⟨m,⟨oL,es,ep,ho,hd,_⟩,_⟩:=I6.loc
    rw [← z,show ({s with heap:=h6}:Shared).heap.get? a=some oe from hoe] at ho
    cases ho
    rw [hoed] at hd
    cases hd
   ·obtain ⟨v,⟨oc,ho,hd⟩⟩:=I6.cell x c e
    rw [z,show ({s with heap:=h6}:Shared).heap.get? a=some oe from hoe] at ho
    cases ho
    rw [hoed] at hd
    cases hd
  refine store_ok I7 hN hi (.inl hk) (v:=.ref a) (u:=.ref a) rfl (fun s8 I8=> ?_) (.inr hk)
  refine wpAny_mono (ht a pins s8 _ _ _ (to_hnd I8) (h a fr)) (fun f s9 q=> ?_) fun _ _ z=>z.elim
  cases f with
  | next=>
   obtain ⟨σ2,H2,J,q⟩:=q
   exact gone_ok (of_hnd I0.ok J) hN hi hk fun s' J' =>⟨_,_,J',q⟩
  | brk=>
   obtain ⟨σ2,H2,J,q⟩:=q
   exact gone_ok (of_hnd I0.ok J) hN hi hk fun s' J' =>⟨_,_,J',q⟩
  | cont=>
   obtain ⟨σ2,H2,J,q⟩:=q
   exact gone_ok (of_hnd I0.ok J) hN hi hk fun s' J' =>⟨_,_,J',q⟩
  | ret u=>
   obtain ⟨v,σ2,H2,J,r,q⟩:=q
   exact gone_ok (of_hnd I0.ok J) hN hi hk fun s' J' =>⟨v,_,_,J',r,q⟩
def XP (X:Cx)(pins:List (Addr×Obj))(σ:L2.St)(E:XK)(e:Value)(s' :Shared):Prop:=∃H s,Inv X pins σ H s∧CXr X.prog X.w X.stack H s E e s'
abbrev TEx:=L2.St→Hp→VK→XK→Prop
abbrev TSx:=Ends→(L2.St→XK)→L2.St→Hp→Prop
def PEx (X:Cx)(e:Expr)(t:TEx):Prop:=
 ∀(pins:List (Addr×Obj)) (s:Shared) (σ:L2.St) (H:Hp) (Q:VK) (E:XK),Inv X pins σ H s→t σ H Q E→wpAny (model X.prog X.w) X.A (eval e X.env) (EP X pins σ Q) (XP X pins σ E) s
def PSx (X:Cx)(st:Stmt)(t:TSx):Prop:=
 ∀(pins:List (Addr×Obj)) (s:Shared) (σ:L2.St) (H:Hp) (D:Ends) (E:L2.St→XK),Inv X pins σ H s→t D E σ H→wpAny (model X.prog X.w) X.A (exec st X.env) (SP X pins D) (fun e s' =>∃σ',XP X pins σ' (E σ') e s') s
theorem px_fn {k:Nat}{ps:List Str}{sp:Sp}{x:Str}{p pos:Pos}{e:Expr}{es:List Expr}{t:TA}(F:Fn X.prog X.w X.K X.mg X.base (CXr X.prog X.w) k x ps sp)(hr:Room k X.A)(ha:PA X.nox (e::es) t)(hg:Gl X x:=by rfl)(hdb:(x==("__debug__":Str))=false:=by decide)
  (he:starEach (e::es) X.env=(false,eval e X.env)::starEach es X.env:=by rfl) (hpl:(backTo pos (starEach es X.env)).any (·.1)=false:=by rfl):
  PEx X (.Call (.Name x p) (e::es) [] pos) (fun σ H Q E=>t σ H fun vs H1=>sp vs H1 Q E):=by
 intro pins s σ H Q E I h
 obtain ⟨f,fd,G,b,m,kp⟩:=F.ex
 refine wpAny_Call_Name_kw (ld_glob I hg m ?_ hdb)
 refine PySem.W.callWith_K (h₀:=X.base) I.ok.mod.kin kp (wpAny_mono (ha pos pins s σ H _ (I.wish _) h) (fun us s1 ⟨vs,H1,I1,r,q⟩=>⟨I1.kIn,?_⟩) fun _ _ z=>z.elim) he hpl
 have I2:Inv X pins σ H1 s1:=I1.unwish
 have hl:us.length=ps.length:=by rw [← r.length];exact G.len _ _ _ _ q
 have bt:=b s1 us I2.kIn (by rw [List.append_nil];exact hl)
 rw [List.append_nil] at bt
 refine wpAny_call (codeAny_mono (G.run X.A X.stack s1 H1 ⟨us,[]⟩ us vs Q E hr I2.env0 bt r q) fun r s' hq=> ?_)
 cases r with
 | error e=>exact ⟨H1,s1,I2,hq⟩
 | ok fl=>
  cases fl with
  | ret u=>exact I2.after hq
  | next=>exact False.elim hq
  | brk=>exact False.elim hq
  | cont=>exact False.elim hq
theorem psx_expr {e:Expr}{te:TEx}{pos:Pos}(he:PEx X e te)(hs:swapsWith e none pos.line X.env=pure false:=by rfl):PSx X (.Expr e pos) (fun D E σ H=>te σ H (fun _ H1=>D.nx σ H1) (E σ)):=by
 intro pins s σ H D E I h
 refine wpAny_Expr_any (wpAny_mono (he pins s σ H _ _ I h) (fun v s1 z=> ?_) fun e s' z=>⟨σ,z⟩) I.quiet hs
 obtain ⟨y,H1,I1,r1,q1⟩:=z
 exact ⟨σ,H1,I1,q1⟩
theorem ps_try {st:Stmt}{h₀:ExceptHandler}{hs:List ExceptHandler}{pos:Pos}{tb:TSx}{th:TH}(hstk:X.stack=X.env::X.outer∧X.env.frame=some X.env.locals)(hb:PSx X st tb)(hh:PH X (h₀::hs) th):
  PS X (.Try [st] (h₀::hs) [] [] pos) (fun D σ H=>tb D (fun σ' cls dx H' =>th cls dx D σ' H') σ H):=by
 intro pins s σ H D I h
 refine wpAny_Try_except (wpAny_execs_cons (wpAny_mono (hb pins s σ H D _ I h) (fun f s1 q=> ?_) fun e s1 z=> ?_))
 ·cases f with
  | next=>exact wpAny_execs_nil (wpAny_execs_nil q)
  | ret v=>exact q
  | brk=>exact q
  | cont=>exact q
 ·obtain ⟨σ',H0,s0,I0,a,cls,a0,dx,H',B,rfl,fl,da,un,ok,os,bare,th',tr,hE⟩:=z
  have fl' :=fl
  rw [hstk.1] at fl'
  have hfr:X.A.frames=some (X.env::X.outer):=by rw [← hstk.1];exact I.ok.frames
  refine wpAny_mono (Kp.any kp_noteFrame (wpAny_looks_onW (Q:=fun _ s4=>∃h4,s4={s1 with heap:=h4}∧B.HeldW (X.env::X.outer) a cls a0 X.env.locals h4∧s1.heap.UpToSlots h4) (E:=fun _ _=>False) hfr hstk.2 fl' fun h4 hheld up4=>⟨h4,rfl,hheld,up4⟩)) (fun _ s4 z=> ?_) fun _ _ z=>z.elim
  obtain ⟨⟨h4,rfl,hheld,up4⟩,kd4⟩:=z
  refine wpAny_mono (Kp.any kp_setFlight (wpAny_landsW (s:={s1 with heap:=h4}) (Q:=fun _ s5=>∃h5,s5={s1 with heap:=h5}∧B.FlyingW (X.env::X.outer) a cls a0 h5∧h4.UpToSlots h5) (E:=fun _ _=>False) hheld fun h5 fl5 up5=>⟨h5,rfl,fl5,up5⟩)) (fun _ s5 z=> ?_) fun _ _ z=>z.elim
  obtain ⟨⟨h5,rfl,fl5,up5⟩,kd5⟩:=z
  have da5:DictAt h5 a dx:=(da.kd kd4).kd kd5
  rw [← hstk.1] at fl5
  have up:=up4.trans up5
  exact hh pins {s1 with heap:=h5} σ' H' a cls dx D ⟨H0,s0,a0,B,I0,fl5,da5,un_land un fl.1 fl5.1 th' fl.2.2.1 up,hok_land ok fl.1 fl5.1 tr,os,bare,th',tr⟩ hE
end
end Ty
set_option maxHeartbeats 4000000
namespace TyExc
open PySem PySem.W PySem.Calls PyProof.Rows Builtin Builtin.ObjectAttr Builtin.Getset_descriptor
structure ExcK (K:Frag)(C:Addr):Prop where
 ga:findIn K (.ref C) "__getattribute__"=some (some (.builtin "BaseException.__getattribute__"))
 gt:findIn K (.ref C) "__getattr__"=some none
 cl:findIn K (.ref C) "__class__"=some (some (.builtin "object.__class__"))
 mo:mroIn K C (.type "object")=some true
 mb:mroIn K C (.type "BaseException")=some true
 is:(clsIn K C).isSome=true
section
variable {prog:Program}{w:World}{A:Around}{E:Value→Shared→Prop}{K:Frag}{h:Heap}{g:Array GenState}{d:Drawn}{t:Nat}{os:OsState}{a C:Addr}{o:Obj}
theorem type_at {M:Model}(hx:h.get? a=some o)(hc:o.cls=.ref C):Looks M h (typeOf (.ref a)) (.ref C):=by
 subst_vars
 rw [← hc]
 exact (Looks.ld hx).andThen .now
theorem class_get_exc {R:Result→Shared→Prop}{tp:Value}(X:K.In h)(F:ExcK K C)(hx:h.get? a=some o)(hc:o.cls=.ref C)
  (hq:R (.ok (.ret (.ref C))) ⟨h,g,d,t,os⟩):codeAny (model prog w) A (.call (.builtin "getset_descriptor.__get__") ⟨[.builtin "object.__class__",.ref a,tp],[]⟩) R ⟨h,g,d,t,os⟩:=by
 have L0:=type_at (M:=model prog w) hx hc
 have L1:=looks_mroIn (M:=model prog w) X F.mo
 refine codeAny_call_builtin KF.slot_gs.plain KF.entry_gs (KF.slot_gs.check _ _ _ _ _ _ _ _ KF.type_class (KF.args_gs _ _ _) ?_)
 unfold Builtin.«getset_descriptor.__get__» descrGet
 rw [dga_obj]
 refine wpAny_bind (wpAny_pure ?_)
 unfold descrGetter descrCheckInstance descrNameAndClass isInstance
 simp only [KF.owner_class]
 repeat lk
 refine ⟨Code.quiet_builtin _ (by decide+kernel),codeAny_builtin KF.entry_class ?_⟩
 unfold Builtin.«object.__class__» shownTypeOf
 repeat lk
 exact hq
theorem check_ga_exc {M:Model}{nameV:Value}{Q:Unit→Shared→Prop}(X:K.In h)(F:ExcK K C)(hx:h.get? a=some o)(hc:o.cls=.ref C)
  (hq:Q () ⟨h,g,d,t,os⟩):wpAny M A (checkBuiltinCall "BaseException.__getattribute__" ⟨[.ref a,nameV],[]⟩) Q E ⟨h,g,d,t,os⟩:=by
 have hk:builtinKind "BaseException.__getattribute__"=some .slot:=by decide+kernel
 have hsplit:splitId "BaseException.__getattribute__"=some ("BaseException","__getattribute__"):=by decide+kernel
 have ha:=PySem.F.args_bexc_ga (.ref a) nameV
 have L0:=type_at (M:=M) hx hc
 have L1:=looks_mroIn (M:=M) X F.mb
 simp only [checkBuiltinCall,hk,hsplit]
 refine wpAny_bind ?_
 ·unfold isInstance
  repeat (first | lk | wp_step)
  exact hq
theorem class_entry_exc {tk:Tok}{Q:Fin→Shared→Prop}(X:K.In h)(F:ExcK K C)(hx:h.get? a=some o)(hc:o.cls=.ref C)
  (hq:Q (.done (.ret (.ref C))) ⟨h,g,d,t,os⟩):wpAny (model prog w) A (Builtin.«object.__getattribute__» ⟨[.ref a,.str "__class__" tk],[]⟩) Q E ⟨h,g,d,t,os⟩:=by
 have L0:=type_at (M:=model prog w) hx hc
 have L1:=looks_findIn (M:=model prog w) X F.cl
 have hT5:(⟨h,g,d,t,os⟩:Shared).TypeIs (.builtin "object.__class__") "getset_descriptor":=PySem.F.typeOf_object_class
 have f5:=PySem.F.typeOf_object_class
 have f6:=PySem.F.slot_gs_get.lookup
 have f7:=PySem.F.slot_gs_set.lookup
 repeat (any_goals (first | assumption | with_reducible refine L1.at ?_ | with_reducible refine L0.at ?_ | (with_reducible refine wpAny_loadPart_at hx ?_;rw [hc]) | wp_step))
 refine class_get_exc X F hx hc ?_
 repeat (any_goals (first | assumption | wp_step))
theorem class_call_exc {tk:Tok}{R:Result→Shared→Prop}(X:K.In h)(F:ExcK K C)(hx:h.get? a=some o)(hc:o.cls=.ref C)
  (hq:R (.ok (.ret (.ref C))) ⟨h,g,d,t,os⟩):codeAny (model prog w) A (.call (.builtin "BaseException.__getattribute__") ⟨[.ref a,.str "__class__" tk],[]⟩) R ⟨h,g,d,t,os⟩:=
 codeAny_call_builtin PySem.F.attr_ValueError.ga.plain PySem.F.entry_bexc_ga (check_ga_exc X F hx hc (class_entry_exc X F hx hc hq))
theorem class_by_exc {tk:Tok}{Q:Value→Shared→Prop}(X:K.In h)(F:ExcK K C)(hx:h.get? a=some o)(hc:o.cls=.ref C)
  (hq:Q (.ref C) ⟨h,g,d,t,os⟩):wpAny (model prog w) A (getAttrBy (.ref a) (.str "__class__" tk) false) Q E ⟨h,g,d,t,os⟩:=by
 have L0:=type_at (M:=model prog w) hx hc
 have L1:=looks_findIn (M:=model prog w) X F.ga
 have L2:=looks_findIn (M:=model prog w) X F.gt
 have f3:=PySem.F.attr_ValueError.ga.bind (.ref a)
 have hx2:(Value.builtin "BaseException.__getattribute__"==Value.builtin "object.__getattribute__")=false:=by decide+kernel
 have hx1:(onTheHeap (Value.ref C) && Value.builtin "BaseException.__getattribute__"==Value.builtin "object.__getattribute__")=false:=by rw [hx2];rfl
 repeat (any_goals (first | assumption | with_reducible refine L1.at ?_ | with_reducible refine L2.at ?_ | with_reducible refine L0.at ?_ | (with_reducible refine wpAny_loadPart_at hx ?_;rw [hc]) | wp_step))
 refine class_call_exc X F hx hc ?_
 repeat (any_goals (first | assumption | wp_step))
theorem class_attr_exc {Q:Option Value→Shared→Prop}(X:K.In h)(F:ExcK K C)(hx:h.get? a=some o)(hc:o.cls=.ref C)
  (hq:Q (some (.ref C)) ⟨h,g,d,t+1,os⟩):wpAny (model prog w) A (getAttr? (.ref a) "__class__") Q E ⟨h,g,d,t,os⟩:=by
 unfold getAttr? getAttrBy?
 repeat (any_goals (first | assumption | with_reducible apply class_by_exc X F hx hc | wp_step))
end
def ExcAt (a C:Addr)(h:Heap):Prop:=∃o vs,h.get? a=some o∧o.cls=.ref C∧o.data=.fields vs
theorem kitx_exc {K:Frag}{a C:Addr}(F:ExcK K C):KitX K (.ref a) (.ref C) (ExcAt a C) where
 ty:=fun M h _ ⟨o,vs,hx,hc,_⟩=>type_at hx hc
 it:=fun M h X _=>by
  have q:=F.is
  unfold clsIn at q
  split at q
  ·rename_i c' d' cd' sl' ho
   intro A' Q' E' s' k q
   unfold isType loadHead
   exact wpAny_bind (wpAny_loadPart (k _ _ (X _ _ ho)) (wpAny_pure q))
  ·cases q
 ne:=fun h tp dd its n sl X htp=>by
  have q:=F.is
  refine Bool.eq_false_iff.mpr fun z=> ?_
  have e:C=tp:=Value.ref.inj (beq_iff_eq.mp z)
  subst e
  unfold clsIn at q
  split at q
  ·rename_i c' d' cd' sl' ho
   have z:=(X _ _ ho).symm.trans htp
   cases z
  ·cases q
 ca:=fun {prog w A E Q s} X p k=>by
  obtain ⟨h,g,d,t,os⟩:=s
  obtain ⟨o,vs,hx,hc,_⟩:=p
  exact class_attr_exc X F hx hc k
end TyExc
set_option maxHeartbeats 4000000
namespace Ty
open PySem PySem.Spec PyProof.Rows L2
section
variable {X:Cx}
inductive rIsiX (K:Frag)(xs:List V)(H:Hp)(Q:VK):Prop where
 | mk (a C c b dx:_) (_:xs=[.ref a,c]) (_:isCls c=true) (_:H a=some (excO (.ref C) a dx)) (_:TyExc.ExcK K C) (_:PySem.W.kitOne K (.ref C) (clsV c)=some b) (_:Q (.bl b) H):rIsiX K xs H Q
theorem call_isiX {K:Frag}(hK:X.K=K):CallR X (.builtin "isinstance") (rIsiX K):=by
 subst hK
 intro pins s σ H xs us Q I r h
 obtain ⟨a,C,c,b,dx,rfl,hc,ha,F,e,q⟩:=h
 obtain ⟨u,w,rfl,r1,r2⟩:=vals2 r
 obtain rfl:=cls_rel hc r2
 cases r1
 obtain ⟨⟨o,vs,p1,p2,p3,_⟩,_⟩:=(show ObjOk X.prog X.w H s.heap a (excO (.ref C) a dx) from I.hok a _ ha)
 exact PySem.W.kia_one (TyExc.kitx_exc F) I.kIn ⟨o,vs,p1,p2,p3⟩ e (fun z=>nomatch z) fun tk=>⟨.bl b,H,I.tok tk,rfl,q⟩
theorem pe_cls {x:Str}{C:Addr}{pos:Pos}(hg:Gl X x)(hm:X.mg x=some (.ref C))(hd:(x==("__debug__":Str))=false:=by decide):PE X (.Name x pos) (tC (.ref C)):=pe_glob (v:=.ref C) hg hm rfl hd
end
theorem Def.okX {P:Program}{w:World}{K:Frag}{mg:Str→Option Value}{base:Heap}{x:Str}{st:Stmt}{N ps:List Str}{k:Nat}{sp:Sp}(D:Def K mg x st ps)(S:FnScope N ps (defScope st))(len:∀vs H Q E,sp vs H Q E→vs.length=ps.length)
  (hbody:∀(f:Addr) (cdv:Value) (A:Around) (outer:List Env) (s:Shared) (H:Hp) (vs:List V) (Q:VK) (E:XK),Room k (A.deeper (envOfC x (defScope st) s.heap.objs.size f cdv))→sp vs H Q E→
   ∃t,PSs (cxr P w K mg base N x (defScope st) f cdv A outer s H E) (defBody st) t∧t {nx:=fun _ H' =>Q .non H',rt:=Q} (start N vs) H):Fn P w K mg base (CXr P w) (k+1) x ps sp:=by
 obtain ⟨f,dV,oc,od,kV,doc,pm,an,cdv,ct,osl,lk,hcd,kp,b,m⟩:=D.ex
 exact ⟨f,_,fn_of lk hcd S len fun A outer s H vs Q E hr hsp=>hbody f cdv A outer s H vs Q E hr hsp,b,m,kp⟩
end Ty
set_option maxHeartbeats 4000000
namespace TyExc
open PySem PySem.W PySem.Calls PyProof.Rows Builtin Builtin.ObjectAttr Builtin.Getset_descriptor
section
variable {prog:Program}{w:World}{A:Around}{E:Value→Shared→Prop}{K:Frag}{h:Heap}{g:Array GenState}{d:Drawn}{t:Nat}{os:OsState}{a C:Addr}{o:Obj}{od:Option Obj}{name:Str}{v:Value}
theorem fld_entry {tk:Tok}{Q:Fin→Shared→Prop}(X:K.In h)(I:InstAt h a o C od)(hf:findObj K C od name=some (.value v))
  (hq:Q (.done (.ret v)) ⟨h,g,d,t,os⟩):wpAny (model prog w) A (Builtin.«object.__getattribute__» ⟨[.ref a,.str name tk],[]⟩) Q E ⟨h,g,d,t,os⟩:=by
 have L0:=InstAt.type (M:=model prog w) I
 have L1:=looks_find (M:=model prog w) X I hf
 repeat (any_goals (first | assumption | with_reducible refine L1.at ?_ | with_reducible refine L0.at ?_ | wp_step))
theorem fld_call {tk:Tok}{R:Result→Shared→Prop}(X:K.In h)(F:ExcK K C)(I:InstAt h a o C od)(hf:findObj K C od name=some (.value v))
  (hq:R (.ok (.ret v)) ⟨h,g,d,t,os⟩):codeAny (model prog w) A (.call (.builtin "BaseException.__getattribute__") ⟨[.ref a,.str name tk],[]⟩) R ⟨h,g,d,t,os⟩:=
 codeAny_call_builtin PySem.F.attr_ValueError.ga.plain PySem.F.entry_bexc_ga (check_ga_exc X F I.at_ I.cls (fld_entry X I hf hq))
theorem fld_by {tk:Tok}{fill expr:Bool}{Q:Value→Shared→Prop}(X:K.In h)(F:ExcK K C)(I:InstAt h a o C od)(hf:findObj K C od name=some (.value v))(hh:handedIn v=true)
  (hq:Q v ⟨h,g,d,t,os⟩):wpAny (model prog w) A (getAttrBy (.ref a) (.str name tk) fill expr) Q E ⟨h,g,d,t,os⟩:=by
 have hx:=I.at_
 have hc:=I.cls
 have L0:=type_at (M:=model prog w) hx hc
 have L1:=looks_findIn (M:=model prog w) X F.ga
 have L2:=looks_findIn (M:=model prog w) X F.gt
 have f3:=PySem.F.attr_ValueError.ga.bind (.ref a)
 have hx2:(Value.builtin "BaseException.__getattribute__"==Value.builtin "object.__getattribute__")=false:=by decide+kernel
 have hx1:(onTheHeap (Value.ref C) && Value.builtin "BaseException.__getattribute__"==Value.builtin "object.__getattribute__")=false:=by rw [hx2];rfl
 have ho:=handedOut_of hh
 repeat (any_goals (first | assumption | with_reducible refine L1.at ?_ | with_reducible refine L2.at ?_ | with_reducible refine L0.at ?_ | (with_reducible refine wpAny_loadPart_at hx ?_;rw [hc]) | wp_step))
 have hx3:(expr && onTheHeap (Value.builtin "BaseException.__getattribute__"))=false:=by cases expr <;> rfl
 rw [hx3]
 repeat (any_goals (first | assumption | wp_step))
 refine fld_call X F I hf ?_
 repeat (any_goals (first | assumption | (rw [ho];refine wpAny_pure ?_) | wp_step))
theorem getattr_exc {b:Bool}{s:Shared}{Q:Value→Shared→Prop}(X:K.In s.heap)(F:ExcK K C)(I:InstAt s.heap a o C od)(hf:findObj K C od name=some (.value v))(hh:handedIn v=true)
  (hq:Q v {s with toks:=s.toks+1}):wpAny (model prog w) A (getAttr (.ref a) name b) Q E s:=by
 obtain ⟨h,g,d,t,os⟩:=s
 unfold getAttr
 refine wpAny_bind (wpAny_mkText ?_)
 exact fld_by X F I hf hh hq
end
end TyExc
set_option maxHeartbeats 4000000
namespace TyExc
open PySem PySem.W PySem.Calls PyProof.Rows Builtin Builtin.ObjectAttr
def isRf:Value→Bool
 | .ref _=>true
 | _=>false
def exOnly (l:List Value):Bool:=l.dropWhile isRf==[.type "ValueError",.type "Exception",.type "BaseException",.type "object"]
theorem refuse_drop {self:Value}{what:Str}:∀l:List Value,refuseLoop self what l=refuseLoop self what (l.dropWhile isRf)
 | []=>rfl
 | v::l=>by
  cases v with
  | ref a=>
   rw [refuseLoop_ref,refuse_drop l]
   rfl
  | _=>rfl
theorem exOnly_refuse {self:Value}{l:List Value}(h:exOnly l=true):refuseLoop self "__setattr__" l=pure ():=by
 rw [refuse_drop,beq_iff_eq.mp h]
 exact PySem.F.store_ValueError.passes self
section
variable {prog:Program}{w:World}{A:Around}{E:Value→Shared→Prop}{K:Frag}{s:Shared}{x C:Addr}{ox:Obj}{od:Option Obj}{name:Str}{v:Value}{cd:ClassData}
theorem osa_exc {tk:Tok}{R:Result→Shared→Prop}(X:K.In s.heap)(I:InstAt s.heap x ox C od)(F:ExcK K C)(hc:clsIn K C=some cd)(ho:exOnly cd.mro=true)(hn:findIn K (.ref C) name=some none)
  (h:wpAny (model prog w) A.in1 (storeInOwnDict (.ref x) (.ref C) (.str name tk) name v false) (fun fin s' =>match fin with | .done f=>R (.ok f) s' | .again c' =>c'.quiet=true∧codeAny (model prog w) A c' R s') (fun e s' =>R (.error e) s') s):
  codeAny (model prog w) A (.call (.builtin "object.__setattr__") ⟨[.ref x,.str name tk,v],[]⟩) R s:=by
 have SF:=PySem.F.store_object
 have L0:=InstAt.type (M:=model prog w) I
 have sub:=L0.andThen (f:=fun tp=>isSubtype tp (.type "object")) (looks_mroIn (M:=model prog w) X F.mo)
 refine codeAny_call_builtin SF.slot.plain SF.entry (check_slot SF.kind SF.split sub (SF.args _ _ _) ?_)
 have hm:Looks (model prog w) s.heap (mroOf (.ref C)) cd.mro:=(looks_clsIn X hc).andThen .now
 have L1:=looks_findIn (M:=model prog w) X hn
 unfold Builtin.«object.__setattr__»
 dsimp only
 rw [refuse_eq]
 have e:=exOnly_refuse (self:=.ref x) ho
 refine wpAny_ite_false rfl ?_
 refine wpAny_bind (wpAny_bind (L0.here (wpAny_bind (hm.here ?_))))
 rw [e]
 refine wpAny_pure ?_
 repeat (any_goals (first | assumption | with_reducible refine L1.at ?_ | with_reducible refine L0.at ?_ | wp_step))
theorem setattr_exc0 {vs:Array Value}{Q:Unit→Shared→Prop}(X:K.In s.heap)(hx:s.heap.get? x=some ox)(hcl:ox.cls=.ref C)(hdt:ox.data=.fields vs)(hdi:ox.dict=none)(F:ExcK K C)
  (hs:findIn K (.ref C) "__setattr__"=some (some (.builtin "object.__setattr__"))) (hc:clsIn K C=some cd) (hh:cd.hasDict=true) (ho:exOnly cd.mro=true) (hn:findIn K (.ref C) name=some none)
  (h:∀h' tk,h'.get? x=some {ox with dict:=some s.heap.objs.size}→h'.Ns1 s.heap.objs.size (fun y=>if y=name then some v else none)→(∀b o,b≠x→s.heap.get? b=some o→h'.get? b=some o)→Q () {s with heap:=h',toks:=tk}):
  wpAny (model prog w) A (setAttr (.ref x) name v) Q E s:=by
 have I:InstAt s.heap x ox C none:=⟨hx,hcl,by unfold notCls;rw [hdt],by rw [hdi];trivial⟩
 refine set_plain X I hs (osa_exc (s:={s with toks:=s.toks+1}) X I F hc ho hn ?_)
 have L2:=looks_clsIn (M:=model prog w) X hc
 obtain ⟨oc,odi,odt,osl⟩:=ox
 dsimp only at hcl hdt hdi
 subst hcl hdt hdi
 unfold storeInOwnDict
 refine wpAny_bind (wpAny_pure ?_)
 dsimp only
 refine wpAny_ite_false rfl ?_
 refine wpAny_bind ?_
 unfold ownDictForStores instanceDict
 dsimp only
 refine wpAny_bind (wpAny_loadPart hx ?_)
 dsimp only
 refine wpAny_bind (L2.here (s:={s with toks:=s.toks+1}) ?_)
 rw [hh]
 refine wpAny_ite_false rfl ?_
 refine wpAny_ite_false rfl ?_
 refine wpAny_bind (wpAny_alloc ?_)
 have hx2:(s.heap.push {cls:=Value.type "dict",data:=Data.dict #[]}).get? x=some ⟨.ref C,none,.fields vs,osl⟩:=Heap.get?_push_of_some _ hx
 refine wpAny_bind (wpAny_update hx2 ?_)
 refine wpAny_pure ?_
 have ne:s.heap.objs.size≠x:=fun z=>by have:=Heap.lt_size hx;rw [← z] at this;exact Nat.lt_irrefl _ this
 have e1:(s.heap.push {cls:=Value.type "dict",data:=Data.dict #[]}).get? s.heap.objs.size=some {cls:=Value.type "dict",data:=Data.dict #[]}:=Heap.get?_push_size s.heap rfl
 generalize hH:(s.heap.push {cls:=Value.type "dict",data:=Data.dict #[]}).update x (fun o=>{cls:=o.cls,dict:=some s.heap.objs.size,data:=o.data,slots:=o.slots})=h2
 have e2:h2.get? s.heap.objs.size=some {cls:=Value.type "dict",data:=Data.dict #[]}:=by rw [← hH];exact (Heap.get?_update_other _ _ (Ne.symm ne)).trans e1
 have x2:h2.get? x=some ⟨.ref C,some s.heap.objs.size,.fields vs,osl⟩:=by rw [← hH];exact Heap.get?_update_self _ hx2 rfl
 have k2:∀b o,b≠x→s.heap.get? b=some o→h2.get? b=some o:=fun b o n e=>by rw [← hH];exact (Heap.get?_update_other _ _ (Ne.symm n)).trans (Heap.get?_push_of_some _ e)
 have n2:h2.Ns s.heap.objs.size (fun _=>none):=⟨_, #[],_,e2,rfl,(fun e he=>absurd he (by simp)),fun _=>rfl⟩
 have n3:=Heap.Ns1.of_empty n2
 dsimp only
 unfold storeInDict
 refine wpAny_bind (wpAny_pure (wpAny_bind ?_))
 refine wpAny_nsSet1 (s:={s with heap:=h2,toks:=s.toks+1}) n3 fun h' hn2 hs2=> ?_
 obtain ⟨oD,esD,epD,hoD,hdD,hcD⟩:=hn2.count (PySem.Within.cons name v (ns:=[]) (fun y hy=>absurd rfl hy))
 refine wpAny_bind (wpAny_lookBehind hoD (by rw [hdD];exact pastItsLine_dict (Nat.le_trans hcD (Nat.le_add_left 1 _))) ?_)
 refine wpAny_pure (h h' _ ((hs2.2 _ (Ne.symm ne)).trans x2) hn2 fun b o n e=> ?_)
 exact (hs2.2 b (fun z=>by have:=Heap.lt_size e;rw [z] at this;exact Nat.lt_irrefl _ this)).trans (k2 b o n e)
theorem setattr_exc1 {vs:Array Value}{dx:Addr}{mA:Str→Option Value}{ns:List Str}{Q:Unit→Shared→Prop}(X:K.In s.heap)(hx:s.heap.get? x=some ox)(hcl:ox.cls=.ref C)(hdt:ox.data=.fields vs)(hdi:ox.dict=some dx)(hne:dx≠x)(hns:s.heap.Ns1 dx mA)(hwi:PySem.Within mA ns)(hsz:ns.length≤sizeLine)(F:ExcK K C)
  (hs:findIn K (.ref C) "__setattr__"=some (some (.builtin "object.__setattr__"))) (hc:clsIn K C=some cd) (hh:cd.hasDict=true) (ho:exOnly cd.mro=true) (hn:findIn K (.ref C) name=some none)
  (h:∀h' tk,h'.Ns1 dx (fun y=>if y=name then some v else mA y)→Heap.SameBut dx s.heap h' →Q () {s with heap:=h',toks:=tk}):
  wpAny (model prog w) A (setAttr (.ref x) name v) Q E s:=by
 obtain ⟨od,eod⟩:∃od,s.heap.get? dx=some od:=by obtain ⟨o,_,_,e,_⟩:=hns;exact ⟨o,e⟩
 have I:InstAt s.heap x ox C (some od):=⟨hx,hcl,by unfold notCls;rw [hdt],by rw [hdi];exact eod⟩
 refine set_plain X I hs (osa_exc (s:={s with toks:=s.toks+1}) X I F hc ho hn ?_)
 have L2:=looks_clsIn (M:=model prog w) X hc
 obtain ⟨oc,odi,odt,osl⟩:=ox
 dsimp only at hcl hdt hdi
 subst hcl hdt hdi
 unfold storeInOwnDict
 refine wpAny_bind (wpAny_pure ?_)
 dsimp only
 refine wpAny_ite_false rfl ?_
 refine wpAny_bind ?_
 unfold ownDictForStores instanceDict
 dsimp only
 refine wpAny_bind (wpAny_loadPart hx ?_)
 dsimp only
 refine wpAny_bind (L2.here (s:={s with toks:=s.toks+1}) ?_)
 rw [hh]
 refine wpAny_ite_false rfl ?_
 refine wpAny_pure ?_
 dsimp only
 unfold storeInDict
 refine wpAny_bind (wpAny_pure (wpAny_bind ?_))
 refine wpAny_nsSet1 (s:={s with toks:=s.toks+1}) hns fun h' hn2 hs2=> ?_
 obtain ⟨oD,esD,epD,hoD,hdD,hcD⟩:=hn2.count (PySem.Within.cons name v hwi)
 refine wpAny_bind (wpAny_lookBehind hoD (by rw [hdD];exact pastItsLine_dict (Nat.le_trans hcD (by rw [List.length_cons];omega))) ?_)
 exact wpAny_pure (h h' _ hn2 hs2)
end
end TyExc
set_option maxHeartbeats 400000
namespace TyExc
open PySem PySem.W PySem.Calls PyProof.Rows Builtin
section
variable {prog:Program}{w:World}{A:Around}{K:Frag}{h:Heap}{g:Array GenState}{d:Drawn}{t:Nat}{os:OsState}{e C:Addr}{oe:Obj}{vs:Array Value}{args:List Value}{E:Value→Shared→Prop}
theorem check_init {Q:Unit→Shared→Prop}(X:K.In h)(hx:h.get? e=some oe)(hcl:oe.cls=.ref C)(hm:mroIn K C (.type "ValueError")=some true)(hi:(clsIn K C).isSome=true)
  (hq:Q () ⟨h,g,d,t,os⟩):wpAny (model prog w) A (checkBuiltinCall "ValueError.__init__" ⟨.ref e::args,[]⟩) Q E ⟨h,g,d,t,os⟩:=by
 have FB:=PySem.F.excBase_ValueError
 have L0:=type_at (M:=model prog w) hx hcl
 have L1:=looks_mroIn (M:=model prog w) X hm
 obtain ⟨cd,hc⟩:=Option.isSome_iff_exists.mp hi
 have L2:=looks_clsIn (M:=model prog w) X hc
 have fk:=FB.initKind
 have fs:=FB.initSplit
 have fr:=FB.initRow
 have hshort:=FB.noStar
 simp only [checkBuiltinCall,fk,fs,fr]
 refine wpAny_bind ?_
 unfold isInstance
 refine wpAny_bind (L0.here (L1.here ?_))
 refine wpAny_ite_false rfl ?_
 unfold Bind.checkArgs
 dsimp only
 refine wpAny_bind ?_
 unfold Bind.printed
 refine wpAny_ite_false (by decide+kernel) ?_
 unfold Bind.receiverType
 refine wpAny_bind (wpAny_ite_false rfl (L0.here ?_))
 unfold typeNameWhole
 refine wpAny_bind (wpAny_bind (L2.here (wpAny_pure (wpAny_pure ?_))))
 refine wpAny_bind (wpAny_ite_true hshort (wpAny_pure ?_))
 refine wpAny_onRaise ?_
 rw [List.map_nil,check_star_args]
 exact wpAny_pure hq
theorem init_exc {R:Result→Shared→Prop}(X:K.In h)(hx:h.get? e=some oe)(hcl:oe.cls=.ref C)(hdt:oe.data=.fields vs)(h0:0 < vs.size)(hm:mroIn K C (.type "ValueError")=some true)(hi:(clsIn K C).isSome=true)(hl:args.length≤sizeLine)
  (hq:∀h' vs',h'.get? e=some {oe with data:=.fields vs' }→vs'.size=vs.size→vs'[1]? =vs[1]? →(∃tp,vs'[0]? =some (.ref tp))→(∀b o,b≠e→h.get? b=some o→h'.get? b=some o)→R (.ok (.ret .none)) ⟨h',g,d,t,os⟩):
  codeAny (model prog w) A (.call (.builtin "ValueError.__init__") ⟨.ref e::args,[]⟩) R ⟨h,g,d,t,os⟩:=by
 have FB:=PySem.F.excBase_ValueError
 refine codeAny_call_builtin FB.init.plain FB.initEntry (check_init X hx hcl hm hi ?_)
 obtain ⟨c0,d0,dt,sl⟩:=oe
 dsimp only at hcl hdt
 subst hcl hdt
 obtain ⟨v0,ev0⟩:∃v0,vs[0]? =some v0:=⟨_,Array.getElem?_eq_getElem h0⟩
 unfold Builtin.«BaseException.__init__»
 dsimp only
 refine wpAny_ite_false rfl ?_
 refine wpAny_bind (wpAny_newTuple ?_ hl)
 have hx1:(h.push {cls:=Value.type "tuple",data:=Data.seq args.toArray}).get? e=some ⟨.ref C,d0,.fields vs,sl⟩:=Heap.get?_push_of_some _ hx
 unfold Builtin.BaseException.bexcPut
 refine wpAny_bind (wpAny_bind (wpAny_field hx1 rfl ev0 (wpAny_bind (wpAny_setField hx1 rfl h0 ?_))))
 have hx2:=Heap.get?_update_self (Obj.mapFields fun x=>x.setIfInBounds 0 (Value.ref h.objs.size)) hx1 rfl
 have fin:=hq ((h.push {cls:=Value.type "tuple",data:=Data.seq args.toArray}).update e (Obj.mapFields fun x=>x.setIfInBounds 0 (Value.ref h.objs.size))) (vs.setIfInBounds 0 (Value.ref h.objs.size)) hx2 (by simp) (by simp) ⟨h.objs.size,by simp [h0]⟩ (fun b o n e' =>(Heap.get?_update_other _ _ (Ne.symm n)).trans (Heap.get?_push_of_some _ e'))
 have done:wpAny (model prog w) A.in1 (ret Value.none) (fun fin s' =>match fin with | .done f=>R (.ok f) s' | .again c' =>c'.quiet=true∧codeAny (model prog w) A c' R s') (fun e s' =>R (.error e) s') ⟨(h.push {cls:=Value.type "tuple",data:=Data.seq args.toArray}).update e (Obj.mapFields fun x=>x.setIfInBounds 0 (Value.ref h.objs.size)),g,d,t,os⟩:=wpAny_pure fin
 cases v0 with
 | ref a=>exact wpAny_letGo done
 | _=>exact wpAny_pure done
end
end TyExc
set_option maxHeartbeats 400000
namespace TyExc
open PySem PySem.W PySem.Calls PyProof.Rows Builtin
section
variable {prog:Program}{w:World}{A:Around}{K:Frag}{h:Heap}{g:Array GenState}{d:Drawn}{t:Nat}{os:OsState}{nm q:Str}{C N f:Addr}{bs bm bmB:List Value}{hdct:Bool}{sn:List Str}{sub:List Value}{ab:Bool}{col:Option Bool}{dd:Option Addr}{k0 k1 k2 k3 k5:Option Value}{B newId initId:String}{rest:List Value}{E:Value→Shared→Prop}
def newExcH (h:Heap)(C:Addr)(rest:List Value):Heap:=(h.push {cls:=Value.type "tuple",data:=Data.seq rest.toArray}).push {cls:=Value.ref C,data:=Data.fields #[Value.ref h.objs.size,Value.none,Value.none,Value.none,Value.bool false,Value.none]}
theorem newExcH_at:(newExcH h C rest).get? (h.objs.size+1)=some {cls:=Value.ref C,data:=Data.fields #[Value.ref h.objs.size,Value.none,Value.none,Value.none,Value.bool false,Value.none]}:=
 Heap.get?_push_at (by rw [Heap.size_push]) rfl
theorem newExcH_keeps {b:Addr}{o:Obj}(e:h.get? b=some o):(newExcH h C rest).get? b=some o:=Heap.get?_push_of_some _ (Heap.get?_push_of_some _ e)
theorem type_call_own {Q:Fin→Shared→Prop}(F:ExcBaseFacts B newId initId bmB)(T:OwnTail h bmB bm)(hC:h.get? C=some (excClassObj nm q C N bs bm hdct sn sub ab col dd k0 k1 k2 k3 k5 newId))(X:K.In h)
  (hi:findIn K (.ref C) "__init__"=some (some (.ref f))) (hf:typeIn K (.ref f)=some (.type "function")) (hl:rest.length≤sizeLine)
  (hq:wpAny (model prog w) A (call (.ref f) (.ref (h.objs.size+1)::rest)) (fun v s' =>v=.none∧Q (.done (.ret (.ref (h.objs.size+1)))) s') E ⟨newExcH h C rest,g,d,t,os⟩):
  wpAny (model prog w) A (Builtin.«type.__call__» ⟨.ref C::rest,[]⟩) Q E ⟨h,g,d,t,os⟩:=by
 have hC1:(newExcH h C rest).get? C=some (excClassObj nm q C N bs bm hdct sn sub ab col dd k0 k1 k2 k3 k5 newId):=newExcH_keeps hC
 have hget:=newExcH_at (h:=h) (C:=C) (rest:=rest)
 have X1:K.In (newExcH h C rest):=X.keeps fun b o e=>newExcH_keeps e
 have L1:=looks_findIn (M:=model prog w) X1 hi
 have L2:=bind_fn (M:=model prog w) X1 (.ref (h.objs.size+1)) hf
 have L0:=type_at (M:=model prog w) hget rfl
 have hcC:(Value.ref C::bm).contains (Value.ref C)=true:=by simp
 unfold Builtin.«type.__call__»
 refine wpAny_ite_false rfl ?_
 refine wpAny_bind (wpAny_mroOf_exc hC ?_)
 refine wpAny_ite_false rfl ?_
 refine wpAny_bind (wpAny_madeBy_exc hC (wpAny_bind (wpAny_pure ?_)))
 refine wpAny_bind (wpAny_holding (wpAny_call (codeAny_call_builtin_code (Code.quiet_builtin _ F.quiet) (wpAny_check_new_subT F T hC (codeAny_exc_new_subT F T hC ?_ hl)))))
 show wpAny (model prog w) A _ Q E ⟨newExcH h C rest,g,d,t,os⟩
 refine wpAny_bind ?_
 unfold isInstance
 refine wpAny_bind (L0.here (wpAny_isSubtype_exc hC1 ?_))
 rw [hcC]
 refine wpAny_ite_false rfl ?_
 refine wpAny_bind (wpAny_holding ?_)
 unfold callSpecial?
 refine wpAny_bind ?_
 unfold specialOf
 refine wpAny_bind (L0.here (L1.here ?_))
 refine wpAny_holding (wpAny_bind (L2.here (wpAny_bind (wpAny_mono hq (fun v s' z=> ?_) fun _ _ z=>z))))
 obtain ⟨rfl,z⟩:=z
 refine wpAny_pure ?_
 refine wpAny_ite_false rfl ?_
 exact wpAny_pure z
theorem call_own {Q:Value→Shared→Prop}(F:ExcBaseFacts B newId initId bmB)(T:OwnTail h bmB bm)(hC:h.get? C=some (excClassObj nm q C N bs bm hdct sn sub ab col dd k0 k1 k2 k3 k5 newId))(X:K.In h)
  (hi:findIn K (.ref C) "__init__"=some (some (.ref f))) (hf:typeIn K (.ref f)=some (.type "function")) (hl:rest.length≤sizeLine)
  (hq:wpAny (model prog w) (A.under (.builtin "type.__call__" ⟨.ref C::rest,[]⟩)) (call (.ref f) (.ref (h.objs.size+1)::rest)) (fun v s' =>v=.none∧Q (.ref (h.objs.size+1)) s') E ⟨newExcH h C rest,g,d,t,os⟩):
  wpAny (model prog w) A (call (.ref C) rest) Q E ⟨h,g,d,t,os⟩:=by
 have f1:=tc_lookup
 have f2:=tc_bind (Value.ref C)
 have hT:(⟨h,g,d,t,os⟩:Shared).TypeIs (.ref C) "type":=⟨excClassObj nm q C N bs bm hdct sn sub ab col dd k0 k1 k2 k3 k5 newId,hC,rfl⟩
 refine wpAny_call (codeAny_of_tree ?_)
 refine wpAny_bind (wpAny_load' hC ?_)
 refine wpAny_bind (wpAny_specialOf hT f1 (wpAny_bind (wpAny_of_eq f2 (wpAny_bind ?_))))
 refine wpAny_pure (wpAny_ite_true rfl (wpAny_pure ⟨rfl,?_⟩))
 refine codeAny_call_builtin_at (Code.quiet_builtin _ (by decide+kernel)) entry_typeCall (wpAny_check_type_call_sub hC (type_call_own F T hC X hi hf hl ?_))
 exact wpAny_mono hq (fun v s' z=>z) fun _ _ z=>z
end
end TyExc
set_option maxHeartbeats 400000
namespace TyExc
open PySem PySem.W PySem.Calls PyProof.Rows Builtin
section
variable {M:Model}{A:Around}{E:Value→Shared→Prop}{env:Env}{nm q:Str}{C N:Addr}{bs bm:List Value}{hdct:Bool}{sn:List Str}{sub:List Value}{ab:Bool}{col:Option Bool}{dd:Option Addr}{k0 k1 k2 k3 k5:Option Value}{newId:String}{s:Shared}{x:Sem Value}{Q:Flow→Shared→Prop}
theorem raise_own (hbase:bm.contains (.type "BaseException")=true)(hh:A.handled=none)
  (h:wpAny M A x (fun v s1=>∃e oe vs,v=.ref e∧s1.heap.get? C=some (excClassObj nm q C N bs bm hdct sn sub ab col dd k0 k1 k2 k3 k5 newId)∧s1.heap.get? e=some oe∧oe.cls=.ref C∧oe.data=.fields vs∧vs[1]? =some .none∧E (.ref e) s1) E s):
  wpAny M A (raiseStmt env (some x) none) Q E s:=by
 have hcB:(Value.ref C::bm).contains (.type "BaseException")=true:=by
  rw [List.contains_cons,hbase,Bool.or_true]
 unfold raiseStmt
 refine wpAny_bind (wpAny_mono h (fun v s1 z=> ?_) fun _ _ z=>z)
 obtain ⟨e,oe,vs,rfl,hC,he,hcl,hdt,h1,hE⟩:=z
 obtain ⟨hp,g,d,tk,os⟩:=s1
 obtain ⟨c0,d0,dt,sl⟩:=oe
 dsimp only at hcl hdt
 subst hcl hdt
 have L0:=type_at (M:=M) he rfl
 have hL:(excClassObj nm q C N bs bm hdct sn sub ab col dd k0 k1 k2 k3 k5 newId).cls=.type "type":=rfl
 refine wpAny_bind (wpAny_pure ?_)
 refine wpAny_bind (wpAny_holding ?_)
 unfold excFromValue isExcClass isType loadHead
 refine wpAny_bind (wpAny_bind (wpAny_bind (wpAny_loadPart_at he (wpAny_pure (wpAny_ite_false rfl (wpAny_pure (wpAny_ite_false rfl ?_)))))))
 refine wpAny_bind ?_
 unfold isInstance
 refine wpAny_bind (L0.here (wpAny_isSubtype_exc hC ?_))
 rw [hcB]
 refine wpAny_ite_true rfl (wpAny_pure ?_)
 dsimp only
 refine wpAny_bind ?_
 refine wpAny_bind (wpAny_loadPart_at he (wpAny_pure (wpAny_ite_false rfl ?_)))
 refine wpAny_bind ?_
 unfold raisedInstance
 have LC:Looks M hp (typeOf (.ref C)) (.type "type"):=(Looks.ld hC).andThen .now
 refine wpAny_bind (L0.here (wpAny_bind (LC.here (wpAny_ite_true rfl (wpAny_pure ?_)))))
 refine wpAny_bind ?_
 unfold setFlight
 refine wpAny_bind (wpAny_field he rfl h1 (wpAny_ite_false rfl (wpAny_pure ?_)))
 exact wpAny_raiseNew_none hh hE
end
end TyExc
set_option maxHeartbeats 400000
namespace TyExc
open PySem PySem.W
structure ExcF (K:Frag)(C:Addr)(f:Str):Prop where
 k:ExcK K C
 sa:findIn K (.ref C) "__setattr__"=some (some (.builtin "object.__setattr__"))
 hd:hasDictIn K C=true
 ov:(clsIn K C).any (fun cd=>exOnly cd.mro)=true
 nf:findIn K (.ref C) f=some none
theorem ExcF.cd {K:Frag}{C:Addr}{f:Str}(F:ExcF K C f):∃cd,clsIn K C=some cd∧cd.hasDict=true∧exOnly cd.mro=true:=by
 obtain ⟨cd,hc,ho⟩:=any_some F.ov
 obtain ⟨cd',hc',hh⟩:=any_some F.hd
 rw [hc] at hc'
 cases hc'
 exact ⟨cd,hc,hh,ho⟩
end TyExc
namespace Ty
open PySem PySem.Spec PyProof.Rows L2
def excN (C a:Addr)(dx:Option Addr):HO:=.ext fun h=>∃o vs tp,h.get? a=some o∧o.cls=.ref C∧o.data=.fields vs∧o.dict=dx∧vs[0]? =some (.ref tp)∧vs[1]? =some .none
def xdO (d:Addr)(fs:List (Str×V)):HO:=.ext fun h=>∃mA,h.Ns1 d mA∧∀f,RelO (fs.lookup f) (mA f)
section
variable {P:Program}{w:World}{H:Hp}{h:Heap}{C a:Addr}{dx:Option Addr}
theorem excN_ok {o:Obj}{vs:Array Value}{tp:Addr}(e:h.get? a=some o)(hc:o.cls=.ref C)(hd:o.data=.fields vs)(hx:o.dict=dx)(h0:vs[0]? =some (.ref tp))(h1:vs[1]? =some .none):ObjOk P w H h a (excN C a dx):=
 ⟨⟨o,vs,tp,e,hc,hd,hx,h0,h1⟩,⟨o,e⟩,fun _ _ ⟨o',vs',tp',q,r⟩ k=>⟨o',vs',tp',k _ q,r⟩⟩
theorem xdO_ok {mA:Str→Option Value}{fs:List (Str×V)}(n:h.Ns1 a mA)(r:∀f,RelO (fs.lookup f) (mA f)):ObjOk P w H h a (xdO a fs):=by
 obtain ⟨o,_,_,e,_⟩:=id n
 refine ⟨⟨mA,n,r⟩,⟨o,e⟩,fun h1 h2 z k=> ?_⟩
 obtain ⟨mA',⟨o',es,ep,e',rr⟩,r'⟩:=z
 exact ⟨mA',⟨o',es,ep,k _ e',rr⟩,r'⟩
theorem upd_selfG {o:HO}(e:H a=some o):upd H a o=H:=by
 funext b
 by_cases c:b=a
 ·subst c
  rw [upd_same,e]
 ·rw [upd_ne c]
end
section
variable {X:Cx}
inductive tExcI_ (K:Frag)(Q:VK)(vs:List V)(H1:Hp):Prop where
 | mk (a C dx rest:_) (_:vs=.ref a::rest) (_:H1 a=some (excN C a dx)) (_:TyExc.ExcK K C) (_:PySem.W.mroIn K C (.type "ValueError")=some true) (_:rest.length≤sizeLine) (_:Q .non H1):tExcI_ K Q vs H1
def tExcI (K:Frag)(ta:TA):TE:=fun σ H Q=>ta σ H fun vs H1=>tExcI_ K Q vs H1
structure YardI (K:Frag)(Y:Addr):Prop where
 ga:PySem.W.specialIn K (.ref Y) "__getattribute__"=some (some (.builtin "type.__getattribute__"))
 rd:PySem.W.readsIn K Y (.type "type")=true
 fi:PySem.W.findCls K (.ref Y) (.type "type") "__init__"=some (.val (.builtin "ValueError.__init__"))
theorem pe_excI {y:Str}{Y:Addr}{np apos pos:Pos}{e:Expr}{es:List Expr}{t:TA}{pl:Sem Bool}(hY:YardI X.K Y)(hm:X.mg y=some (.ref Y))(ha:PA X (e::es) t)(hg:Gl X y:=by rfl)(hdb:(y==("__debug__":Str))=false:=by decide)
  (hst:starEach (e::es) X.env=(false,eval e X.env)::starEach es X.env:=by rfl) (hpl:(backTo pos (starEach es X.env)).any (·.1)=false:=by rfl)
  (ht:eval (.Call (.Attribute (.Name y np) "__init__" apos) (e::es) [] pos) X.env=(do
   let ov ← eval (.Name y np) X.env
   standAt apos.atName
   let (f,first) ← holding [ov] (getMethod ov "__init__" pl)
   callWith pos f first (backTo pos (starEach (e::es) X.env)) (backToKw pos (keywordEach [] X.env))):=by rfl):
  PE X (.Call (.Attribute (.Name y np) "__init__" apos) (e::es) [] pos) (tExcI X.K t):=by
 intro pins s σ H Q I h
 refine PySem.W.methodCall_KW (pl:=pl) (ld_glob I hg hm ?_ hdb) ht
 refine PySem.W.method_cls I.kIn hY.ga (PySem.W.cls_value I.kIn hY.rd hY.fi rfl ?_)
 have I1:=I.tok (s.toks+1)
 refine PyProof.Rows.callWith_method1 (first:=[]) (thn (ha pos pins _ σ H _ I1 h) fun us s2 ⟨vs,H2,I2,r,q⟩=> ?_) hst hpl
 obtain ⟨a,C,dx,rest,rfl,ea,F,hv,hl,q⟩:=q
 cases r with
 | @cons _ u _ us' r1 rr=>
  cases (show u=Value.ref a from r1)
  obtain ⟨⟨o,ws,tp,e1,e2,e3,e4,e5,e6⟩,_⟩:=(show ObjOk X.prog X.w H2 s2.heap a (excN C a dx) from I2.hok a _ ea)
  have h0:0 < ws.size:=by
   have:=(Array.getElem?_eq_some_iff.mp e5).1
   omega
  obtain ⟨hp,g,d,tk,os⟩:=s2
  refine wpAny_call (TyExc.init_exc I2.kIn e1 e2 e3 h0 hv F.is (by rw [← rr.length];exact hl) fun h' vs' k1 k2 k3 k4 k5=> ?_)
  obtain ⟨tp',k4⟩:=k4
  have I3:=I2.write (x:=a) (e:=a) (o:=excN C a dx) (h' :=h') (t' :=tk) (by rw [ea];exact True.intro) (.inl rfl) (fun b q hb z=>k5 b q hb z) ⟨_,k1⟩ (excN_ok k1 e2 rfl e4 k4 (k3.trans e6))
  rw [upd_selfG ea] at I3
  exact ⟨.non,H2,I3,rfl,q⟩
def sExcF (K:Frag)(ta tv:TE)(f:Str):TS:=fun D σ H=>tv σ H fun y H1=>ta σ H1 fun x H2=>∃a C,x=.ref a∧TyExc.ExcF K C f∧
 ((H2 a=some (excN C a none)∧∀d,H2 d=none→d≠a→D.nx σ (upd (upd H2 d (xdO d [(f,y)])) a (excN C a (some d))))∨
  (∃dx fs,H2 a=some (excN C a (some dx))∧dx≠a∧H2 dx=some (xdO dx fs)∧fs.length < 1000∧D.nx σ (upd H2 dx (xdO dx (putF f y fs)))))
theorem ps_excF {o value:Expr}{f:Str}{pos pos' :Pos}{ta tv:TE}(ha:PE X o ta)(hv:PE X value tv)(hs:swapsWith value (some (.Attribute o f pos')) pos.line X.env=pure false):PS X (.Assign [.Attribute o f pos'] value pos) (sExcF X.K ta tv f):=by
 intro pins s σ H D I h
 refine plainObj_wpAny_Assign_Attribute (thn (hv pins s σ H _ I h) fun u s1 ⟨y,H1,I1,ry,q⟩=>thn (ha pins s1 σ H1 _ I1 q) fun ov s2 ⟨x,H2,I2,rx,a,C,ex,F,q2⟩=> ?_) hs
 subst ex
 obtain rfl:ov=Value.ref a:=rx
 obtain ⟨cd,hc,hh,ho⟩:=F.cd
 rcases q2 with ⟨ea,q3⟩ | ⟨dx,fs,ea,nd,ed,hl,q3⟩
 ·obtain ⟨⟨oe,ws,tp,e1,e2,e3,e4,e5,e6⟩,_⟩:=(show ObjOk X.prog X.w H2 s2.heap a (excN C a none) from I2.hok a _ ea)
  refine TyExc.setattr_exc0 I2.kIn e1 e2 e3 e4 F.k F.sa hc hh ho F.nf fun h' tk k1 k2 k3=> ?_
  have nl:s2.heap.objs.size≠a:=fun z=>by have:=Heap.lt_size e1;rw [← z] at this;exact Nat.lt_irrefl _ this
  obtain ⟨oD,esD,epD,eD,dD,rD⟩:=id k2
  have nf:oD.isFreed=false:=not_freed eD
  have J1:Inv X pins σ (upd H2 s2.heap.objs.size (xdO s2.heap.objs.size [(f,y)])) {s2 with heap:=s2.heap.push oD,toks:=s2.toks}:=by
   refine I2.laid (t' :=s2.toks) (fun b u q=>Heap.get?_push_of_some _ q) (Nat.le_refl _) (xdO_ok (mA:=fun z=>if z=f then some u else none) ⟨oD,esD,epD,Heap.get?_push_size s2.heap nf,dD,rD⟩ fun z=> ?_)
   show RelO (List.lookup z [(f,y)]) (if z=f then some u else none)
   by_cases c:z=f
   ·have hb:(z==f)=true:=beq_iff_eq.mpr c
    rw [if_pos c]
    simp only [List.lookup,hb]
    exact ry
   ·have hb:(z==f)=false:=beq_eq_false_iff_ne.mpr c
    rw [if_neg c]
    simp only [List.lookup,hb]
    trivial
  have ea' :(upd H2 s2.heap.objs.size (xdO s2.heap.objs.size [(f,y)])) a=some (excN C a none):=by rw [upd_ne (Ne.symm nl)];exact ea
  have J2:=J1.write (x:=a) (e:=a) (o:=excN C a (some s2.heap.objs.size)) (h' :=h') (t' :=tk) (by rw [ea'];exact True.intro) (.inl rfl) (fun b q hb z=> ?_) ⟨_,k1⟩ (excN_ok k1 e2 e3 rfl e5 e6)
  ·exact ⟨σ,_,J2,q3 _ (I2.hok.fresh (Nat.le_refl _)) nl⟩
  ·by_cases c:b=s2.heap.objs.size
   ·subst c
    have z' :(s2.heap.push oD).get? s2.heap.objs.size=some q:=z
    rw [Heap.get?_push_size s2.heap nf] at z'
    cases z'
    exact eD
   ·have z' :s2.heap.get? b=some q:=(Heap.get?_push_ne s2.heap b oD c).symm.trans z
    exact k3 b q hb z'
 ·obtain ⟨⟨oe,ws,tp,e1,e2,e3,e4,e5,e6⟩,_⟩:=(show ObjOk X.prog X.w H2 s2.heap a (excN C a (some dx)) from I2.hok a _ ea)
  obtain ⟨⟨mA,n1,r1⟩,_⟩:=(show ObjOk X.prog X.w H2 s2.heap dx (xdO dx fs) from I2.hok dx _ ed)
  have wi:PySem.Within mA (fs.map (·.1)):=fun z hz=>by
   cases el:fs.lookup z with
   | none=>
    have:=r1 z
    rw [el] at this
    exact absurd (RelO.none_of this) hz
   | some v=>
    have:∀{l:List (Str×V)},l.lookup z=some v→z∈l.map (·.1):=fun {l}=>by
     induction l with
     | nil=>intro h;cases h
     | cons p l ih=>
      intro h
      obtain ⟨k,w⟩:=p
      by_cases c:z=k
      ·subst c
       exact List.mem_cons_self
      ·have hb:(z==k)=false:=beq_eq_false_iff_ne.mpr c
       simp only [List.lookup,hb] at h
       exact List.mem_cons_of_mem _ (ih h)
    exact this el
  refine TyExc.setattr_exc1 I2.kIn e1 e2 e3 e4 nd n1 wi (by rw [List.length_map,sizeLine_eq];omega) F.k F.sa hc hh ho F.nf fun h' tk k1 k2=> ?_
  have hd:∃o,h'.get? dx=some o:=by obtain ⟨o,_,_,e',_⟩:=k1;exact ⟨o,e'⟩
  have J:=I2.write (x:=dx) (e:=dx) (o:=xdO dx (putF f y fs)) (h' :=h') (t' :=tk) (by rw [ed];exact True.intro) (.inl rfl) (fun b q hb z=>(k2.2 b hb).trans z) hd (xdO_ok k1 fun z=> ?_)
  ·exact ⟨σ,_,J,q3⟩
  ·show RelO ((putF f y fs).lookup z) (if z=f then some u else mA z)
   rw [lookup_putF]
   by_cases c:z=f
   ·rw [if_pos c,if_pos c];exact ry
   ·rw [if_neg c,if_neg c];exact r1 z
inductive tExcG_ (K:Frag)(f:Str)(Q:VK)(x:V)(H1:Hp):Prop where
 | mk (a C dx fs v:_) (_:x=.ref a) (_:H1 a=some (excO (.ref C) a (some dx))) (_:H1 dx=some (xdO dx fs)) (_:TyExc.ExcF K C f) (_:fs.lookup f=some v) (_:Q v H1):tExcG_ K f Q x H1
def tExcG (K:Frag)(ta:TE)(f:Str):TE:=fun σ H Q=>ta σ H fun x H1=>tExcG_ K f Q x H1
theorem pe_excG {e:Expr}{f:Str}{pos:Pos}{ta:TE}(he:PE X e ta)(hb:attributeBase e f X.env (eval e X.env)=eval e X.env):PE X (.Attribute e f pos) (tExcG X.K ta f):=by
 intro pins s σ H Q I h
 refine attr_of hb (thn (he pins s σ H _ I h) fun u s1 ⟨x,H1,I1,rx,a,C,dx,fs,v,ex,ea,ed,F,l,q⟩=> ?_)
 subst ex
 obtain rfl:u=Value.ref a:=rx
 obtain ⟨⟨oe,ws,e1,e2,e3,e4⟩,_⟩:=(show ObjOk X.prog X.w H1 s1.heap a (excO (.ref C) a (some dx)) from I1.hok a _ ea)
 obtain ⟨⟨mA,n1,r1⟩,_⟩:=(show ObjOk X.prog X.w H1 s1.heap dx (xdO dx fs) from I1.hok dx _ ed)
 obtain ⟨od,hod,hlk⟩:=lookIn_ns n1
 obtain ⟨u,hu,ru⟩:=RelO.some_of (v:=v) (o:=mA f) (by rw [← l];exact r1 f)
 have J:PySem.W.InstAt s1.heap a oe C (some od):=⟨e1,e2,by unfold PySem.W.notCls;rw [e3],by rw [e4];exact hod⟩
 exact TyExc.getattr_exc I1.kIn F.k J (PySem.W.findObj_own F.hd F.nf rfl (by rw [hlk,hu])) (handed_of ru) ⟨v,H1,I1.tok _,ru,q⟩
end
end Ty
set_option maxHeartbeats 1000000
namespace Ty
open PySem PySem.Spec PyProof.Rows L2
abbrev bmV:List Value:=[Value.type "ValueError",Value.type "Exception",Value.type "BaseException",Value.type "object"]
structure ExcC (K:Frag)(C fi:Addr):Prop where
 obj:∃nm q N bs bm hdct sn sub ab col dd k0 k1 k2 k3 k5,K.lookup C=some (excClassObj nm q C N bs bm hdct sn sub ab col dd k0 k1 k2 k3 k5 "ValueError.__new__")∧PySem.W.tailIn K bmV bm=true
 init:PySem.W.findIn K (.ref C) "__init__"=some (some (.ref fi))
 fn:PySem.W.isFn K (.ref fi)=true
 kp:keepIn K (.ref C)=true
def dropH (H:Hp)(e:Addr):Hp:=fun b=>if b=e then none else H b
theorem dropH_ne {H:Hp}{e b:Addr}(n:b≠e):dropH H e b=H b:=by unfold dropH;rw [if_neg n]
theorem dropH_same {H:Hp}{e:Addr}:dropH H e e=none:=by unfold dropH;rw [if_pos rfl]
theorem un_drop {fs ex:List Addr}{H:Hp}{h:Heap}{e:Addr}{φ:Heap→Prop}(he:H e=some (.ext φ)):Un fs ex H (dropH H e) h h:=by
 have ne:∀{b:Addr} {o:HO},H b=some o→(∀ψ,o≠.ext ψ)→b≠e:=fun z n q=>by rw [q,he] at z;cases z;exact n _ rfl
 refine ⟨fun b o q _ _ _=>q,fun b o q _ _ _=>⟨o.slots,q⟩,fun b o q n _=> ?_,fun b o q _=>⟨o,q⟩,fun b xs q=> ?_,fun b o u q=> ?_,fun b ps q=> ?_⟩
 ·by_cases c:b=e
  ·rw [c,dropH_same]
  ·rw [dropH_ne c];exact n
 ·rw [dropH_ne (ne q fun ψ z=>nomatch z)];exact q
 ·rw [dropH_ne (ne q fun ψ z=>nomatch z)];exact q
 ·exact ⟨#[],by rw [dropH_ne (ne q fun ψ z=>nomatch z),q];simp⟩
theorem hok_drop {P:Program}{w:World}{H:Hp}{h:Heap}{e:Addr}{φ:Heap→Prop}(he:H e=some (.ext φ))(ok:HOk P w H h):HOk P w (dropH H e) h:=fun b u q=>by
 have ne:∀{c:Addr} {o:HO},H c=some o→(∀ψ,o≠.ext ψ)→c≠e:=fun z n q=>by rw [q,he] at z;cases z;exact n _ rfl
 by_cases c:b=e
 ·rw [c,dropH_same] at q
  cases q
 ·rw [dropH_ne c] at q
  exact (ok b u q).stay (fun _ _ _ z=>z) (fun c z=>by rw [dropH_ne (ne z fun ψ z=>nomatch z)];exact z) fun c xs z=>by rw [dropH_ne (ne z fun ψ z=>nomatch z)];exact z
def tRaiseI (C:Addr)(sp:Sp)(E:XK)(ta:TA):TS:=fun _ σ H=>ta σ H fun vs H1=>vs.length≤sizeLine∧∀e,H1 e=none→sp (.ref e::vs) (upd H1 e (excN C e none)) (fun v H2=>v=.non∧∃dx,H2 e=some (excN C e dx)∧E (.ref C) dx (dropH H2 e)) E0
section
variable {P:Program}{w:World}{K:Frag}{mg:Str→Option Value}{base:Heap}{N:List Str}{qual:Str}{scope:Scope}{f:Addr}{cdv:Value}{A:Around}{outer:List Env}{s0:Shared}{H0:Hp}{E:XK}
theorem ps_raiseI {x:Str}{C fi:Addr}{fd:FuncData}{ps:List Str}{sp:Sp}{k:Nat}{e₀:Expr}{rest:List Expr}{np cpos pos:Pos}{ta:TA}(hX:ExcC K C fi)(F:FnOk P w K mg base (CXr P w) k fi fd ps sp)
  (hr:Room (k+1) (A.deeper (envOfC qual scope s0.heap.objs.size f cdv))) (hb:Binds K fd ps []) (hm:mg x=some (.ref C)) (ha:PA (cxr P w K mg base N qual scope f cdv A outer s0 H0 E).nox (e₀::rest) ta)
  (hg:Gl (cxr P w K mg base N qual scope f cdv A outer s0 H0 E) x:=by rfl) (hd:(x==("__debug__":Str))=false:=by decide)
  (he:starEach (e₀::rest) (cxr P w K mg base N qual scope f cdv A outer s0 H0 E).env=(false,eval e₀ (cxr P w K mg base N qual scope f cdv A outer s0 H0 E).env)::starEach rest (cxr P w K mg base N qual scope f cdv A outer s0 H0 E).env:=by rfl)
  (hp:(backTo cpos (starEach rest (cxr P w K mg base N qual scope f cdv A outer s0 H0 E).env)).any (·.1)=false:=by rfl):
  PS (cxr P w K mg base N qual scope f cdv A outer s0 H0 E) (.Raise (some (.Call (.Name x np) (e₀::rest) [] cpos)) none pos) (tRaiseI C sp E ta):=by
 intro pins s σ H D I h
 obtain ⟨nm,q,Na,bs,bm,hdct,sn,sub,ab,col,dd,k0,k1,k2,k3,k5,hlk,htl⟩:=hX.obj
 have hin:∀env∈(cxr P w K mg base N qual scope f cdv A outer s0 H0 E).stack,∀b,env.frame=some b→b∈frs (cxr P w K mg base N qual scope f cdv A outer s0 H0 E).stack:=fun env he b hb=>List.mem_filterMap.mpr ⟨env,he,hb⟩
 have FB:=PySem.F.excBase_ValueError
 have hbase:bm.contains (Value.type "BaseException")=true:=(PySem.W.tail_of_in I.kIn htl).hasType FB.hasBase
 rw [arm_exec_Raise]
 refine wpAny_bind (wpAny_standAt (TyExc.raise_own (C:=C) (nm:=nm) (q:=q) (N:=Na) (bs:=bs) (bm:=bm) (hdct:=hdct) (sn:=sn) (sub:=sub) (ab:=ab) (col:=col) (dd:=dd) (k0:=k0) (k1:=k1) (k2:=k2) (k3:=k3) (k5:=k5) (newId:="ValueError.__new__") hbase hr.hd ?_))
 refine wpAny_bind ?_
 refine wpAny_Call_Name_kw (ld_glob I hg hm ?_ hd)
 refine PySem.W.callWith_K (h₀:=base) I.ok.mod.kin hX.kp (wpAny_mono (ha cpos pins s σ H _ (I.wish _) h) (fun us s1 ⟨vs,H1,I1,r,hl,q1⟩=>⟨I1.kIn,?_⟩) fun _ _ z=>z.elim) he hp
 have I2:Inv (cxr P w K mg base N qual scope f cdv A outer s0 H0 E) pins σ H1 s1:=I1.unwish
 obtain ⟨h1,g1,d1,t1,o1⟩:=s1
 have T:OwnTail h1 bmV bm:=PySem.W.tail_of_in I2.kIn htl
 have hC:h1.get? C=some (excClassObj nm q C Na bs bm hdct sn sub ab col dd k0 k1 k2 k3 k5 "ValueError.__new__"):=I2.kIn _ _ hlk
 have hlu:us.length≤sizeLine:=by rw [← r.length];exact hl
 have hq:=q1 (h1.objs.size+1) (I2.hok.fresh (Nat.le_succ _))
 refine TyExc.call_own FB T hC I2.kIn hX.init (beq_iff_eq.mp hX.fn) hlu ?_
 have kp:∀b o,h1.get? b=some o→(TyExc.newExcH h1 C us).get? b=some o:=fun b o e=>TyExc.newExcH_keeps e
 have I3:Inv (cxr P w K mg base N qual scope f cdv A outer s0 H0 E) pins σ (upd H1 (h1.objs.size+1) (excN C (h1.objs.size+1) none)) ⟨TyExc.newExcH h1 C us,g1,d1,t1,o1⟩:=
  I2.laid (t' :=t1) kp (Nat.le_succ _) (excN_ok TyExc.newExcH_at rfl rfl rfl rfl rfl)
 have r2:Vals (V.ref (h1.objs.size+1)::vs) (Value.ref (h1.objs.size+1)::us):=.cons rfl r
 have hl2:(Value.ref (h1.objs.size+1)::us++[]).length=ps.length:=by
  rw [List.append_nil, ← r2.length]
  exact F.len _ _ _ _ hq
 have bt:=hb ⟨TyExc.newExcH h1 C us,g1,d1,t1,o1⟩ (Value.ref (h1.objs.size+1)::us) I3.kIn hl2
 rw [List.append_nil] at bt
 refine wpAny_call (codeAny_mono (F.run _ (cxr P w K mg base N qual scope f cdv A outer s0 H0 E).stack _ _ ⟨Value.ref (h1.objs.size+1)::us,[]⟩ (Value.ref (h1.objs.size+1)::us) _ _ E0 (hr.make C us []) (I3.env0.make C us []) bt r2 hq) fun rr s' hq' => ?_)
 cases rr with
 | error e=>exact (CXr.mute _ _ _ _ _ hq').elim
 | ok fl=>
  cases fl with
  | ret u=>
   obtain ⟨v,H',os',bare',un',hok',ru,ev,dx,ee,hE⟩:=hq'
   subst ev
   refine ⟨ru,wpAny_bind (wpAny_standAt (wpAny_pure ?_))⟩
   obtain ⟨⟨oe,ws,tp,e1,e2,e3,e4,e5,e6⟩,_⟩:=(show ObjOk P w H' s'.heap (h1.objs.size+1) (excN C (h1.objs.size+1) dx) from hok' _ _ ee)
   have I4:Inv (cxr P w K mg base N qual scope f cdv A outer s0 H0 E) pins σ H' s' :=I3.call' (ch:=[]) os' un' hok' bare' fun b z=>absurd z (by simp)
   refine ⟨h1.objs.size+1,oe,ws,rfl,I4.kIn _ _ hlk,e1,e2,e3,e6,?_⟩
   show wpAny (model P w) (A.deeper (envOfC qual scope s0.heap.objs.size f cdv)) (leaving (envOfC qual scope s0.heap.objs.size f cdv) (.ref (h1.objs.size+1))) _ _ s'
   have hne:h1.objs.size+1∉frs (cxr P w K mg base N qual scope f cdv A outer s0 H0 E).stack:=fun z=>by
    have:=I4.stkFree _ z
    rw [ee] at this
    cases this
   have ffB:=PySem.W.funFrames_hide (as:=(h1.objs.size+1)::frs (cxr P w K mg base N qual scope f cdv A outer s0 H0 E).stack) I4.stack (fun env he b hb=>List.mem_cons_of_mem _ (hin env he b hb))
   generalize hB:PySem.W.hideAll s'.heap ((h1.objs.size+1)::frs (cxr P w K mg base N qual scope f cdv A outer s0 H0 E).stack)=B at ffB
   have st:B.StaysIn s'.heap:=fun b o q=>by rw [← hB] at q;exact PySem.W.of_hideAll _ q
   have bn:B.get? (h1.objs.size+1)=none:=by rw [← hB];exact PySem.W.hideAll_none _ List.mem_cons_self
   have da:DictAt s'.heap (h1.objs.size+1) dx:=⟨oe,e1,e4⟩
   refine wpAny_mono (Kp.any kp_leaving (wpAny_leaving_firstW (outer:=outer) (s:=s') (base:=B) (Q:=fun _ s3=>∃h2,s3={s' with heap:=h2}∧B.LeftW (envOfC qual scope s0.heap.objs.size f cdv::outer) (h1.objs.size+1) oe.cls (.ref tp) s'.heap h2) (E:=fun _ _=>False) I.ok.frames ffB rfl e1 st bn e3 e6 e5 fun h2 lw=>⟨h2,rfl,lw⟩)) (fun _ s3 z=> ?_) fun _ _ z=>z.elim
   obtain ⟨⟨h2,rfl,lw1,lw2,lw3,lw4⟩,kd⟩:=z
   have un0:Un (frs (cxr P w K mg base N qual scope f cdv A outer s0 H0 E).stack) [] H1 (upd H1 (h1.objs.size+1) (excN C (h1.objs.size+1) none)) h1 (TyExc.newExcH h1 C us):=Un.laid kp (Nat.le_succ _) (I2.hok.fresh (Nat.le_succ _))
   have unA:=(un0.trans un').trans (un_drop (e:=h1.objs.size+1) ee)
   rw [e2] at lw3
   have fl:B.FlyingW outer (h1.objs.size+1) (.ref C) (.ref tp) h2:=⟨lw1,bn,lw2.2.2,lw3⟩
   refine out_of (s' :=s') (H:=H1) (s:=⟨h1,g1,d1,t1,o1⟩) I2 fl (da.kd kd) ffB st unA (hok_drop ee hok') os' bare' (fun b o eb hb=> ?_) (fun b u eb=> ?_) lw4 hE
   ·obtain ⟨o',e'⟩:=(un0.trans un').there b o eb (by simp)
    refine ⟨o',?_⟩
    rw [← hB]
    refine PySem.W.hideAll_get _ e' fun z=> ?_
    rcases List.mem_cons.mp z with z | z
    ·have:=Heap.lt_size eb
     rw [z] at this
     simp only [Addr] at*
     omega
    ·exact hb z
   ·have nb:b≠h1.objs.size+1:=fun z=>by rw [z,dropH_same] at eb;cases eb
    rw [dropH_ne nb] at eb
    obtain ⟨o,ho⟩:=obj_some (hok' b u eb)
    refine ⟨o,?_⟩
    rw [← hB]
    refine PySem.W.hideAll_get _ ho fun z=> ?_
    rcases List.mem_cons.mp z with z | z
    ·exact nb z
    ·have:=I4.stkFree b z
     rw [eb] at this
     cases this
  | next=>exact False.elim hq'
  | brk=>exact False.elim hq'
  | cont=>exact False.elim hq'
end
end Ty
set_option maxHeartbeats 4000000
namespace Ty
open PySem PySem.Spec PyProof.Rows L2
section
variable {prog:Program}{w:World}{A:Around}{R:Result→Shared→Prop}{s:Shared}
theorem compLoop_any {elt target iter:Expr}{ifs:List Expr}{scope:Scope}{pos:Pos}{it acc:Value}{env:Env}(I:Nat→Shared→Prop)
  (turn:∀n s,I n s→wpAny (model prog w) A (pyNext it) (fun r s₁=>match r with
   | none=>R (.ok .next) s₁
   | some v=>wpAny (model prog w) A (letOwnedTupleGo target it v) (fun _ s₁' =>wpAny (model prog w) A (assign target env v) (fun _ s₂=>
     wpAny (model prog w) A (forIn ifs true fun c r=>if r=true then do let ok ← isTrue c env (eval c env);pure (ForInStep.yield ok) else pure (ForInStep.yield r)) (fun ok s₃=>
      if ok=true then wpAny (model prog w) A (eval elt env) (fun x s₄=>
       wpAny (model prog w) A (call (.builtin "list.append") [acc,x]) (fun _ s₅=>∃m,m < n∧I m s₅) (fun _ _=>False) s₄) (fun _ _=>False) s₃
      else ∃m,m < n∧I m s₃) (fun _ _=>False) s₂) (fun _ _=>False) s₁') (fun _ _=>False) s₁) (fun _ _=>False) s)
  (n:Nat) (h:I n s):
  codeAny (model prog w) A (.compLoop (.ListComp elt [⟨target,iter,ifs,0⟩] scope pos) 0 it acc env) R s:=by
 refine codeAny_loop rfl I (fun n s hI=> ?_) n h
 show wpAny _ A ((compTurn (.ListComp elt [⟨target,iter,ifs,0⟩] scope pos) 0 it acc env).onRaise (fun x=>do noteFrame x env;theTreesLotGoes x)) _ _ s
 refine wpAny_noted ?_
 rw [compTurn_list]
 refine wpAny_bind (wpAny_standAt (wpAny_bind (wpAny_mono (turn n s hI) (fun r s₁ h₁=> ?_) fun _ _ h' =>h'.elim)))
 cases r with
 | none=>exact wpAny_pure h₁
 | some v=>
  refine wpAny_bind (wpAny_mono h₁ (fun _ s₁' h₁' => ?_) fun _ _ h' =>h'.elim)
  refine wpAny_bind (wpAny_mono h₁' (fun _ s₂ h₂=>wpAny_bind (wpAny_mono h₂ (fun ok s₃ h₃=> ?_) fun _ _ h' =>h'.elim)) fun _ _ h' =>h'.elim)
  cases ok with
  | false=>exact wpAny_pure ⟨rfl,h₃⟩
  | true=>
   exact wpAny_bind (wpAny_bind (wpAny_mono h₃ (fun x s₄ h₄=>wpAny_bind (wpAny_mono h₄ (fun _ s₅ h₅=>wpAny_pure (wpAny_pure ⟨rfl,h₅⟩)) fun _ _ h' =>h'.elim)) fun _ _ h' =>h'.elim))
end
def capCl (env:Env)(fr:List Str):List (Str×Addr):=fr.filterMap fun n=>(env.cells.lookup n).map fun c=>(n,c)
theorem lookup_mem {α:Type}{x:Str}{c:α}:∀{l:List (Str×α)},l.lookup x=some c→(x,c)∈l
 | [],h=>by simp at h
 | (y,d)::r,h=>by
  rw [List.lookup_cons] at h
  cases e:x==y with
  | true=>
   rw [e] at h
   have e1:x=y:=by simpa using e
   cases h
   rw [e1]
   exact List.mem_cons_self
  | false=>
   rw [e] at h
   exact List.mem_cons_of_mem _ (lookup_mem h)
theorem capCl_mem {env:Env}{fr:List Str}{x:Str}{c:Addr}(h:(x,c)∈capCl env fr):env.cells.lookup x=some c:=by
 obtain ⟨n,_,e⟩:=List.mem_filterMap.mp h
 cases q:env.cells.lookup n with
 | none=>rw [q] at e;cases e
 | some d=>
  rw [q] at e
  have e' :(n,d)=(x,c):=Option.some.inj e
  cases e'
  exact q
theorem capCl_get {env:Env}{fr:List Str}{x:Str}{c:Addr}(h:(capCl env fr).lookup x=some c):env.cells.lookup x=some c:=capCl_mem (lookup_mem h)
theorem capCl_has {env:Env}{x:Str}{c:Addr}(q:env.cells.lookup x=some c):∀{fr:List Str},x∈fr→(capCl env fr).lookup x=some c
 | [],h=>nomatch h
 | y::r,h=>by
  unfold capCl
  rw [List.filterMap_cons]
  by_cases e:x=y
  ·subst e
   rw [q]
   simp
  ·have hr:x∈r:=by
    rcases List.mem_cons.mp h with z | z
    ·exact absurd z e
    ·exact z
   have ih:=capCl_has q hr
   cases z:env.cells.lookup y with
   | none=>exact ih
   | some d=>
    show List.lookup x ((y,d)::_)=_
    rw [List.lookup_cons]
    have ne:(x==y)=false:=by simpa using e
    rw [ne]
    exact ih
def AllCap (env:Env):List Str→Prop
 | []=>True
 | y::r=>(env.kindOf y=some .cell∨env.kindOf y=some .free)∧AllCap env r
theorem AllCap.at {env:Env}{x:Str}:∀{fr:List Str},AllCap env fr→x∈fr→env.kindOf x=some .cell∨env.kindOf x=some .free
 | [],_,h=>nomatch h
 | y::r,a,h=>by
  rcases List.mem_cons.mp h with z | z
  ·rw [z]
   exact a.1
  ·exact AllCap.at a.2 z
section
variable {X:Cx}
def cxB (X:Cx)(NB:List Str)(scope:Scope)(cl:List (Str×Addr))(C:Addr)(s:Shared)(H:Hp)(fp:List Addr):Cx:=
 {prog:=X.prog,w:=X.w,K:=X.K,mg:=X.mg,base:=X.base,A:=X.A,N:=NB,s₀:=s,H₀:=H,env:=compEnvC scope cl C X.env,outer:=X.stack,stack:=X.stack,ex:=fp,fn:=fun _=>false,calm:=X.calm,pn:=[],xe:=fun _ _=>False}
structure BlkS (X:Cx)(scope:Scope)(fr:List Str)(caps:List Nat):Prop where
 clos:closureFor scope X.env=pure (capCl X.env fr)
 cell:∀y∈scope.names,y.2≠.cell
 kind:scope.kind=.function
 names:∀y∈scope.names,y.2=.local→scope.names.lookup y.1=some .local
 free:∀y∈scope.names,y.2=.free→y.1∈fr
 caps:caps.map (fun i=>X.N[i]?)=fr.map some
 out:AllCap X.env fr
 inn:AllCap (compEnvC scope [] 0 X.env) fr
def PF (X:Cx)(ifs:List Expr)(t:TT):Prop:=
 ∀(pins:List (Addr×Obj)) (s:Shared) (σ:L2.St) (H:Hp) (Q:Bool→Hp→Prop),Inv X pins σ H s→t σ H Q→
  wpAny (model X.prog X.w) X.A (forIn ifs true fun c r=>if r=true then do let ok ← isTrue c X.env (eval c X.env);pure (ForInStep.yield ok) else pure (ForInStep.yield r)) (TP X pins σ Q) X.xe s
def tYes:TT:=fun _ H Q=>Q true H
theorem pf_nil:PF X [] tYes:=fun _ _ _ H _ I h=>wpAny_tests_nil ⟨H,I,h⟩
theorem pf_one {c:Expr}{t:TT}(h:PT X c t):PF X [c] t:=fun pins s σ H Q I q=>wpAny_tests_one (h pins s σ H Q I q)
def sB (k:Nat)(caps:List Nat)(σ:L2.St):L2.St:=List.replicate k none++caps.map fun i=>(σ[i]?).getD none
def tBlk (D:Addr)(g:TG)(tt:TT)(te:TE)(J:It)(σ0:L2.St)(H1:Hp)(Q:VK):Prop:=∃W:Nat→Nat→L2.St→List V→Hp→Prop,
 (∃m,W 0 m σ0 [] (upd H1 D (.lst [])))∧∀i m σ2 ys H2,W i m σ2 ys H2→(J.stop i H2∧Q (.ref D) H2)∨(J.go i H2∧∀x H3,J.yld i H2 x H3→g x σ2 H3 fun σ4 H4=>tt σ4 H4 fun b H5=>
  if b=true then te σ4 H5 fun v H6=>H6 D=some (.lst ys)∧ys.length < sizeLine∧∃m',m' < m∧W (i+1) m' σ4 (ys++[v]) (upd H6 D (.lst (ys++[v]))) else ∃m',m' < m∧W (i+1) m' σ4 ys H5)
def tComp (k:Nat)(caps:List Nat)(wi:TI)(g:TG)(tt:TT)(te:TE):TE:=fun σ H Q=>wi σ H fun J H1=>∀D,H1 D=none→tBlk D g tt te J (sB k caps σ) H1 Q
theorem sB_get {k:Nat}{caps:List Nat}{σ:L2.St}{i:Nat}{v:V}(h:(sB k caps σ)[i]? =some (some v)):k≤i∧∃j,caps[i - k]? =some j∧σ[j]? =some (some v):=by
 unfold sB at h
 by_cases c:i < k
 ·rw [List.getElem?_append_left (by simpa using c),List.getElem?_replicate,if_pos c] at h
  cases h
 ·rw [List.getElem?_append_right (by simpa using Nat.le_of_not_lt c),List.length_replicate,List.getElem?_map] at h
  refine ⟨Nat.le_of_not_lt c,?_⟩
  cases e:caps[i - k]? with
  | none=>rw [e] at h;cases h
  | some j=>
   rw [e] at h
   refine ⟨j,rfl,?_⟩
   have h' :(σ[j]?).getD none=some v:=Option.some.inj h
   cases z:σ[j]? with
   | none=>rw [z] at h';cases h'
   | some o=>
    rw [z] at h'
    exact congrArg some h'
theorem comp_block {elt target iter:Expr}{ifs:List Expr}{scope:Scope}{pos:Pos}{tn fr:List Str}{caps:List Nat}{g:TG}{tt:TT}{te:TE}{pins:List (Addr×Obj)}{σ:L2.St}{H2:Hp}{s2:Shared}{J:It}{fp:List Addr}{it:Addr}
  {tnn:Nat→Heap→Prop} {Q:VK} {RR:Value→Addr→Result→Shared→Prop} {E:Value→Shared→Prop} (hc:X.calm=true) (B:BlkS X scope fr caps)
  (hg:∀C s H fp,PG (cxB X (tn++fr) scope (capCl X.env fr) C s H fp) target g) (ht:∀C s H fp,PF (cxB X (tn++fr) scope (capCl X.env fr) C s H fp) ifs tt) (he:∀C s H fp,PE (cxB X (tn++fr) scope (capCl X.env fr) C s H fp) elt te)
  (I2:Inv X pins σ H2 s2) (T:Turn X.prog X.w X.K target J fp it tnn) (st2:tnn 0 s2.heap) (f2:∀b∈fp,FpOk X pins H2 b) (q:∀D,H2 D=none→tBlk D g tt te J (sB tn.length caps σ) H2 Q)
  (fin:∀D C H' s' m,Inv X pins σ H' s' →s'.heap.Ns C m→FpOk X pins H' C→Q (.ref D) H' →RR (.ref D) C (.ok .next) s'):
  wpAny (model X.prog X.w) X.A (newList []) (fun acc s₃=>wpAny (model X.prog X.w) X.A (newFunctionEnv scope X.env.globals (capCl X.env fr) [] X.env.qual none .none (some X.env)) (fun cenv s₄=>
   codeAny (model X.prog X.w) X.A (.compStart (.ListComp elt [⟨target,iter,ifs,0⟩] scope pos) 0 (.ref it) acc {cenv with scope:=relabel scope X.env}) (RR acc cenv.locals) s₄) E s₃) E s2:=by
 refine wpAny_newObj_type (wpAny_newFunctionEnv B.cell (by intro y hy;simp at hy) (fun h₁ hns₁ hsb₁=> ?_) B.kind)
 have I3:Inv X pins σ (upd H2 s2.heap.objs.size (.lst [])) {s2 with heap:=s2.heap.push {cls:=.type "list",data:=.seq ([]:List Value).toArray}}:=I2.lnew (t' :=s2.toks) (its:=[]) .nil (Nat.zero_le _)
 obtain ⟨W,⟨m0,w0⟩,turn⟩:=q s2.heap.objs.size (I2.hok.fresh (Nat.le_refl _))
 generalize hH3:upd H2 s2.heap.objs.size (.lst [])=H3 at I3 w0
 have f3:∀b∈fp,FpOk X pins H3 b:=fun b hb=>by
  obtain ⟨a0,a1⟩:=f2 b hb
  refine ⟨?_,a1⟩
  obtain ⟨o,e,_⟩:=T.obj _ _ st2 b hb
  rw [← hH3,upd_ne (Nat.ne_of_lt (Heap.lt_size e))]
  exact a0
 generalize hD:s2.heap.objs.size=D at*
 generalize hs3:({s2 with heap:=s2.heap.push {cls:=.type "list",data:=.seq ([]:List Value).toArray}}:Shared)=s3 at*
 have e3:s3.heap=s2.heap.push {cls:=.type "list",data:=.seq ([]:List Value).toArray}:=by rw [← hs3]
 have st3:tnn 0 s3.heap:=T.keep _ _ _ st2 fun b _ o e=>by rw [e3];exact Heap.get?_push_of_some _ e
 have kept:∀b o,s3.heap.get? b=some o→h₁.get? b=some o:=fun b o e=>(hsb₁.2 b (Nat.ne_of_lt (Heap.lt_size e))).trans (Heap.get?_push_of_some _ e)
 generalize hC:s3.heap.objs.size=C at*
 have hCs:s3.heap.objs.size≤C:=Nat.le_of_eq hC
 have I4:Inv X pins σ H3 {s3 with heap:=h₁,toks:=s3.toks+([]:List (Str×Value)).length}:=I3.kept kept
 have fpC:∀b∈fp,b≠C:=fun b hb z=>by
  obtain ⟨o,e,_⟩:=T.obj _ _ st3 b hb
  exact absurd z (Nat.ne_of_lt (Nat.lt_of_lt_of_le (Heap.lt_size e) hCs))
 have nst:∀b∈fp,b∉frs X.stack:=fun b hb z=>(List.mem_cons.mp (I3.stkSub b z)).elim (f3 b hb).2.1 (f3 b hb).2.2.1
 have okB:(cxB X (tn++fr) scope (capCl X.env fr) C s3 H3 fp).Ok:=by
  refine ⟨I3.ok.mod,B.kind,I3.ok.glob,I3.ok.blt,hCs,fun x y c e1 e2=>I3.ok.inj x y c (capCl_get e1) (capCl_get e2),fun x hx=> ?_,fun x c z=>(nomatch z),I3.ok.hd,I3.ok.frames,.inl rfl,
   fun b hb=>⟨fpC b hb,fun x c e=>(f3 b hb).2.2.2.2.1 x c (capCl_get e)⟩,I3.bs,Nat.le_trans I3.ok.bsz I3.sz,fun b o e hb=> ?_,nst,I3.stack,I3.stkFree⟩
  ·have hm:∃k,(x,k)∈scope.names∧k≠.local∧(k=.cell∨k=.free):=by
    have:∃k',(relabel scope X.env).names.lookup x=some k' ∧(k' =.cell∨k' =.free):=by
     rcases hx with z | z
     ·exact ⟨_,z,.inl rfl⟩
     ·exact ⟨_,z,.inr rfl⟩
    obtain ⟨k',e',h'⟩:=this
    obtain ⟨⟨n,k⟩,hn,en⟩:=List.mem_map.mp (lookup_mem e')
    dsimp only at en
    by_cases cc:(k==NameKind.free && X.env.scope.kind==.function && X.env.kindOf n==some .cell)=true
    ·rw [if_pos cc] at en
     cases en
     have kf:k=.free:=by
      rw [Bool.and_eq_true,Bool.and_eq_true] at cc
      simpa using cc.1.1
     exact ⟨k,hn,(by intro z;rw [kf] at z;cases z),.inr kf⟩
    ·rw [if_neg cc] at en
     cases en
     exact ⟨k',hn,fun z' =>by rcases h' with y | y <;> (rw [y] at z';cases z'),h'⟩
   obtain ⟨k,hk,_,h2⟩:=hm
   rcases h2 with z | z
   ·exact absurd z (B.cell _ hk)
   ·have hf:=B.free _ hk z
    obtain ⟨c,ec⟩:=I3.ok.has x (B.out.at hf)
    exact ⟨c,capCl_has ec hf⟩
  ·obtain ⟨_,_,_,h1,_⟩:=f3 b hb
   rcases h1 with z | z
   ·exact I3.ok.noex b o e z
   ·exact Nat.lt_irrefl _ (Nat.lt_of_lt_of_le (Nat.lt_of_lt_of_le (Heap.lt_size e) I3.ok.bsz) z)
 have IB:Inv (cxB X (tn++fr) scope (capCl X.env fr) C s3 H3 fp) [] (sB tn.length caps σ) H3 {s3 with heap:=h₁,toks:=s3.toks+([]:List (Str×Value)).length}:=by
  refine ⟨okB,rfl,I3.bare,Un.kept kept,⟨_,hns₁,fun i x v e1 e2 _=> ?_⟩,fun x c e=>I4.cell x c (capCl_get e),?_,fun x c e=>I3.freeC x c (capCl_get e),fun p hp=>(nomatch hp),I3.hok.kept kept,?_⟩
  ·obtain ⟨hk,j,ej,es⟩:=sB_get e2
   have e1' :fr[i - tn.length]? =some x:=by
    have z:(tn++fr)[i]? =some x:=e1
    rw [List.getElem?_append_right hk] at z
    exact z
   have hx:x∈fr:=List.mem_of_getElem? e1'
   have eN:X.N[j]? =some x:=by
    have z:=congrArg (fun l:List (Option Str)=>l[i - tn.length]?) B.caps
    simp only [List.getElem?_map,ej,e1',Option.map_some] at z
    exact Option.some.inj z
   have ko:=B.out.at hx
   obtain ⟨m,hn,hl⟩:=I4.loc
   obtain ⟨u,r,lk⟩:=hl j x v eN es (by rcases ko with z | z;exact .inr (.inl z);exact .inr (.inr z))
   refine ⟨u,r,?_⟩
   rcases lk with ⟨k1,_⟩ | ⟨_,c,ec,ic⟩
   ·rcases ko with z | z <;> (rw [z] at k1;cases k1)
   ·exact .inr ⟨B.inn.at hx,c,capCl_has ec hx,ic⟩
  ·exact I3.hok.fresh hCs
  ·have:=congrArg List.length B.caps
   simp only [List.length_map] at this
   show (sB tn.length caps σ).length=(tn++fr).length
   unfold sB
   simp [this]
 have statB:∀{H' :Hp},(∀b∈fp,H' b=none)→∀b∈fp,FpOk (cxB X (tn++fr) scope (capCl X.env fr) C s3 H3 fp) [] H' b:=fun hn b hb=>
  ⟨hn b hb,fpC b hb,nst b hb,.inl hb,fun x c e=>(f3 b hb).2.2.2.2.1 x c (capCl_get e),fun p hp=>(nomatch hp)⟩
 have st4:tnn 0 h₁:=T.keep _ _ _ st3 fun b _ o e=>kept b o e
 have loop:codeAny (model X.prog X.w) X.A (.compLoop (.ListComp elt [⟨target,iter,ifs,0⟩] scope pos) 0 (.ref it) (.ref D) (compEnvC scope (capCl X.env fr) C X.env)) (RR (.ref D) C) {s3 with heap:=h₁,toks:=s3.toks+([]:List (Str×Value)).length}:=by
  refine compLoop_any (fun n s' =>∃i σ' ys H',Inv (cxB X (tn++fr) scope (capCl X.env fr) C s3 H3 fp) [] σ' H' s' ∧tnn i s'.heap∧(∀b∈fp,H' b=none)∧W i n σ' ys H') ?_ m0 ⟨0,_,[],H3,IB,st4,fun b hb=>(f3 b hb).1,w0⟩
  rintro n s5 ⟨i,σ5,ys,H5,I5,st5,fr5,w5⟩
  rcases turn i n σ5 ys H5 w5 with ⟨stop,qn⟩ | ⟨go,step⟩
  ·refine wpAny_mono (T.done (cxB X (tn++fr) scope (capCl X.env fr) C s3 H3 fp) rfl rfl rfl hc i [] s5 σ5 H5 (fun _ _=>False) I5 (statB fr5) st5 stop) (fun r s6 ⟨hr,I6⟩=> ?_) fun _ _ z=>z
   subst hr
   obtain ⟨m,hn,_⟩:=I6.loc
   have J6:Inv X pins σ H5 s6:=I3.call' (ch:=fp) I6.os I6.base I6.hok I6.bare fun b hb=>⟨(f3 b hb).2.2.2.1,(f3 b hb).2.1,(f3 b hb).2.2.2.2.1,(f3 b hb).2.2.2.2.2⟩
   exact fin D C H5 s6 m J6 hn (I3.fpOk hCs I6.free) qn
  ·refine wpAny_mono (T.item (cxB X (tn++fr) scope (capCl X.env fr) C s3 H3 fp) rfl rfl rfl hc i [] s5 σ5 H5 (fun _ _=>False) I5 (statB fr5) st5 go) (fun r s6 ⟨u,hr,h6⟩=> ?_) fun _ _ z=>z
   subst hr
   refine wpAny_mono h6 (fun _ s7 ⟨x,H7,I7,r7,y7,st7,fr7⟩=> ?_) fun _ _ z=>z
   have I7' :=I7.pinned (statB fr7) (T.obj _ _ st7)
   have held:∀{σ' :L2.St} {H' :Hp} {s' :Shared},Inv (cxB X (tn++fr) scope (capCl X.env fr) C s3 H3 fp) ([]++pinsAt fp s7.heap) σ' H' s' →tnn (i+1) s'.heap∧∀b∈fp,H' b=none:=fun {σ' H' s'} I' =>by
    refine ⟨T.keep _ _ _ st7 fun b hb o e=>(I'.pin (b,o) (List.mem_append_right _ (List.mem_append_right _ (mem_pinsAt hb e)))).1,fun b hb=> ?_⟩
    obtain ⟨o,e,d⟩:=T.obj _ _ st7 b hb
    exact (I'.pin (b,o) (List.mem_append_right _ (List.mem_append_right _ (mem_pinsAt hb e)))).2.1
   refine wpAny_mono (hg C s3 H3 fp _ s7 σ5 H7 x u _ I7' r7 (step x H7 y7)) (fun _ s8 ⟨σ8,H8,I8,q8⟩=> ?_) fun _ _ z=>z
   refine wpAny_mono (ht C s3 H3 fp _ s8 σ8 H8 _ I8 q8) (fun ok s9 ⟨H9,I9,q9⟩=> ?_) fun _ _ z=>z
   cases ok with
   | false=>
    rw [if_neg Bool.false_ne_true] at q9
    obtain ⟨m',hm,w9⟩:=q9
    rw [if_neg Bool.false_ne_true]
    obtain ⟨a,b⟩:=held I9
    exact ⟨m',hm,i+1,σ8,ys,H9,I9.unpinned,a,b,w9⟩
   | true=>
    rw [if_pos rfl] at q9
    rw [if_pos rfl]
    refine wpAny_mono (he C s3 H3 fp _ s9 σ8 H9 _ I9 q9) (fun v s10 ⟨y,H10,I10,r10,hDD,hl,m',hm,w10⟩=> ?_) fun _ _ z=>z
    refine wpAny_mono (mt_append (X:=cxB X (tn++fr) scope (capCl X.env fr) C s3 H3 fp) _ s10 σ8 H10 (.ref D) [y] (.ref D) [v] (fun _ H' =>W (i+1) m' σ8 (ys++[y]) H') I10 rfl (.cons r10 .nil) ⟨D,ys,y,rfl,rfl,hDD,hl,w10⟩) (fun _ s11 ⟨z,H11,I11,_,q11⟩=> ?_) fun _ _ z=>z
    obtain ⟨a,b⟩:=held I11
    exact ⟨m',hm,i+1,σ8,ys++[y],H11,I11.unpinned,a,b,q11⟩
 exact codeAny_compStart_list loop (T.self X.A 0 _ _ _ st4 loop)
theorem pe_comp {elt target iter:Expr}{ifs:List Expr}{scope:Scope}{pos:Pos}{tn fr:List Str}{caps:List Nat}{wi:TI}{g:TG}{tt:TT}{te:TE}(hc:X.calm=true)(B:BlkS X scope fr caps)(hi:PI X target iter wi)
  (hg:∀C s H fp,PG (cxB X (tn++fr) scope (capCl X.env fr) C s H fp) target g) (ht:∀C s H fp,PF (cxB X (tn++fr) scope (capCl X.env fr) C s H fp) ifs tt) (he:∀C s H fp,PE (cxB X (tn++fr) scope (capCl X.env fr) C s H fp) elt te)
  (hs:∀x,foldedSetIterable iter X.env x=pure x:=by intro _;rfl):PE X (.ListComp elt [⟨target,iter,ifs,0⟩] scope pos) (tComp tn.length caps wi g tt te):=by
 intro pins s σ H Q I h
 rw [eval_ListComp]
 refine wpAny_comprehension_free (use:=none) rfl hs B.clos B.kind B.names (thn (hi pins s σ H _ I h) fun v s1 h1=>thn h1 fun itv s2 h2=> ?_)
 obtain ⟨it,fp,tnn,J,H2,rfl,I2,T,st2,f2,q⟩:=h2
 refine comp_block (Q:=Q) (RR:=fun acc C=>compPost (model X.prog X.w) X.A X.xe none (EP X pins σ Q) acc C) hc B hg ht he I2 T st2 f2 q ?_
 intro D C H' s' m I' hn fc qq
 obtain ⟨g0,g1,g2,g3,g4,g5⟩:=fc
 exact ⟨m,hn,fun h' hs' =>⟨.ref D,H',I'.turned (t' :=s'.toks) (fun b o hb e=>(hs'.2 b hb).trans e) g0 g1 g3 g4 g5,rfl,qq⟩⟩
theorem ps_setC {i:Nat}{y:Str}{py:Pos}{spos:Pos}{elt target iter:Expr}{ifs:List Expr}{scope:Scope}{pos:Pos}{tn fr:List Str}{caps:List Nat}{wi:TI}{g:TG}{tt:TT}{te:TE}(hN:X.N.Nodup)(hiN:X.N[i]? =some y)(hx:Loc X.env.scope y)
  (hc:X.calm=true) (B:BlkS X scope fr caps) (hi:PI X target iter wi)
  (hg:∀C s H fp,PG (cxB X (tn++fr) scope (capCl X.env fr) C s H fp) target g) (ht:∀C s H fp,PF (cxB X (tn++fr) scope (capCl X.env fr) C s H fp) ifs tt) (he:∀C s H fp,PE (cxB X (tn++fr) scope (capCl X.env fr) C s H fp) elt te)
  (hsw:swapsWith (.ListComp elt [⟨target,iter,ifs,0⟩] scope pos) (some (.Name y py)) spos.line X.env=pure true:=by rfl)
  (hs:∀x,foldedSetIterable iter X.env x=pure x:=by intro _;rfl) (hf:X.fn y=true∨X.env.scope.names.lookup y=some .local:=by first | exact .inl rfl | exact .inr rfl | assumption):
  PS X (.Assign [.Name y py] (.ListComp elt [⟨target,iter,ifs,0⟩] scope pos) spos) (tAsg (tComp tn.length caps wi g tt te) (gName i)):=by
 intro pins s σ H D I h
 rw [exec_Assign_Name_used _ _ _ _ hsw]
 refine wpAny_bind (wpAny_standAt (wpAny_bind ?_))
 show wpAny _ X.A (do let _ ← comprehension (.ListComp elt [⟨target,iter,ifs,0⟩] scope pos) scope X.env _ (newList []) false (eval iter X.env) (some (assign (.Name y py) X.env))) _ _ s
 refine wpAny_bind (wpAny_mono (wpAny_comprehension_free (use:=some (assign (.Name y py) X.env)) (Q:=fun _ s' =>SP X pins D .next s') rfl hs B.clos B.kind B.names
  (thn (hi pins s σ H _ I h) fun v s1 h1=>thn h1 fun itv s2 h2=> ?_)) (fun _ s' hq=>wpAny_pure (wpAny_pure hq)) fun _ _ e=>e)
 obtain ⟨it,fp,tnn,J,H2,rfl,I2,T,st2,f2,q⟩:=h2
 refine comp_block (Q:=fun v H1=>gName i v σ H1 D.nx) (RR:=fun acc C=>compPost (model X.prog X.w) X.A X.xe (some (assign (.Name y py) X.env)) (fun _ s' =>SP X pins D .next s') acc C) hc B hg ht he I2 T st2 f2 q ?_
 intro DD C H' s' m I' hn fc qq
 obtain ⟨g0,g1,g2,g3,g4,g5⟩:=fc
 show wpAny _ X.A (assign (.Name y py) X.env (.ref DD)) _ _ _
 refine wpAny_assign_Name (store_ok2 I' hN hiN hx (v:=.ref DD) (u:=.ref DD) rfl (fun s'' I'' ⟨a,sb,ha⟩=> ?_) hf)
 have hCa:C≠a:=by
  rcases ha with z | z
  ·rw [z]
   exact g1
  ·exact fun e=>g4 y a z e.symm
 exact ⟨m,hn.sameBut sb hCa,fun h' hs' =>⟨_,H',I''.turned (t' :=s''.toks) (fun b o hb e=>(hs'.2 b hb).trans e) g0 g1 g3 g4 g5,qq⟩⟩
end
section
variable {D:Addr}{te:TE}{cap:L2.St}{H1:Hp}{Q:VK}
theorem blk_of {J:It}(n:Nat)(xs:Nat→V)(Pv:Nat→List V→Hp→Prop)(h0:Pv 0 [] (upd H1 D (.lst [])))
  (go:∀i ys H,i < n→Pv i ys H→J.go i H∧∀x H',J.yld i H x H' →H' =H∧x=xs i) (stop:∀ys H,Pv n ys H→J.stop n H)
  (hs:∀i ys H (R:VK),i < n→Pv i ys H→H D=some (.lst ys)→(∀v H6,H6 D=some (.lst ys)→ys.length < sizeLine→Pv (i+1) (ys++[v]) (upd H6 D (.lst (ys++[v])))→R v H6)→te (some (xs i)::cap) H R)
  (hd:∀ys H,Pv n ys H→H D=some (.lst ys)→Q (.ref D) H):tBlk D (gName 0) tYes te J (none::cap) H1 Q:=by
 refine ⟨fun i m σ ys H=>m=n - i∧i≤n∧(∃o,σ=o::cap)∧Pv i ys H∧H D=some (.lst ys),⟨n,by simp,Nat.zero_le _,⟨none,rfl⟩,h0,upd_same⟩,?_⟩
 rintro i m σ ys H ⟨rfl,hi,⟨o,rfl⟩,p,hD⟩
 by_cases hlt:i < n
 ·obtain ⟨g1,g2⟩:=go i ys H hlt p
  refine .inr ⟨g1,fun x H' y=> ?_⟩
  obtain ⟨e1,e2⟩:=g2 x H' y
  subst e1 e2
  unfold gName tYes
  dsimp only
  rw [if_pos rfl]
  exact hs i ys _ _ hlt p hD fun v H6 a b c=>⟨a,b,n - (i+1),by omega,rfl,by omega,⟨_,rfl⟩,c,upd_same⟩
 ·have e:i=n:=by omega
  subst e
  exact .inl ⟨stop ys H p,hd ys H p hD⟩
end
section
variable {X:Cx}{tg:Expr}
end
end Ty
set_option maxHeartbeats 4000000
namespace Ty
open PySem PySem.Spec PyProof.Rows L2
section
variable {prog:Program}{w:World}{A:Around}{E:Value→Shared→Prop}
end
structure Mk0 (K:Frag)(C:Addr):Prop where
 makes:PySem.W.makesIn K C=true
 init:PySem.W.findIn K (.ref C) "__init__"=some (some (.builtin "object.__init__"))
 kp:keepIn K (.ref C)=true
def tMk0 (C:Addr):TE:=fun _ H Q=>∀x dx,H x=none→H dx=none→dx≠x→Q (.ref x) (upd (upd H dx (.own x)) x (.ins C dx []))
section
variable {X:Cx}
theorem run_mk0 {pins:List (Addr×Obj)}{σ:L2.St}{H:Hp}{s:Shared}{Q:VK}{C:Addr}(M:Mk0 X.K C)(I:Inv X pins σ H s)(h:tMk0 C σ H Q):wpAny (model X.prog X.w) X.A (call (.ref C) []) (EP X pins σ Q) X.xe s:=by
 have hq:=h (s.heap.objs.size+1) s.heap.objs.size (I.hok.fresh (Nat.le_succ _)) (I.hok.fresh (Nat.le_refl _)) (Nat.ne_of_lt (Nat.lt_succ_self _))
 have I2:=Inv.made (C:=C) I
 have Y:=PySem.W.makes_of (M:=model X.prog X.w) I.kIn M.makes
 refine wpAny_call (make_map0 I.kIn M.makes M.init (fun self=>PySem.W.Looks.of_pure (PySem.W.oi_bind self)) ?_)
 have ho:((s.heap.push PySem.W.emptyDict).push (PySem.W.instObj C s.heap.objs.size)).get? (s.heap.objs.size+1)=some (PySem.W.instObj C s.heap.objs.size):=by
  have:=Heap.get?_push_size (s.heap.push PySem.W.emptyDict) (o:=PySem.W.instObj C s.heap.objs.size) rfl
  rwa [Heap.size_push] at this
 have t1:PySem.W.Looks (model X.prog X.w) ((s.heap.push PySem.W.emptyDict).push (PySem.W.instObj C s.heap.objs.size)) (typeOf (.ref (s.heap.objs.size+1))) (.ref C):=(PySem.W.Looks.ld ho).andThen .now
 have t2:PySem.W.Looks (model X.prog X.w) ((s.heap.push PySem.W.emptyDict).push (PySem.W.instObj C s.heap.objs.size)) (isInstance (.ref (s.heap.objs.size+1)) (.type "object")) true:=
  t1.andThen (Y.top.keeps fun b o e=>Heap.get?_push_of_some _ (Heap.get?_push_of_some _ e))
 refine codeAny_call_builtin PySem.W.oi_plain PySem.W.entry_oi (@PySem.W.check_slot (model X.prog X.w) _ _ _ "object.__init__" "object" "__init__" (.ref (s.heap.objs.size+1)) [] [] _ PySem.W.oi_kind PySem.W.oi_split t2 (PySem.W.oi_args (.ref (s.heap.objs.size+1))) ?_)
 rw [PySem.W.oi_run]
 exact wpAny_pure (And.intro rfl ⟨V.ref (s.heap.objs.size+1),_,I2,rfl,hq⟩)
theorem pe_mk0 {x:Str}{p pos:Pos}{C:Addr}(M:Mk0 X.K C)(hg:Gl X x)(hm:X.mg x=some (.ref C))(hdb:(x==("__debug__":Str))=false:=by decide):PE X (.Call (.Name x p) [] [] pos) (tMk0 C):=by
 intro pins s σ H Q I h
 refine wpAny_Call_Name_kw (ld_glob I hg hm ?_ hdb)
 exact PySem.W.callWith_K0 I.kIn M.kp (run_mk0 M I h)
end
structure MtdOk (P:Program)(w:World)(K:Frag)(mg:Str→Option Value)(base:Heap)(CX:CXT)(k:Nat)(C:Addr)(m:Str)(ps:List Str)(sp:Sp):Prop where
 ex:∃(f:Addr) (fd:FuncData),Cls K C∧Meth K C m f∧FnOk P w K mg base CX k f fd ps sp∧Binds K fd ps []
theorem MtdOk.mono {P:Program}{w:World}{K:Frag}{mg:Str→Option Value}{base:Heap}{CX:CXT}{j k:Nat}{C:Addr}{m:Str}{ps:List Str}{sp:Sp}(M:MtdOk P w K mg base CX j C m ps sp)(h:j≤k):MtdOk P w K mg base CX k C m ps sp:=by
 obtain ⟨f,fd,a,b,c,d⟩:=M.ex
 exact ⟨f,fd,a,b,c.mono h,d⟩
section
variable {X:Cx}{CX:CXT}{k:Nat}{E:XK}{m:Str}{pos apos:Pos}{e o:Expr}{es:List Expr}{ta:TE}{t:TA}
inductive tMtd_ (P:Program)(w:World)(K:Frag)(mg:Str→Option Value)(base:Heap)(CX:CXT)(k:Nat)(m:Str)(E:XK)(t:TA)(σ:L2.St)(Q:VK)(x:V)(H1:Hp):Prop where
 | mk (a C dx fs ps sp:_) (_:x=.ref a) (_:H1 a=some (.ins C dx fs)) (_:fs.lookup m=none) (_:MtdOk P w K mg base CX k C m ps sp) (_:t σ H1 fun vs H2=>sp (x::vs) H2 Q E):tMtd_ P w K mg base CX k m E t σ Q x H1
def tMtd (P:Program)(w:World)(K:Frag)(mg:Str→Option Value)(base:Heap)(CX:CXT)(k:Nat)(m:Str)(E:XK)(ta:TE)(t:TA):TE:=fun σ H Q=>ta σ H fun x H1=>tMtd_ P w K mg base CX k m E t σ Q x H1
theorem pe_mtd0 {pl:Sem Bool}(he:PE X o ta)(hr:Room k X.A)(hx:Passes CX X E)
  (ht:eval (.Call (.Attribute o m apos) [] [] pos) X.env=(do
   let ov ← eval o X.env
   standAt apos.atName
   let (f,first) ← holding [ov] (getMethod ov m pl)
   callWith pos f first (backTo pos (starEach [] X.env)) (backToKw pos (keywordEach [] X.env))):=by rfl):
  PE X (.Call (.Attribute o m apos) [] [] pos) (tMtd X.prog X.w X.K X.mg X.base CX k m E ta tNil):=by
 intro pins s σ H Q I h
 refine PySem.W.methodCall_KW (pl:=pl) (thn (he pins s σ H _ I h) fun u s1 ⟨x,H1,I1,rx,a,C,dx,fs,ps,sp,ex,ea,l,M,q⟩=> ?_) ht
 subst ex
 obtain rfl:u=Value.ref a:=rx
 obtain ⟨f,fd,c,hm,F,hb⟩:=M.ex
 refine getmeth_ok I1 ea c hm l ?_
 exact PySem.W.callWith_K0 (first:=[.ref a]) I1.kIn hm.kp (run_fn (us:=[.ref a]) (vs:=[.ref a]) (dvs:=[]) F hr hb .nil hx I1 (.cons rfl .nil) q)
theorem pe_mtd {pl:Sem Bool}(he:PE X o ta)(hr:Room k X.A)(hx:Passes CX X E)(ha:PA X (e::es) t)
  (hst:starEach (e::es) X.env=(false,eval e X.env)::starEach es X.env:=by rfl) (hpl:(backTo pos (starEach es X.env)).any (·.1)=false:=by rfl)
  (ht:eval (.Call (.Attribute o m apos) (e::es) [] pos) X.env=(do
   let ov ← eval o X.env
   standAt apos.atName
   let (f,first) ← holding [ov] (getMethod ov m pl)
   callWith pos f first (backTo pos (starEach (e::es) X.env)) (backToKw pos (keywordEach [] X.env))):=by rfl):
  PE X (.Call (.Attribute o m apos) (e::es) [] pos) (tMtd X.prog X.w X.K X.mg X.base CX k m E ta t):=by
 intro pins s σ H Q I h
 refine PySem.W.methodCall_KW (pl:=pl) (thn (he pins s σ H _ I h) fun u s1 ⟨x,H1,I1,rx,a,C,dx,fs,ps,sp,ex,ea,l,M,q⟩=> ?_) ht
 subst ex
 obtain rfl:u=Value.ref a:=rx
 obtain ⟨f,fd,c,hm,F,hb⟩:=M.ex
 refine getmeth_ok I1 ea c hm l ?_
 refine PySem.W.callWith_K (first:=[.ref a]) (h₀:=X.base) I.ok.mod.kin hm.kp (thn (ha pos pins s1 σ H1 _ I1 q) fun us s2 ⟨vs,H2,I2,r,q2⟩=>⟨I2.kIn,?_⟩) hst hpl
 refine run_fn (us:=.ref a::us) (vs:=.ref a::vs) (dvs:=[]) F hr hb .nil hx I2 (.cons rfl r) ?_
 rw [List.append_nil]
 exact q2
end
theorem passB {X:Cx}{CX:CXT}(h:Mute CX)(e:X.xe=fun _ _=>False):Passes CX X E0:=fun _ _ _ _ _ _ _ q=>(h _ _ _ _ _ q).elim
end Ty
set_option maxHeartbeats 4000000
namespace Ty
open PySem PySem.Spec PyProof.Rows L2
section
variable {σ:L2.St}{H:Hp}{Q:VK}{QB:Bool→Hp→Prop}{QA:List V→Hp→Prop}{D:Ends}{t u:TS}{ta tb te:TE}{tc td:TT}{t1:TA}
end
end Ty
set_option maxHeartbeats 4000000
namespace Ty
open PySem PySem.Spec PyProof.Rows L2
section
variable {X:Cx}
inductive rSlS (x:V)(lo:Option Int)(hi:Option Int)(H:Hp)(Q:VK):Prop where
 | mk (z:_) (_:x=.str z) (_:z.length≤sizeLine) (_:Q (.str (Txt.slice z lo hi)) H):rSlS x lo hi H Q
theorem sl_str:SlR X rSlS:=by
 intro pins s σ H x v vl vu lo hi sl Q I rx hs pl pu h
 obtain ⟨z,rfl,hz,q⟩:=h
 obtain ⟨t,rfl⟩:=rx
 refine ⟨"str",_,F.slot_str_getitem.lookup,typeIs_str _ _ _,?_⟩
 cases pl <;> cases pu
 ·exact wpAny_getItem_str_slice (l:=none) (u:=none) (st:=none) hs rfl (post_val_or_str ⟨Nat.le_trans (Txt.slice_le z _ _) hz,fun t' k=>⟨.str _,H,I.tok k,⟨t',rfl⟩,q⟩⟩)
 ·rename_i j uj
  exact wpAny_getItem_str_slice (l:=none) (u:=some (j,uj)) (st:=none) hs rfl (post_val_or_str ⟨Nat.le_trans (Txt.slice_le z _ _) hz,fun t' k=>⟨.str _,H,I.tok k,⟨t',rfl⟩,q⟩⟩)
 ·rename_i i ui
  exact wpAny_getItem_str_slice (l:=some (i,ui)) (u:=none) (st:=none) hs rfl (post_val_or_str ⟨Nat.le_trans (Txt.slice_le z _ _) hz,fun t' k=>⟨.str _,H,I.tok k,⟨t',rfl⟩,q⟩⟩)
 ·rename_i i ui j uj
  exact wpAny_getItem_str_slice (l:=some (i,ui)) (u:=some (j,uj)) (st:=none) hs rfl (post_val_or_str ⟨Nat.le_trans (Txt.slice_le z _ _) hz,fun t' k=>⟨.str _,H,I.tok k,⟨t',rfl⟩,q⟩⟩)
inductive rMulS (x:V)(y:V)(H:Hp)(Q:VK):Prop where
 | mk (z n:_) (_:x=.str z) (_:y=.int n) (_:MulOk z n) (_:Q (.str (Txt.mul z n)) H):rMulS x y H Q
theorem op_mulS:OpR X (binaryOp .Mult) rMulS:=by
 intro pins s σ H x y v u Q I rx ry h
 obtain ⟨z,n,rfl,rfl,ok,q⟩:=h
 obtain ⟨t,rfl⟩:=rx
 obtain ⟨t',rfl⟩:=ry
 exact SB.mul ok fun t' k=>⟨.str _,H,I.tok k,⟨t',rfl⟩,q⟩
end
end Ty
set_option maxHeartbeats 4000000
namespace Ty
open PySem PySem.Spec PyProof.Rows L2 PySem.NumText
def dg (m:Nat):List Nat:=(Nat.toDigits 10 m).map Char.toNat
def tx (n:Int):Str:=Str.ofString (toString n)
def slash:Str:=Str.ofString "/"
def nt (q:Int×Int):Str:=if q.2=1 then tx q.1 else tx q.1++slash++tx q.2
end Ty
set_option maxHeartbeats 4000000
namespace Ty
open PySem PySem.Spec PyProof.Rows L2 PySem.NumText
section
variable {X:Cx}
end
def isStar:Expr→Bool
 | .Starred .. =>true
 | _=>false
theorem star_cons {e:Expr}{es:List Expr}{env:Env}(h:isStar e=false):starEach (e::es) env=(false,eval e env)::starEach es env:=by
 cases e <;> first | rfl | (cases h;done)
theorem pac {X:Cx}{e:Expr}{es:List Expr}{te:TE}{t:TA}(ha:PE X e te)(hr:PA X es t)(h:isStar e=false:=by rfl):PA X (e::es) (tCons te t):=pa_cons ha hr (star_cons h)
def writs:List Expr→Option (List Str)
 | []=>some []
 | .Constant (.str x) _ _::r=>(writs r).map (x::·)
 | _=>none
def tStrs (xs:List Str):TA:=fun _ H Q=>Q (xs.map V.str) H
theorem pa_strs {X:Cx}(xs:List Str){es:List Expr}(h:writs es=some xs):PA X es (tStrs xs):=by
 induction es generalizing xs with
 | nil=>cases h;exact pa_nil
 | cons e es ih=>
  unfold writs at h
  split at h
  ·rename_i h0;cases h0
  ·rename_i x j pos r h0
   cases h0
   cases hr:writs es with
   | none=>rw [hr] at h;cases h
   | some ys=>
    rw [hr] at h
    cases h
    exact pac pe_str (ih ys hr)
  ·cases h
end Ty
set_option maxHeartbeats 4000000
namespace Ty
open PySem PySem.Spec PyProof.Rows L2
section
variable {D:Addr}{te:TE}{cap:L2.St}{H1:Hp}{Q:VK}
def KSame (D:Addr)(H H' :Hp):Prop:=∀b o,b≠D→H b=some o→H' b=some o
theorem KSame.of {H H' :Hp}(s:Same H H'):KSame D H H' :=fun b o _ e=>s b o e
theorem KSame.upd {H:Hp}{o:HO}:KSame D H (upd H D o):=fun b o' n e=>by rw [upd_ne n];exact e
theorem comp_gen {J:It}(n:Nat)(xs:Nat→V)(Rel:Nat→V→Hp→Prop)(nD:H1 D=none)(hn:n < sizeLine)
  (go:∀i H,i < n→Same H1 H→J.go i H∧∀x H',J.yld i H x H' →H' =H∧x=xs i) (stop:∀H,Same H1 H→J.stop n H)
  (hR:∀i v H H' ys,H D=some (.lst ys)→KSame D H H' →Rel i v H→Rel i v H')
  (he:∀i H (R:VK),i < n→Same H1 H→(∀v H6,Same H H6→Rel i v H6→R v H6)→te (some (xs i)::cap) H R)
  (hd:∀ys H,ys.length=n→(∀i v,ys[i]? =some v→Rel i v H)→Same H1 H→H D=some (.lst ys)→Q (.ref D) H):
  tBlk D (gName 0) tYes te J (none::cap) H1 Q:=by
 refine blk_of n xs (fun i ys H=>ys.length=i∧(∀i v,ys[i]? =some v→Rel i v H)∧Same H1 H) ⟨rfl,fun i v e=>by simp at e,fun b o e=>by rw [upd_ne (ne_of_none e nD)];exact e⟩ ?_ ?_ ?_ ?_
 ·rintro i ys H hi ⟨_,_,s⟩
  exact go i H hi s
 ·rintro ys H ⟨_,_,s⟩
  exact stop H s
 ·rintro i ys H R hi ⟨l,r,s⟩ hD k
  refine he i H R hi s fun v H6 s6 rv=>k v H6 (s6 _ _ hD) (by omega) ⟨by simp [l],fun j u e=> ?_,fun b o e=> ?_⟩
  ·by_cases c:j < ys.length
   ·rw [List.getElem?_append_left c] at e
    have ru:=hR j u H H6 ys hD (KSame.of s6) (r j u e)
    exact hR j u H6 _ ys (s6 _ _ hD) KSame.upd ru
   ·rw [List.getElem?_append_right (by omega)] at e
    have ej:j=i:=by
     by_cases z:j - ys.length=0
     ·omega
     ·rw [List.getElem?_eq_none (by simp;omega)] at e
      cases e
    subst ej
    have:v=u:=by
     rw [show j - ys.length=0 by omega] at e
     exact Option.some.inj e
    subst this
    exact hR j v H6 _ ys (s6 _ _ hD) KSame.upd rv
  ·rw [upd_ne (ne_of_none e nD)]
   exact s6 _ _ (s _ _ e)
 ·rintro ys H ⟨l,r,s⟩ hD
  exact hd ys H l r s hD
theorem comp_list {K:Frag}{a:Addr}{xs:List V}(Rel:Nat→V→Hp→Prop)(nD:H1 D=none)(hn:xs.length < sizeLine)(hS:∀H,Same H1 H→SqL K H a xs)
  (hR:∀i v H H' ys,H D=some (.lst ys)→KSame D H H' →Rel i v H→Rel i v H')
  (he:∀i x H (R:VK),xs[i]? =some x→Same H1 H→(∀v H6,Same H H6→Rel i v H6→R v H6)→te (some x::cap) H R)
  (hd:∀ys H,ys.length=xs.length→(∀i v,ys[i]? =some v→Rel i v H)→Same H1 H→H D=some (.lst ys)→Q (.ref D) H):
  tBlk D (gName 0) tYes te (Itl K a) (none::cap) H1 Q:=by
 refine comp_gen xs.length (fun i=>(xs[i]?).getD .non) Rel nD hn (fun i H hi s=>⟨⟨xs,xs[i],hS H s,gE hi⟩,fun x H' y=>⟨y.1,?_⟩⟩) (fun H s=>⟨xs,hS H s,Nat.le_refl _⟩) hR (fun i H R hi s k=> ?_) hd
 ·rw [y.2 xs (hS H s)];rfl
 ·have e:xs[i]? =some xs[i]:=gE hi
  have k' :=he i _ H R e s k
  rw [← (show (xs[i]?).getD .non=xs[i] by rw [e];rfl)] at k'
  exact k'
end
end Ty
set_option maxHeartbeats 4000000
namespace Ty
open PySem PySem.Spec PyProof.Rows L2
section
variable {X:Cx}{pins:List (Addr×Obj)}{σ:L2.St}{H:Hp}{s:Shared}{h' :Heap}
theorem Inv.turnedL {t' :Nat}{fp:List Addr}(I:Inv X pins σ H s)(k:∀b o,b∉fp→s.heap.get? b=some o→h'.get? b=some o)(hf:∀b∈fp,FpOk X pins H b):Inv X pins σ H {s with heap:=h',toks:=t' }:=by
 have nit:∀b u,H b=some u→b∉fp:=fun b u e z=>by rw [(hf b z).1] at e;cases e
 refine I.step (g' :=s.gens) (d' :=s.drawn) (ch:=fp) (fun b hb=> ?_) (fun b o _ _ hc e _=>k b o hc e) (fun b o _ _ hc e _=>⟨o.slots,k b o hc e⟩) (fun _ _ _ _ n=>n)
  (fun b o hc e=>⟨o,k b o hc e⟩) (fun _ _ e=>e) (fun _ _ _ e=>e) (fun b ps e=>⟨#[],by rw [e];simp⟩) (fun m hm=> ?_) (fun b u e=> ?_) I.bare
 ·obtain ⟨f0,f1,f2,f3,f4,f5⟩:=hf b hb
  exact ⟨f3,f1,f4,f5⟩
 ·obtain ⟨o,es,ep,ho,r⟩:=hm
  exact ⟨o,es,ep,k _ o (fun z=>(hf _ z).2.1 rfl) ho,r⟩
 ·refine (I.hok b u e).stay (fun c v hc q=>k c v ?_ q) (fun _ q=>q) fun _ _ q=>q
  rcases hc with z | z
  ·rw [z];exact nit b u e
  ·exact nit c _ z
theorem Inv.turnedT {t' :Nat}{fp:List Addr}{T:Addr}{xs:List V}{its:List Value}(I:Inv X pins σ H s)(k:∀b o,b∉fp→s.heap.get? b=some o→h'.get? b=some o)(hf:∀b∈fp,FpOk X pins H b)(hT:s.heap.objs.size≤T)
  (hz:xs.length≤sizeLine) (rv:Vals xs its) (ht:IsTup h' T its.toArray):Inv X pins σ (upd H T (.tup xs)) {s with heap:=h',toks:=t' }:=by
 have hn:=I.hok.fresh hT
 have nit:∀b u,H b=some u→b∉fp:=fun b u e z=>by rw [(hf b z).1] at e;cases e
 have ne:∀b o,s.heap.get? b=some o→b≠T:=fun b o e=>Nat.ne_of_lt (Nat.lt_of_lt_of_le (Heap.lt_size e) hT)
 refine I.step (g' :=s.gens) (d' :=s.drawn) (ch:=fp) (fun b hb=> ?_) (fun b o _ _ hc e _=>k b o hc e) (fun b o _ _ hc e _=>⟨o.slots,k b o hc e⟩) (fun b o _ e n=>by rw [upd_ne (ne b o e)];exact n)
  (fun b o hc e=>⟨o,k b o hc e⟩) (fun b ys e=>by rw [upd_ne (ne_of_none e hn)];exact e) (fun b o u e=>by rw [upd_ne (ne_of_none e hn)];exact e) (fun b ps e=>⟨#[],by rw [upd_ne (ne_of_none e hn),e];simp⟩) (fun m hm=> ?_) (fun b u e=> ?_) I.bare
 ·obtain ⟨f0,f1,f2,f3,f4,f5⟩:=hf b hb
  exact ⟨f3,f1,f4,f5⟩
 ·obtain ⟨o,es,ep,ho,r⟩:=hm
  exact ⟨o,es,ep,k _ o (fun z=>(hf _ z).2.1 rfl) ho,r⟩
 ·by_cases hb:b=T
  ·subst hb
   rw [upd_same] at e
   cases e
   exact ⟨hz,its,rv,ht⟩
  ·rw [upd_ne hb] at e
   refine (I.hok b u e).stay (fun c v hc q=>k c v ?_ q) (fun c q=>by rw [upd_ne (ne_of_none q hn)];exact q) fun c ys q=>by rw [upd_ne (ne_of_none q hn)];exact q
   rcases hc with z | z
   ·rw [z];exact nit b u e
   ·exact nit c _ z
end
def Itz (K:Frag)(a b:Addr):It:=
 ⟨fun i H=>∃xs ys x y,SqL K H a xs∧SqL K H b ys∧xs[i]? =some x∧ys[i]? =some y,
  fun i H v H' =>∃p x y,(∀xs,SqL K H a xs→xs[i]? =some x)∧(∀ys,SqL K H b ys→ys[i]? =some y)∧v=.ref p∧H p=none∧H' =upd H p (.tup [x,y]),
  fun i H=>∃xs ys,SqL K H a xs∧SqL K H b ys∧(xs.length≤i∨ys.length≤i)⟩
theorem turn_zip {P:Program}{w:World}{K:Frag}{es:List Expr}{k:Nat}{pos:Pos}(a b z TI TO i1 i2:Addr)(D:ZipApart z TI TO i1 i2 a b):
  Turn P w K (.Tuple es k pos) (Itz K a b) [z,TI,TO,i1,i2] z (fun i h=>IsZip h z TI TO .none∧IsPair h TI (.ref i1) (.ref i2)∧(∃x y,IsPair h TO x y)∧h.IsListIter i1 a i∧h.IsListIter i2 b i) where
 mem:=by simp
 obj:=fun i h st c hc=>by
  obtain ⟨hz,hTI,⟨x,y,hTO⟩,⟨o1,e1,c1,d1⟩,⟨o2,e2,c2,d2⟩⟩:=st
  have hc' :c=z∨c=TI∨c=TO∨c=i1∨c=i2:=by simpa using hc
  rcases hc' with e | e | e | e | e <;> subst e
  ·exact ⟨_,hz,fun v z=>by cases z⟩
  ·exact ⟨_,hTI,fun v z=>by cases z⟩
  ·exact ⟨_,hTO,fun v z=>by cases z⟩
  ·exact ⟨_,e1,fun v z=>by rw [d1] at z;cases z⟩
  ·exact ⟨_,e2,fun v z=>by rw [d2] at z;cases z⟩
 keep:=fun i h h' st k=>by
  obtain ⟨hz,hTI,⟨x,y,hTO⟩,h1,h2⟩:=st
  exact ⟨k z (by simp) _ hz,k TI (by simp) _ hTI,⟨x,y,k TO (by simp) _ hTO⟩,h1.at fun o e=>k i1 (by simp) o e,h2.at fun o e=>k i2 (by simp) o e⟩
 item:=by
  intro X hP hw hK hc i pins s σ H E I hf st hg
  subst hP hw hK
  obtain ⟨hz,hTI,⟨x0,y0,hTO⟩,h1,h2⟩:=st
  obtain ⟨xs,ys,x,y,qx,qy,ex,ey⟩:=hg
  obtain ⟨its,rv,p,_⟩:=I.list qx
  obtain ⟨jts,rw',p',_⟩:=I.list qy
  obtain ⟨u,hu,ru⟩:=rv.get ex
  obtain ⟨v,hv,rv'⟩:=rw'.get ey
  refine wpAny_pyNext_zip_item D hz hTI hTO h1 h2 p.isList p'.isList (x:=u) (y:=v) (by simpa using hu) (by simpa using hv) fun h' a1 a2 a3 a4 a5 a6 a7=> ?_
  refine ⟨_,rfl,wpAny_letOwnedTupleGo_zip (s:={s with heap:=h' }) a1 fun h'' b1 sb=> ?_⟩
  have nz:∀c,c≠z→∀o,h'.get? c=some o→h''.get? c=some o:=fun c hc o e=>(sb.2 c hc).trans e
  have kk:∀b o,b∉[z,TI,TO,i1,i2]→s.heap.get? b=some o→h''.get? b=some o:=fun b o hb e=>by
   have hb' :b≠z∧b≠TI∧b≠TO∧b≠i1∧b≠i2:=by simpa using hb
   exact nz b hb'.1 o (a7 b o hb'.1 hb'.2.2.1 hb'.2.2.2.1 hb'.2.2.2.2 e)
  have sz:∀c o,s.heap.get? c=some o→s.heap.objs.size≠c:=fun c o e=>Nat.ne_of_gt (Heap.lt_size e)
  have tz:s.heap.objs.size≠z:=sz _ _ hz
  have hn:=I.hok.fresh (Nat.le_refl s.heap.objs.size)
  have I2:Inv X pins σ (upd H s.heap.objs.size (.tup [x,y])) {s with heap:=h'',toks:=s.toks}:=
   Inv.turnedT I kk hf (Nat.le_refl _) (by show 2≤sizeLine;decide) (its:=[u,v]) (.cons ru (.cons rv' .nil)) ⟨_,nz _ tz _ a5,rfl,_,rfl⟩
  refine ⟨.ref s.heap.objs.size,_,I2,rfl,⟨s.heap.objs.size,x,y,fun xs' q=>by rw [I.list_inj q qx];exact ex,fun ys' q=>by rw [I.list_inj q qy];exact ey,rfl,hn,rfl⟩,⟨b1,nz _ D.TIz _ (a7 _ _ D.TIz D.TITO D.TIi1 D.TIi2 hTI),⟨_,_,nz _ D.TOz _ a2⟩,a3.at fun o e=>nz _ D.i1z o e,a4.at fun o e=>nz _ D.i2z o e⟩,fun b hb=> ?_⟩
  have ob:∃o,s.heap.get? b=some o:=by
   obtain ⟨o1,e1,_⟩:=h1
   obtain ⟨o2,e2,_⟩:=h2
   have hc' :b=z∨b=TI∨b=TO∨b=i1∨b=i2:=by simpa using hb
   rcases hc' with e | e | e | e | e <;> subst e
   ·exact ⟨_,hz⟩
   ·exact ⟨_,hTI⟩
   ·exact ⟨_,hTO⟩
   ·exact ⟨_,e1⟩
   ·exact ⟨_,e2⟩
  obtain ⟨o,e⟩:=ob
  rw [upd_ne (Ne.symm (sz _ _ e))]
  exact (hf b hb).1
 done:=by
  intro X hP hw hK hc i pins s σ H E I hf st hg
  subst hP hw hK
  obtain ⟨hz,hTI,⟨x0,y0,hTO⟩,h1,h2⟩:=st
  obtain ⟨xs,ys,qx,qy,ee⟩:=hg
  obtain ⟨its,rv,p,_⟩:=I.list qx
  obtain ⟨jts,rw',p',_⟩:=I.list qy
  have l1:=rv.length
  have l2:=rw'.length
  refine wpAny_pyNext_zip_end (I.ok.hd hc) D hz hTI hTO h1 h2 p.isList p'.isList ?_ fun h' kk=>⟨rfl,Inv.turnedL I (fun b o hb e=> ?_) hf⟩
  ·rcases ee with e | e
   ·exact .inl (by simp;omega)
   ·exact .inr (by simp;omega)
  ·have hb' :b≠z∧b≠TI∧b≠TO∧b≠i1∧b≠i2:=by simpa using hb
   exact kk b o hb'.1 hb'.2.2.1 hb'.2.2.2.1 hb'.2.2.2.2 e
 self:=fun _ _ _ _ _ st h=>wpAny_pyIter_zip st.1 h
theorem boot_zip:bootBuiltins "zip"=some (.type "zip"):=by decide+kernel
section
variable {X:Cx}
inductive iZip_ (K:Frag)(R:(It→Hp→Prop))(vs:List V)(H1:Hp):Prop where
 | mk (a b:_) (_:vs=[.ref a,.ref b]) (_:(∃xs,SqL K H1 a xs)) (_:(∃ys,SqL K H1 b ys)) (_:R (Itz K a b) H1):iZip_ K R vs H1
def iZip (K:Frag)(ta:TA):TI:=fun σ H R=>ta σ H fun vs H1=>iZip_ K R vs H1
theorem pi_zip {e1 e2:Expr}{ta:TA}{p pos:Pos}{es:List Expr}{k:Nat}{tpos:Pos}(hg:Gl X "zip")(hm:X.mg "zip"=none)(ha:PA X [e1,e2] ta)(hs:starEach [e1,e2] X.env=[(false,eval e1 X.env),(false,eval e2 X.env)]:=by rfl)(hs2:starEach [e2] X.env=[(false,eval e2 X.env)]:=by rfl):
  PI X (.Tuple es k tpos) (.Call (.Name "zip" p) [e1,e2] [] pos) (iZip X.K ta):=by
 intro pins s σ H R I h
 refine Call_ (ld_blt I hg hm boot_zip (PyProof.Rows.callWith_type1 (thn (ha pos pins s σ H _ I h) fun us s1 ⟨vs,H1,I1,r1,q1⟩=> ?_) (by rw [hs,hs2]) (by rw [hs2];rfl)))
 obtain ⟨a,b,e,⟨xs,hx⟩,⟨ys,hy⟩,q⟩:=q1
 subst e
 cases r1 with
 | cons r rr=>
  cases rr with
  | cons r' rr=>
   cases rr
   cases r
   cases r'
   obtain ⟨its,rv,pl,_⟩:=I1.list hx
   obtain ⟨jts,rw',pl',_⟩:=I1.list hy
   have lt1:a < s1.heap.objs.size:=by obtain ⟨o,ho,_⟩:=pl.isList;exact Heap.lt_size ho
   have lt2:b < s1.heap.objs.size:=by obtain ⟨o,ho,_⟩:=pl'.isList;exact Heap.lt_size ho
   refine call_zip_2 pl.isList pl'.isList fun h' hz hTI hTO hi1 hi2 hsz hk=>wpAny_pyIter_zip (s:={s1 with heap:=h' }) hz ?_
   refine ⟨s1.heap.objs.size+4,[s1.heap.objs.size+4,s1.heap.objs.size+2,s1.heap.objs.size+3,s1.heap.objs.size,s1.heap.objs.size+1],_,_,H1,rfl,I1.kept (t' :=s1.toks) hk,turn_zip a b _ _ _ _ _ ?_,⟨hz,hTI,⟨_,_,hTO⟩,hi1,hi2⟩,fun c hc=> ?_,q⟩
   ·constructor <;> (intro z;simp only [Addr] at*;omega)
   ·have hc' :s1.heap.objs.size≤c:=by
     have:c=s1.heap.objs.size+4∨c=s1.heap.objs.size+2∨c=s1.heap.objs.size+3∨c=s1.heap.objs.size∨c=s1.heap.objs.size+1:=by simpa using hc
     simp only [Addr] at*
     omega
    exact I1.fpOk hc' (I1.hok.fresh hc')
inductive rListL (K:Frag)(xs:List V)(H:Hp)(Q:VK):Prop where
 | mk (p:Addr) (ys:List V) (_:xs=[.ref p]) (_:SqL K H p ys) (_:∀l,H l=none→Q (.ref l) (upd H l (.lst ys))):rListL K xs H Q
theorem call_listL:CallR X (.type "list") (rListL X.K):=by
 intro pins s σ H xs us Q I r h
 obtain ⟨p,ys,rfl,hq,q⟩:=h
 obtain ⟨u,rfl,r1⟩:=vals1 r
 cases r1
 obtain ⟨its,rv,⟨o,n,e,c,d1,d⟩,hz⟩:=I.list hq
 have hlen:=rv.length
 refine call_list_seq p (.inl rfl) e c d (fun h' c' hk hl=> ?_) (by simp;omega)
 have hn:=I.hok.fresh (Nat.le_refl s.heap.objs.size)
 have I2:Inv X pins σ (upd H s.heap.objs.size (.lst ys)) {s with heap:=h',toks:=s.toks}:=I.laid (t' :=s.toks) hk (Nat.le_refl _) ⟨hz,its,c',rv,hl⟩
 exact ⟨.ref _,_,I2,rfl,q _ hn⟩
end
section
variable {X:Cx}{K:Frag}
theorem ix_tupK (h:X.K=K):IxR X (rIxT K):=by subst h;exact ix_tup
theorem ix_listK (h:X.K=K):IxR X (rIxL K):=by subst h;exact ix_list
theorem pg_tupK {es:List Expr}{k:Nat}{t:TGs}{n:Nat}{pos:Pos}(hK:X.K=K)(hc:X.calm=true)(h:PGs X es t)
  (hn:(assignEach es X.env).length=n:=by rfl) (hst:(assignEach es X.env).findIdx? (·.1)=none:=by rfl):PG X (.Tuple es k pos) (gTup K n t):=by subst hK;exact pg_tup hc h hn hst
end
section
variable {D:Addr}{te:TE}{cap:L2.St}{H1:Hp}{Q:VK}
theorem comp_zip {K:Frag}{a b:Addr}{xs ys:List V}(Rel:Nat→V→Hp→Prop)(nD:H1 D=none)(hn:xs.length < sizeLine)(hl:ys.length=xs.length)(hX:∀H,Same H1 H→SqL K H a xs)(hY:∀H,Same H1 H→SqL K H b ys)
  (hR:∀i v H H' ys,H D=some (.lst ys)→KSame D H H' →Rel i v H→Rel i v H')
  (he:∀i x y H (R:VK),xs[i]? =some x→ys[i]? =some y→Same H1 H→(∀v H6,Same H H6→Rel i v H6→R v H6)→te (some x::some y::cap) H R)
  (hd:∀zs H,zs.length=xs.length→(∀i v,zs[i]? =some v→Rel i v H)→Same H1 H→H D=some (.lst zs)→Q (.ref D) H):
  tBlk D (gTup K 2 (gCons (gName 0) (gCons (gName 1) gNil))) tYes te (Itz K a b) (none::none::cap) H1 Q:=by
 refine ⟨fun i m σ zs H=>m=xs.length - i∧i≤xs.length∧(∃o o',σ=o::o' ::cap)∧(zs.length=i∧(∀i v,zs[i]? =some v→Rel i v H)∧Same H1 H)∧H D=some (.lst zs),⟨xs.length,by simp,Nat.zero_le _,⟨none,none,rfl⟩,⟨rfl,fun i v e=>by simp at e,fun b o e=>by rw [upd_ne (ne_of_none e nD)];exact e⟩,upd_same⟩,?_⟩
 rintro i m σ zs H ⟨rfl,hi,⟨o,o',rfl⟩,⟨l,r,s⟩,hD⟩
 by_cases hlt:i < xs.length
 ·have e1:xs[i]? =some xs[i]:=gE hlt
  have e2:ys[i]? =some (ys[i]'(by omega)):=gE (by omega)
  refine .inr ⟨⟨xs,ys,_,_,hX H s,hY H s,e1,e2⟩,fun v H' y=> ?_⟩
  obtain ⟨p,x,y,q1,q2,rfl,np,rfl⟩:=y
  have e1:=q1 xs (hX H s)
  have e2:=q2 ys (hY H s)
  have sp:Same H (upd H p (.tup [x,y])):=fun b o e=>by rw [upd_ne (ne_of_none e np)];exact e
  refine ⟨p,_,rfl,SqT.of upd_same,rfl,_,_,rfl,_,_,rfl,rfl,?_⟩
  unfold tYes
  dsimp only
  rw [if_pos rfl]
  refine he i x y _ _ e1 e2 (fun b o e=>sp _ _ (s _ _ e)) fun v H6 s6 rv=>⟨s6 _ _ (sp _ _ hD),by omega,xs.length - (i+1),by omega,rfl,by omega,⟨_,_,rfl⟩,⟨by simp [l],fun j u e=> ?_,fun b o e=> ?_⟩,upd_same⟩
  ·by_cases c:j < zs.length
   ·rw [List.getElem?_append_left c] at e
    have ru:=hR j u H H6 zs hD (KSame.of fun b o q=>s6 _ _ (sp _ _ q)) (r j u e)
    exact hR j u H6 _ zs (s6 _ _ (sp _ _ hD)) KSame.upd ru
   ·rw [List.getElem?_append_right (by omega)] at e
    have ej:j=i:=by
     by_cases z:j - zs.length=0
     ·omega
     ·rw [List.getElem?_eq_none (by simp;omega)] at e
      cases e
    subst ej
    have:v=u:=by
     rw [show j - zs.length=0 by omega] at e
     exact Option.some.inj e
    subst this
    exact hR j v H6 _ zs (s6 _ _ (sp _ _ hD)) KSame.upd rv
  ·rw [upd_ne (ne_of_none e nD)]
   exact s6 _ _ (sp _ _ (s _ _ e))
 ·have e:i=xs.length:=by omega
  subst e
  exact .inl ⟨⟨xs,ys,hX H s,hY H s,.inl (Nat.le_refl _)⟩,hd zs H l r s hD⟩
end
end Ty
set_option maxHeartbeats 4000000
namespace Ty
open PySem PySem.Spec PyProof.Rows L2
open Builtin.Int (intBits)
def vl (q:Int×Int):Rat:=(q.1:Rat) / (q.2:Rat)
structure Sm (T B:Nat)(q:Int×Int):Prop where
 pos:0 < q.2
 low:Int.gcd q.1 q.2=1
 top:q.1.natAbs≤2^T
 bot:q.2.natAbs≤2^B
theorem ratne {b:Int}(h:b≠0):(b:Rat)≠0:=by simpa using h
theorem vl_low {t b:Int}(h:b≠0):vl (low t b)=(t:Rat) / (b:Rat):=by
 have c:=low_cross (t:=t) h
 have p:=low_pos (t:=t) h
 have h1:=ratne h
 have h2:=ratne (b:=(low t b).2) (by omega)
 have c' :((low t b).1:Rat)*b=t*(low t b).2:=by exact_mod_cast c
 unfold vl
 grind
theorem cross_of_vl {t b u c:Int}(hb:b≠0)(hc:c≠0)(h:(t:Rat) / b=(u:Rat) / c):t*c=u*b:=by
 have h1:=ratne hb
 have h2:=ratne hc
 have:(t:Rat)*c=u*b:=by grind
 exact_mod_cast this
theorem vl_inj {q r:Int×Int}(hq:0 < q.2)(hr:0 < r.2)(gq:Int.gcd q.1 q.2=1)(gr:Int.gcd r.1 r.2=1)(h:vl q=vl r):q=r:=by
 have c:=cross_of_vl (t:=q.1) (b:=q.2) (u:=r.1) (c:=r.2) (by omega) (by omega) h
 have e:=low_cross_iff (t:=q.1) (b:=q.2) (u:=r.1) (c:=r.2) (by omega) (by omega) c
 rw [low_self hq gq,low_self hr gr] at e
 exact Prod.ext (congrArg Prod.fst e) (congrArg Prod.snd e)
theorem cast_fdiv {b d:Int}(hd:d≠0)(h:d ∣ b):((b.fdiv d:Int):Rat)=(b:Rat) / d:=by
 have e:=fdiv_of_dvd hd h
 have h1:=ratne hd
 have:(b:Rat)=d*(b.fdiv d:Int):=by exact_mod_cast e
 grind
def dotQ (xs ys:List (Int×Int)):Rat:=(List.zipWith (fun a b=>vl a*vl b) xs ys).sum
theorem dotQ_cons {x y:Int×Int}{xs ys:List (Int×Int)}:dotQ (x::xs) (y::ys)=vl x*vl y+dotQ xs ys:=by simp [dotQ]
def Whole (ts:List Int)(qs:List (Int×Int))(b:Int):Prop:=ts.length=qs.length∧∀(i:Nat) (t:Int) (q:Int×Int),ts[i]? =some t→qs[i]? =some q→(t:Rat)=vl q*b
theorem Whole.tail {t:Int}{ts:List Int}{q:Int×Int}{qs:List (Int×Int)}{b:Int}(h:Whole (t::ts) (q::qs) b):Whole ts qs b:=⟨by simpa using h.1,fun i t' q' e1 e2=>h.2 (i+1) t' q' (by simpa using e1) (by simpa using e2)⟩
theorem pw_mul {a b:Int}{m n:Nat}(h1:a.natAbs≤2^m)(h2:b.natAbs≤2^n):(a*b).natAbs≤2^(m+n):=by
 rw [Int.natAbs_mul,Nat.pow_add]
 exact Nat.mul_le_mul h1 h2
theorem pw_add {a b:Int}{m:Nat}(h1:a.natAbs≤2^m)(h2:b.natAbs≤2^m):(a+b).natAbs≤2^(m+1):=by
 have:=Int.natAbs_add_le a b
 rw [Nat.pow_succ]
 omega
theorem pw_up {a:Int}{m n:Nat}(h:a.natAbs≤2^m)(hm:m≤n):a.natAbs≤2^n:=Nat.le_trans h (Nat.pow_le_pow_right (by decide) hm)
theorem pw_bits {a:Int}{m n:Nat}(h:a.natAbs≤2^m)(hm:m < n):intBits a≤n:=intBits_le_iff.mpr (Nat.lt_of_le_of_lt h (Nat.pow_lt_pow_right (by decide) hm))
theorem pw_cmul {a b:Int}{m n:Nat}(h1:a.natAbs≤2^m)(h2:b.natAbs≤2^n)(hm:m < 30000000)(hn:n < 30000000):CMulB a b:=⟨Nat.le_trans (pw_bits h1 hm) (by decide),Nat.le_trans (pw_bits h2 hn) (by decide)⟩
theorem Sm.up {T B T' B' :Nat}{q:Int×Int}(h:Sm T B q)(hT:T≤T')(hB:B≤B'):Sm T' B' q:=⟨h.pos,h.low,pw_up h.top hT,pw_up h.bot hB⟩
theorem lcm_step {b d:Int}(hb:0 < b)(hd:0 < d):0 < b.fdiv (gz b d)*d∧b ∣ b.fdiv (gz b d)*d∧d ∣ b.fdiv (gz b d)*d∧(b.fdiv (gz b d)*d).natAbs≤b.natAbs*d.natAbs:=by
 have gp:=gz_pos (t:=b) (b:=d) (by omega)
 have g1:gz b d ∣ b:=Int.gcd_dvd_left ..
 have g2:gz b d ∣ d:=Int.gcd_dvd_right ..
 have e1:=fdiv_of_dvd (g:=gz b d) (by omega) g1
 have e2:=fdiv_of_dvd (g:=gz b d) (by omega) g2
 generalize gz b d=g at*
 have p1:0 < b.fdiv g:=by
  rcases Int.lt_trichotomy (b.fdiv g) 0 with z | z | z
  ·exfalso
   have:=Int.mul_neg_of_pos_of_neg gp z
   omega
  ·rw [z] at e1;omega
  ·exact z
 refine ⟨Int.mul_pos p1 hd,⟨d.fdiv g,?_⟩,⟨b.fdiv g,Int.mul_comm ..⟩,?_⟩
 ·have:b.fdiv g*d=b.fdiv g*(g*d.fdiv g):=by rw [← e2]
  rw [this]
  have h3:b*d.fdiv g=g*b.fdiv g*d.fdiv g:=by rw [← e1]
  rw [h3]
  rw [← Int.mul_assoc,Int.mul_comm (b.fdiv g) g]
 ·rw [Int.natAbs_mul]
  exact Nat.mul_le_mul_right _ (by
   have:=natAbs_factor (g:=g) (a:=b.fdiv g) (by omega)
   rw [← e1] at this
   exact this)
theorem whole_one {q:Int×Int}{b:Int}(hq:0 < q.2)(h:q.2 ∣ b):((q.1*b.fdiv q.2:Int):Rat)=vl q*b:=by
 have e:=cast_fdiv (b:=b) (d:=q.2) (by omega) h
 have:((q.1*b.fdiv q.2:Int):Rat)=q.1*((b.fdiv q.2:Int):Rat):=by push_cast;rfl
 rw [this,e]
 unfold vl
 grind
theorem fdiv_size {b d:Int}(hd:d≠0)(h:d ∣ b):(b.fdiv d).natAbs≤b.natAbs:=by
 have:=natAbs_factor (g:=d) (a:=b.fdiv d) hd
 rw [← fdiv_of_dvd hd h] at this
 exact this
end Ty
set_option maxHeartbeats 4000000
namespace Ty
open PySem PySem.Spec PyProof.Rows L2
section
variable {D:Addr}{te:TE}{cap:L2.St}{H1:Hp}{Q:VK}
theorem comp_genD {J:It}(n:Nat)(xs:Nat→V)(Rel:Nat→V→Hp→Prop)(nD:H1 D=none)(hn:n < sizeLine)
  (go:∀i H,i < n→Same H1 H→J.go i H∧∀x H',J.yld i H x H' →H' =H∧x=xs i) (stop:∀H,Same H1 H→J.stop n H)
  (hR:∀i v H H' ys,H D=some (.lst ys)→KSame D H H' →Rel i v H→Rel i v H')
  (he:∀i H (R:VK),i < n→Same H1 H→(∃ys,H D=some (.lst ys))→(∀v H6,Same H H6→Rel i v H6→R v H6)→te (some (xs i)::cap) H R)
  (hd:∀ys H,ys.length=n→(∀i v,ys[i]? =some v→Rel i v H)→Same H1 H→H D=some (.lst ys)→Q (.ref D) H):
  tBlk D (gName 0) tYes te J (none::cap) H1 Q:=by
 refine blk_of n xs (fun i ys H=>ys.length=i∧(∀i v,ys[i]? =some v→Rel i v H)∧Same H1 H) ⟨rfl,fun i v e=>by simp at e,fun b o e=>by rw [upd_ne (ne_of_none e nD)];exact e⟩ ?_ ?_ ?_ ?_
 ·rintro i ys H hi ⟨_,_,s⟩
  exact go i H hi s
 ·rintro ys H ⟨_,_,s⟩
  exact stop H s
 ·rintro i ys H R hi ⟨l,r,s⟩ hD k
  refine he i H R hi s ⟨_,hD⟩ fun v H6 s6 rv=>k v H6 (s6 _ _ hD) (by omega) ⟨by simp [l],fun j u e=> ?_,fun b o e=> ?_⟩
  ·by_cases c:j < ys.length
   ·rw [List.getElem?_append_left c] at e
    have ru:=hR j u H H6 ys hD (KSame.of s6) (r j u e)
    exact hR j u H6 _ ys (s6 _ _ hD) KSame.upd ru
   ·rw [List.getElem?_append_right (by omega)] at e
    have ej:j=i:=by
     by_cases z:j - ys.length=0
     ·omega
     ·rw [List.getElem?_eq_none (by simp;omega)] at e
      cases e
    subst ej
    have:v=u:=by
     rw [show j - ys.length=0 by omega] at e
     exact Option.some.inj e
    subst this
    exact hR j v H6 _ ys (s6 _ _ hD) KSame.upd rv
  ·rw [upd_ne (ne_of_none e nD)]
   exact s6 _ _ (s _ _ e)
 ·rintro ys H ⟨l,r,s⟩ hD
  exact hd ys H l r s hD
theorem comp_listD {K:Frag}{a:Addr}{xs:List V}(Rel:Nat→V→Hp→Prop)(nD:H1 D=none)(hn:xs.length < sizeLine)(hS:∀H,Same H1 H→SqL K H a xs)
  (hR:∀i v H H' ys,H D=some (.lst ys)→KSame D H H' →Rel i v H→Rel i v H')
  (he:∀i x H (R:VK),xs[i]? =some x→Same H1 H→(∃ys,H D=some (.lst ys))→(∀v H6,Same H H6→Rel i v H6→R v H6)→te (some x::cap) H R)
  (hd:∀ys H,ys.length=xs.length→(∀i v,ys[i]? =some v→Rel i v H)→Same H1 H→H D=some (.lst ys)→Q (.ref D) H):
  tBlk D (gName 0) tYes te (Itl K a) (none::cap) H1 Q:=by
 refine comp_genD xs.length (fun i=>(xs[i]?).getD .non) Rel nD hn (fun i H hi s=>⟨⟨xs,xs[i],hS H s,gE hi⟩,fun x H' y=>⟨y.1,?_⟩⟩) (fun H s=>⟨xs,hS H s,Nat.le_refl _⟩) hR (fun i H R hi s dd k=> ?_) hd
 ·rw [y.2 xs (hS H s)];rfl
 ·have e:xs[i]? =some xs[i]:=gE hi
  have k' :=he i _ H R e s dd k
  rw [← (show (xs[i]?).getD .non=xs[i] by rw [e];rfl)] at k'
  exact k'
end
section
variable {X:Cx}
end
end Ty
namespace L2
open PySem PySem.Spec PyProof.Rows
section
variable {κ:Type}[DecidableEq κ]
def valV (kvs:List (κ×V))(k:κ):Option V:=(kvs.find? fun kv=>decide (kv.1=k)).map (·.2)
def putK (kvs:List (κ×V))(k:κ)(v:V):List (κ×V):=
 if (kvs.any fun kv=>decide (kv.1=k))=true then kvs.map (fun kv=>if kv.1=k then (kv.1,v) else kv) else kvs++[(k,v)]
theorem valV_pos {p:κ×V}{r:List (κ×V)}{k:κ}(e:p.1=k):valV (p::r) k=some p.2:=by simp [valV,List.find?_cons,e]
theorem valV_neg {p:κ×V}{r:List (κ×V)}{k:κ}(e:¬ p.1=k):valV (p::r) k=valV r k:=by simp [valV,List.find?_cons,e]
theorem valV_any (k:κ):∀kvs:List (κ×V),(kvs.any fun kv=>decide (kv.1=k))=(valV kvs k).isSome
 | []=>rfl
 | p::r=>by
  rw [List.any_cons]
  by_cases e:p.1=k
  ·simp only [valV_pos e,decide_eq_true e,Bool.true_or,Option.isSome_some]
  ·rw [valV_neg e,decide_eq_false e,Bool.false_or];exact valV_any k r
theorem valV_map (k j:κ)(y:V):∀kvs:List (κ×V),valV (kvs.map fun kv=>if kv.1=k then (kv.1,y) else kv) j=(valV kvs j).map fun x=>if j=k then y else x
 | []=>rfl
 | p::r=>by
  have ih:=valV_map k j y r
  rw [List.map_cons]
  by_cases h:p.1=k
  ·rw [if_pos h]
   by_cases e:p.1=j
   ·rw [valV_pos (p:=(p.1,y)) e,valV_pos e,Option.map_some,if_pos (e.symm.trans h)]
   ·rw [valV_neg (p:=(p.1,y)) e,valV_neg e,ih]
  ·rw [if_neg h]
   by_cases e:p.1=j
   ·rw [valV_pos (p:=p) e,valV_pos e,Option.map_some,if_neg (fun z=>h (e.trans z))]
   ·rw [valV_neg (p:=p) e,valV_neg e,ih]
theorem valV_snoc (k j:κ)(y:V):∀kvs:List (κ×V),valV kvs k=none→valV (kvs++[(k,y)]) j=if j=k then some y else valV kvs j
 | [],_=>by
  by_cases e:k=j
  ·rw [if_pos e.symm];exact valV_pos (p:=(k,y)) e
  ·rw [if_neg (fun z=>e z.symm)];exact valV_neg (p:=(k,y)) e
 | p::r,hn=>by
  rw [List.cons_append]
  have hk:¬ p.1=k:=fun z=>by rw [valV_pos z] at hn;cases hn
  rw [valV_neg hk] at hn
  have ih:=valV_snoc k j y r hn
  by_cases e:p.1=j
  ·rw [valV_pos e,valV_pos e,if_neg (fun z=>hk (e.trans z))]
  ·rw [valV_neg e,valV_neg e,ih]
theorem valV_put (kvs:List (κ×V))(k j:κ)(y:V):valV (putK kvs k y) j=if j=k then some y else valV kvs j:=by
 unfold putK
 by_cases a:(kvs.any fun kv=>decide (kv.1=k))=true
 ·rw [if_pos a,valV_map]
  rw [valV_any] at a
  by_cases e:j=k
  ·obtain ⟨x,hx⟩:=Option.isSome_iff_exists.mp a
   rw [if_pos e,e,hx,Option.map_some,if_pos rfl]
  ·rw [if_neg e]
   cases valV kvs j with
   | none=>rfl
   | some x=>rw [Option.map_some,if_neg e]
 ·rw [if_neg a]
  refine valV_snoc k j y kvs ?_
  rw [valV_any] at a
  cases q:valV kvs k with
  | none=>rfl
  | some x=>rw [q] at a;exact (a rfl).elim
theorem length_putK (kvs:List (κ×V))(k:κ)(v:V):(putK kvs k v).length≤kvs.length+1:=by
 unfold putK
 split
 ·rw [List.length_map];omega
 ·rw [List.length_append,List.length_cons,List.length_nil];omega
theorem putK_new {kvs:List (κ×V)}{k:κ}(v:V)(h:valV kvs k=none):putK kvs k v=kvs++[(k,v)]:=by
 unfold putK
 rw [valV_any,h]
 exact if_neg (by decide)
theorem RelO.isSome_eq {o:Option V}{u:Option Value}(r:RelO o u):o.isSome=u.isSome:=by
 cases o with
 | none=>cases u with
  | none=>rfl
  | some _=>exact (show False from r).elim
 | some _=>cases u with
  | none=>exact (show False from r).elim
  | some _=>rfl
theorem RelO.getD {o:Option V}{u:Option Value}{d:V}{d' :Value}(r:RelO o u)(rd:RelV d d'):RelV (o.getD d) (u.getD d'):=by
 cases o with
 | none=>cases u with
  | none=>exact rd
  | some _=>exact (show False from r).elim
 | some _=>cases u with
  | none=>exact (show False from r).elim
  | some _=>exact r
theorem KV.val {kvs:List (κ×V)}{vs:List (κ×Value)}(r:KV kvs vs)(k:κ):RelO (valV kvs k) (valueAt vs k):=by
 unfold KV at r
 induction r with
 | nil=>exact True.intro
 | @cons p q ps qs h t ih=>
  obtain ⟨h1,h2⟩:=h
  by_cases e:p.1=k
  ·have e' :q.1=k:=h1.symm.trans e
   have b:valueAt (q::qs) k=some q.2:=by simp [valueAt,List.find?_cons,e']
   rw [valV_pos e,b];exact h2
  ·have e' :¬ q.1=k:=fun z=>e (h1.trans z)
   have b:valueAt (q::qs) k=valueAt qs k:=by simp [valueAt,List.find?_cons,e']
   rw [valV_neg e,b];exact ih
theorem KV.any {kvs:List (κ×V)}{vs:List (κ×Value)}(r:KV kvs vs)(k:κ):(kvs.any fun kv=>decide (kv.1=k))=vs.any fun kv=>decide (kv.1=k):=by
 unfold KV at r
 induction r with
 | nil=>rfl
 | cons h t ih=>rw [List.any_cons,List.any_cons,ih,h.1]
theorem KV.repl {kvs:List (κ×V)}{vs:List (κ×Value)}(r:KV kvs vs)(k:κ){y:V}{u:Value}(ry:RelV y u):
  KV (kvs.map fun kv=>if kv.1=k then (kv.1,y) else kv) (vs.map fun kv=>if kv.1=k then (kv.1,u) else kv):=by
 unfold KV at r ⊢
 induction r with
 | nil=>exact .nil
 | @cons p q ps qs h t ih=>
  rw [List.map_cons,List.map_cons]
  refine .cons ?_ ih
  obtain ⟨h1,h2⟩:=h
  by_cases e:p.1=k
  ·rw [if_pos e,if_pos (h1.symm.trans e)];exact ⟨h1,ry⟩
  ·rw [if_neg e,if_neg (fun z=>e (h1.trans z))];exact ⟨h1,h2⟩
theorem KV.put {kvs:List (κ×V)}{vs:List (κ×Value)}(r:KV kvs vs)(k:κ){y:V}{u:Value}(ry:RelV y u):KV (putK kvs k y) (stored vs k u):=by
 unfold putK stored
 rw [r.any k]
 by_cases e:(vs.any fun kv=>decide (kv.1=k))=true
 ·rw [if_pos e,if_pos e];exact r.repl k ry
 ·rw [if_neg e,if_neg e];exact Paired.snoc r ⟨rfl,ry⟩
theorem KV.length {kvs:List (κ×V)}{vs:List (κ×Value)}(r:KV kvs vs):kvs.length=vs.length:=Paired.length r
end
theorem kV_is {P:Program}{w:World}{k:Key}{u:Value}(r:RelV (kV k) u):(mixKind P w).is k u=true:=by
 cases k with
 | inl i=>obtain ⟨t,e⟩:=(show ∃t,u=Value.int i t from r);subst e;exact mixKind_int P w i t
 | inr x=>obtain ⟨t,e⟩:=(show ∃t,u=Value.str x t from r);subst e;exact mixKind_str P w x t
theorem items_are {P:Program}{w:World}:∀{ks:List Key} {us:List Value},Vals (ks.map kV) us→ItemsAre (mixKind P w) ks us
 | [],_,r=>by rw [List.map_nil] at r;cases r;exact .nil
 | k::ks,_,r=>by
  rw [List.map_cons] at r
  cases r with
  | cons h t=>exact .cons (kV_is h) (items_are t)
abbrev KT (H:Hp):List (List Key×V)→List (List Key×Addr×Value)→Prop:=Paired fun p q=>p.1=q.1∧H q.2.1=some (.tup (p.1.map kV))∧RelV p.2 q.2.2
theorem KT.val {H:Hp}{kvs:List (List Key×V)}{xs:List (List Key×Addr×Value)}(r:KT H kvs xs)(k:List Key):RelO (valV kvs k) ((atKey xs k).map (·.2)):=by
 induction r with
 | nil=>exact True.intro
 | @cons p q ps qs h t ih=>
  obtain ⟨h1,_,h2⟩:=h
  by_cases e:p.1=k
  ·have e' :q.1=k:=h1.symm.trans e
   have b:atKey (q::qs) k=some q.2:=by simp [atKey,List.find?_cons,e']
   rw [valV_pos e,b];exact h2
  ·have e' :¬ q.1=k:=fun z=>e (h1.trans z)
   have b:atKey (q::qs) k=atKey qs k:=by simp [atKey,List.find?_cons,e']
   rw [valV_neg e,b];exact ih
theorem KT.repl {H:Hp}{kvs:List (List Key×V)}{xs:List (List Key×Addr×Value)}(r:KT H kvs xs)(k:List Key){y:V}{u:Value}(ry:RelV y u):
  KT H (kvs.map fun kv=>if kv.1=k then (kv.1,y) else kv) (xs.map (putAt k u)):=by
 induction r with
 | nil=>exact .nil
 | @cons p q ps qs h t ih=>
  rw [List.map_cons,List.map_cons]
  refine .cons ?_ ih
  obtain ⟨h1,h2,h3⟩:=h
  unfold putAt
  by_cases e:p.1=k
  ·rw [if_pos e,if_pos (h1.symm.trans e)];exact ⟨h1,h2,ry⟩
  ·rw [if_neg e,if_neg (fun z=>e (h1.trans z))];exact ⟨h1,h2,h3⟩
theorem KT.put {H:Hp}{kvs:List (List Key×V)}{xs:List (List Key×Addr×Value)}(r:KT H kvs xs)(k:List Key){b:Addr}{y:V}{u:Value}(hb:H b=some (.tup (k.map kV)))(ry:RelV y u):
  KT H (putK kvs k y) (storedH xs k b u):=by
 have e:(kvs.any fun kv=>decide (kv.1=k))=(atKey xs k).isSome:=by
  rw [valV_any,(r.val k).isSome_eq,Option.isSome_map]
 unfold putK storedH
 rw [e]
 by_cases q:(atKey xs k).isSome=true
 ·rw [if_pos q,if_pos q];exact r.repl k ry
 ·rw [if_neg q,if_neg q];exact Paired.snoc r ⟨rfl,hb,ry⟩
theorem KT.keeps {H H' :Hp}{kvs:List (List Key×V)}{xs:List (List Key×Addr×Value)}(r:KT H kvs xs)(ht:∀b ys,H b=some (.tup ys)→H' b=some (.tup ys)):KT H' kvs xs:=
 Paired.mapP r fun _ _ z=>⟨z.1,ht _ _ z.2.1,z.2.2⟩
section
variable {P:Program}{w:World}{H:Hp}{h:Heap}{a:Addr}
theorem rd_of {u:HO}(ok:HOk P w H h)(e:Rd H a u):ObjOk P w H h a u:=e.ok ok
theorem dk_rd {kvs:List (Key×V)}(ok:HOk P w H h)(e:Rd H a (.dK kvs)):kvs.length≤sizeLine∧(a==sysModules)=false∧∃vs,KV kvs vs∧h.DictOf (mixKind P w) a vs:=
 show ObjOk P w H h a (.dK kvs) from rd_of ok e
theorem dk_of {kvs:List (Key×V)}(ok:HOk P w H h)(e:H a=some (.dK kvs)):kvs.length≤sizeLine∧(a==sysModules)=false∧∃vs,KV kvs vs∧h.DictOf (mixKind P w) a vs:=dk_rd ok (.inl e)
theorem key_of {ks:List Key}(ok:HOk P w H h)(e:H a=some (.tup (ks.map kV))):(tupleKind (mixKind P w)).is h ks a:=by
 obtain ⟨_,its,r,o,h1,h2,n,h3⟩:=(show ObjOk P w H h a (.tup (ks.map kV)) from ok a _ e)
 exact ⟨o,its.toArray,n,h1,h2,h3,by simpa using items_are r⟩
theorem dt_rd {kvs:List (List Key×V)}(ok:HOk P w H h)(e:Rd H a (.dT kvs)):kvs.length≤sizeLine∧(a==sysModules)=false∧
  ∃xs,KT H kvs xs∧h.DictOfH (tupleKind (mixKind P w)) a xs:=by
 obtain ⟨z,y,xs,r,o,es,ep,h1,h2,h3,h4,h5⟩:=(show ObjOk P w H h a (.dT kvs) from rd_of ok e)
 refine ⟨z,y,xs,r,o,es,ep,h1,h2,h3,h4,fun x hx=> ?_,h5⟩
 have all:∀{l:List (List Key×V)} {m:List (List Key×Addr×Value)},KT H l m→∀x∈m,(tupleKind (mixKind P w)).is h x.1 x.2.1:=by
  intro l m q
  induction q with
  | nil=>intro x hx;exact nomatch hx
  | @cons p q ps qs hq t ih=>
   intro x hx
   rcases List.mem_cons.mp hx with e | hx
   ·subst e
    exact key_of ok (by rw [← hq.1];exact hq.2.1)
   ·exact ih x hx
 exact all r x hx
theorem dt_of {kvs:List (List Key×V)}(ok:HOk P w H h)(e:H a=some (.dT kvs)):kvs.length≤sizeLine∧(a==sysModules)=false∧
  ∃xs,KT H kvs xs∧h.DictOfH (tupleKind (mixKind P w)) a xs:=dt_rd ok (.inl e)
end
def DGet (H:Hp)(a:Addr)(y:V)(r:Option V):Prop:=
 (∃kvs k,Rd H a (.dK kvs)∧y=kV k∧r=valV kvs k)∨∃kvs k b,Rd H a (.dT kvs)∧y=.ref b∧H b=some (.tup (k.map kV))∧r=valV kvs k
def DPut (H:Hp)(a:Addr)(y v:V)(H' :Hp):Prop:=
 (∃kvs k,H a=some (.dK kvs)∧y=kV k∧kvs.length < sizeLine∧H' =upd H a (.dK (putK kvs k v)))∨
 ∃kvs k b,H a=some (.dT kvs)∧y=.ref b∧H b=some (.tup (k.map kV))∧kvs.length < sizeLine∧H' =upd H a (.dT (putK kvs k v))
theorem DGet.k {H:Hp}{a:Addr}{kvs:List (Key×V)}{k:Key}(e:H a=some (.dK kvs)):DGet H a (kV k) (valV kvs k):=.inl ⟨kvs,k,.inl e,rfl,rfl⟩
theorem DPut.k {H:Hp}{a:Addr}{kvs:List (Key×V)}{k:Key}{v:V}(e:H a=some (.dK kvs))(hl:kvs.length < sizeLine):DPut H a (kV k) v (upd H a (.dK (putK kvs k v))):=.inl ⟨kvs,k,e,rfl,hl,rfl⟩
section
variable {X:Cx}{pins:List (Addr×Obj)}{σ:St}{H:Hp}{s:Shared}{a:Addr}{y v:V}{u r:Value}{o:Option V}{A:Around}{E:Value→Shared→Prop}
theorem Inv.big (I:Inv X pins σ H s):sysModules < s.heap.objs.size:=by
 have h:mainGlobals < s.heap.objs.size:=(I.mod.glob.keeps I.bk).lt
 exact Nat.lt_trans (by decide) h
theorem d_getItem {Q:Value→Shared→Prop}(hu:A.units+1 < cLine)(I:Inv X pins σ H s)(g:DGet H a y (some v))(ry:RelV y u)(h:∀w' s',Inv X pins σ H s' →RelV v w' →Q w' s'):
  wpAny (model X.prog X.w) A (getItem (.ref a) u) Q E s:=by
 rcases g with ⟨kvs,k,e,ey,l⟩ | ⟨kvs,k,b,e,ey,eb,l⟩
 ·subst ey
  obtain ⟨z,hd,vs,rel,dd⟩:=dk_rd I.hok e
  obtain ⟨w',hw,rw'⟩:=RelO.some_of (v:=v) (o:=valueAt vs k) (by rw [l];exact rel.val k)
  exact wpAny_getItem_of (kV_is ry) dd.mapOf hw (h w' _ (I.tok _) rw')
 ·subst ey
  cases (show u=Value.ref b from ry)
  obtain ⟨z,hd,xs,rel,dd⟩:=dt_rd I.hok e
  obtain ⟨w',hw,rw'⟩:=RelO.some_of (v:=v) (o:=(atKey xs k).map (·.2)) (by rw [l];exact rel.val k)
  obtain ⟨p,hp,hp2⟩:=Option.map_eq_some_iff.mp hw
  refine wpAny_getItem_heap (tupleKind_room_in1 hu) (key_of I.hok eb) dd hp ?_
  rw [hp2]
  exact h w' _ (I.tok _) rw'
theorem d_in {Q:Value→Shared→Prop}(hu:A.units+1 < cLine)(I:Inv X pins σ H s)(g:DGet H a y o)(ry:RelV y u)(h:∀s',Inv X pins σ H s' →Q (.bool o.isSome) s'):
  wpAny (model X.prog X.w) A (compareOp .In u (.ref a)) Q E s:=by
 rcases g with ⟨kvs,k,e,ey,l⟩ | ⟨kvs,k,b,e,ey,eb,l⟩
 ·subst ey
  obtain ⟨z,hd,vs,rel,dd⟩:=dk_rd I.hok e
  refine wpAny_in_of (kV_is ry) hd dd.mapOf ?_
  rw [← (rel.val k).isSome_eq, ← l]
  exact h _ (I.tok _)
 ·subst ey
  cases (show u=Value.ref b from ry)
  obtain ⟨z,hd,xs,rel,dd⟩:=dt_rd I.hok e
  refine wpAny_in_heap (tupleKind_room_in1 hu) (key_of I.hok eb) hd dd ?_
  have q:=(rel.val k).isSome_eq
  rw [Option.isSome_map] at q
  rw [← q, ← l]
  exact h _ (I.tok _)
theorem d_notIn {Q:Value→Shared→Prop}(hu:A.units+1 < cLine)(I:Inv X pins σ H s)(g:DGet H a y o)(ry:RelV y u)(h:∀s',Inv X pins σ H s' →Q (.bool (!o.isSome)) s'):
  wpAny (model X.prog X.w) A (compareOp .NotIn u (.ref a)) Q E s:=by
 rcases g with ⟨kvs,k,e,ey,l⟩ | ⟨kvs,k,b,e,ey,eb,l⟩
 ·subst ey
  obtain ⟨z,hd,vs,rel,dd⟩:=dk_rd I.hok e
  refine wpAny_notIn_of (kV_is ry) hd dd.mapOf ?_
  rw [← (rel.val k).isSome_eq, ← l]
  exact h _ (I.tok _)
 ·subst ey
  cases (show u=Value.ref b from ry)
  obtain ⟨z,hd,xs,rel,dd⟩:=dt_rd I.hok e
  refine wpAny_notIn_heap (tupleKind_room_in1 hu) (key_of I.hok eb) hd dd ?_
  have q:=(rel.val k).isSome_eq
  rw [Option.isSome_map] at q
  rw [← q, ← l]
  exact h _ (I.tok _)
theorem d_write {h' :Heap}{t' :Nat}{ob:HO}(I:Inv X pins σ H s)(mu:Mut (H a))(hs:Heap.SameBut a s.heap h')(he:∃q,h'.get? a=some q)(new:ObjOk X.prog X.w (upd H a ob) h' a ob):
  Inv X pins σ (upd H a ob) {s with heap:=h',toks:=t' }:=
 I.write (x:=a) (e:=a) mu (.inl rfl) (fun b q hb z=>(hs.2 b hb).trans z) he new
theorem dk_new {P:Program}{w:World}{H' :Hp}{h' :Heap}{kvs:List (Key×V)}{vs:List (Key×Value)}(z:kvs.length≤sizeLine)(hd:(a==sysModules)=false)(rel:KV kvs vs)(dd:h'.DictOf (mixKind P w) a vs):
  ObjOk P w H' h' a (.dK kvs):=⟨z,hd,vs,rel,dd⟩
theorem d_setItem {H' :Hp}{Q:Unit→Shared→Prop}(hu:A.units+1 < cLine)(I:Inv X pins σ H s)(g:DPut H a y v H')(ry:RelV y u)(rv:RelV v r)(h:∀s',Inv X pins σ H' s' →Q () s'):
  wpAny (model X.prog X.w) A (setItem (.ref a) u r) Q E s:=by
 rcases g with ⟨kvs,k,e,ey,l,eH⟩ | ⟨kvs,k,b,e,ey,eb,l,eH⟩
 ·subst ey eH
  obtain ⟨z,hd,vs,rel,dd⟩:=dk_of I.hok e
  have hz:vs.length≤sizeLine:=by rw [← rel.length];exact z
  have hl:(putK kvs k v).length≤sizeLine:=by have:=length_putK kvs k v;omega
  refine wpAny_setItem_pairs (hsz:=hz) (kV_is ry) dd fun h' dd' hs=>h _ ?_
  have he:∃q,h'.get? a=some q:=let ⟨q,_,_,hq,_⟩:=dd';⟨q,hq⟩
  exact d_write I (by rw [e];exact True.intro) hs he (dk_new hl hd (rel.put k rv) dd')
 ·subst ey eH
  cases (show u=Value.ref b from ry)
  obtain ⟨z,hd,xs,rel,dd⟩:=dt_of I.hok e
  have hz:xs.length≤sizeLine:=by rw [← Paired.length rel];exact z
  have hl:(putK kvs k v).length≤sizeLine:=by have:=length_putK kvs k v;omega
  refine wpAny_setItem_heap (hsz:=hz) (tupleKind_room_in1 hu) (key_of I.hok eb) dd fun h' dd' hs=>h _ ?_
  obtain ⟨q,es,ep,hq,h2,h3,h4,_,h5⟩:=dd'
  refine d_write I (by rw [e];exact True.intro) hs ⟨q,hq⟩ ⟨hl,hd,_,(rel.put k eb rv).keeps fun c ys ec=> ?_,q,es,ep,hq,h2,h3,h4,h5⟩
  rw [upd_ne (ne_of ec e (fun z=>nomatch z))]
  exact ec
end
section
variable {X:Cx}{pins:List (Addr×Obj)}{σ:St}{H:Hp}{s:Shared}{a:Addr}{kvs:List (Key×V)}{k:Key}{u:Value}{A:Around}{E:Value→Shared→Prop}
theorem d_len {Q:Value→Shared→Prop}(I:Inv X pins σ H s)(e:Rd H a (.dK kvs))(h:∀t s',Inv X pins σ H s' →Q (.int kvs.length t) s'):wpAny (model X.prog X.w) A (call (.builtin "len") [.ref a]) Q E s:=by
 obtain ⟨z,hd,vs,rel,dd⟩:=dk_rd I.hok e
 refine call_len_dict hd dd (by rw [← rel.length];rw [sizeLine_eq] at z;omega) ?_
 rw [← rel.length]
 exact h _ _ (I.tok _)
end
def NoSl (i:Expr):Prop:=∀ov iv,subscripted i false ov iv=operate [ov,iv] (getItem ov iv)
theorem subD_of {prog:Program}{w:World}{A:Around}{E:Value→Shared→Prop}{s:Shared}{env:Env}{value slice:Expr}{pos:Pos}{T id:String}{Q:Value→Shared→Prop}
  (hl:typeLookup (.type T) "__getitem__"=pure (some (.builtin id))) (hs:NoSl slice)
  (h:wpAny (model prog w) A (eval value env) (fun o s₁=>wpAny (model prog w) A (eval slice env) (fun i s₂=>s₂.TypeIs o T∧wpAny (model prog w) A (getItem o i) Q E s₂) E s₁) E s):
  wpAny (model prog w) A (eval (.Subscript value slice pos) env) Q E s:=by
 refine Subscript_ (wpAny_mono h (fun o s₁ h₁=>wpAny_mono h₁ (fun i s₂ h₂=> ?_) fun _ _ x=>x) fun _ _ x=>x)
 obtain ⟨hT,h₂⟩:=h₂
 unfold subscriptTail
 refine wpAny_bind ?_
 rw [getitemInPython_of_ne hT.not_modules]
 refine wpAny_bind (wpAny_specialOf hT hl ?_)
 have fin:wpAny (model prog w) A (subscripted slice false o i) (fun r s₃=>wpAny (model prog w) A (letTemporaryGo value o r >>=fun _=>pure r) Q E s₃) E s₂:=by
  rw [hs o i]
  exact wpAny_operating (wpAny_mono h₂ (fun r s₃ h₃=>wpAny_bind (wpAny_letTemporaryGo (wpAny_pure h₃))) fun _ _ x=>x)
 first
  | exact wpAny_pure (wpAny_bind fin)
  | exact wpAny_bind (wpAny_pure (wpAny_bind fin))
  | exact wpAny_bind fin
theorem dict_typeIs {X:Cx}{pins:List (Addr×Obj)}{σ:St}{H:Hp}{s:Shared}{a:Addr}{y:V}{o:Option V}(I:Inv X pins σ H s)(g:DGet H a y o):s.TypeIs (.ref a) "dict":=by
 rcases g with ⟨kvs,k,e,_,_⟩ | ⟨kvs,k,b,e,_,_,_⟩
 ·obtain ⟨_,_,vs,_,dd⟩:=dk_rd I.hok e
  exact dd.typeIs
 ·obtain ⟨_,_,xs,_,dd⟩:=dt_rd I.hok e
  exact dd.typeIs
inductive tDGet_ (Q:VK)(x:V)(y:V)(H2:Hp):Prop where
 | mk (a v:_) (_:x=.ref a) (_:DGet H2 a y (some v)) (_:Q v H2):tDGet_ Q x y H2
def tDGet (td ty:TE):TE:=fun σ H Q=>td σ H fun x H1=>ty σ H1 fun y H2=>tDGet_ Q x y H2
inductive tDIn_ (Q:VK)(y:V)(x:V)(H2:Hp):Prop where
 | mk (a o:_) (_:x=.ref a) (_:DGet H2 a y o) (_:Q (.bl o.isSome) H2):tDIn_ Q y x H2
def tDIn (ty td:TE):TE:=fun σ H Q=>ty σ H fun y H1=>td σ H1 fun x H2=>tDIn_ Q y x H2
inductive tDNotIn_ (Q:VK)(y:V)(x:V)(H2:Hp):Prop where
 | mk (a o:_) (_:x=.ref a) (_:DGet H2 a y o) (_:Q (.bl (!o.isSome)) H2):tDNotIn_ Q y x H2
def tDNotIn (ty td:TE):TE:=fun σ H Q=>ty σ H fun y H1=>td σ H1 fun x H2=>tDNotIn_ Q y x H2
inductive sDPut_ (D:Ends)(σ:L2.St)(v:V)(x:V)(y:V)(H3:Hp):Prop where
 | mk (a H4:_) (_:x=.ref a) (_:DPut H3 a y v H4) (_:D.nx σ H4):sDPut_ D σ v x y H3
def sDPut (td ty tv:TE):TS:=fun D σ H=>tv σ H fun v H1=>td σ H1 fun x H2=>ty σ H2 fun y H3=>sDPut_ D σ v x y H3
section
variable {X:Cx}{o i e value:Expr}{pos pos' tpos:Pos}{td ty tv:TE}
theorem pe_dget (hu:X.A.units+1 < cLine)(ho:PE X o td)(hi:PE X i ty)(hs:NoSl i):PE X (.Subscript o i pos) (tDGet td ty):=by
 intro pins s σ H Q I h
 refine subD_of PySem.F.slot_dict_getitem.lookup hs (thn (ho pins s σ H _ I h) fun u s1 ⟨x,H1,I1,rx,q1⟩=>thn (hi pins s1 σ H1 _ I1 q1) fun iv s2 ⟨y,H2,I2,ry,a,v,ex,g,q2⟩=> ?_)
 subst ex
 obtain rfl:u=Value.ref a:=rx
 exact ⟨dict_typeIs I2 g,d_getItem hu I2 g ry fun w' s3 I3 rw' =>⟨v,H2,I3,rw',q2⟩⟩
theorem pc_din (hu:X.A.units+1 < cLine)(hi:PE X i ty)(ho:PE X o td):PC X .In i o (tDIn ty td):=by
 intro pins s σ H Q I h
 refine thn (hi pins s σ H _ I h) fun iv s1 ⟨y,H1,I1,ry,q1⟩=>thn (ho pins s1 σ H1 _ I1 q1) fun u s2 ⟨x,H2,I2,rx,a,ov,ex,g,q2⟩=> ?_
 subst ex
 obtain rfl:u=Value.ref a:=rx
 exact d_in hu I2 g ry fun s3 I3=>⟨.bl ov.isSome,H2,I3,rfl,q2⟩
theorem pc_dnotin (hu:X.A.units+1 < cLine)(hi:PE X i ty)(ho:PE X o td):PC X .NotIn i o (tDNotIn ty td):=by
 intro pins s σ H Q I h
 refine thn (hi pins s σ H _ I h) fun iv s1 ⟨y,H1,I1,ry,q1⟩=>thn (ho pins s1 σ H1 _ I1 q1) fun u s2 ⟨x,H2,I2,rx,a,ov,ex,g,q2⟩=> ?_
 subst ex
 obtain rfl:u=Value.ref a:=rx
 exact d_notIn hu I2 g ry fun s3 I3=>⟨.bl (!ov.isSome),H2,I3,rfl,q2⟩
theorem ps_dput (hu:X.A.units+1 < cLine)(ho:PE X o td)(hi:PE X i ty)(hv:PE X value tv)(hs:swapsWith value (some (.Subscript o i pos')) pos.line X.env=pure false):
  PS X (.Assign [.Subscript o i pos'] value pos) (sDPut td ty tv):=by
 intro pins s σ H D I h
 refine wpAny_Assign_Subscript (thn (hv pins s σ H _ I h) fun r s1 ⟨v,H1,I1,rv,q1⟩=>thn (ho pins s1 σ H1 _ I1 q1) fun u s2 ⟨x,H2,I2,rx,q2⟩=>thn (hi pins s2 σ H2 _ I2 q2) fun iv s3 ⟨y,H3,I3,ry,a,H4,ex,g,q3⟩=> ?_) hs
 subst ex
 obtain rfl:u=Value.ref a:=rx
 exact d_setItem hu I3 g ry rv fun s4 I4=>⟨σ,H4,I4,q3⟩
end
theorem dk_empty {P:Program}{w:World}{H:Hp}(h:Heap)(hb:sysModules < h.objs.size):ObjOk P w H (h.push {cls:=.type "dict",data:=.dict #[]}) h.objs.size (.dK []):=
 ⟨Nat.zero_le _,beq_eq_false_iff_ne.mpr (Ne.symm (Nat.ne_of_lt hb)),[],.nil,Heap.DictOf.new h⟩
def tDNewK:TE:=fun _ H Q=>∀p,H p=none→Q (.ref p) (upd H p (.dK []))
section
variable {X:Cx}{pos:Pos}
theorem pe_dnewK:PE X (.Dict [] [] pos) tDNewK:=fun pins s σ H Q I h=>
 wpAny_Dict_empty ⟨.ref s.heap.objs.size,_,I.laid (a:=s.heap.objs.size) (o:=.dK []) (t' :=s.toks) (fun _ _ q=>Heap.get?_push_of_some _ q) (Nat.le_refl _) (dk_empty s.heap I.big),rfl,h _ (I.hok.fresh (Nat.le_refl _))⟩
end
def tPairs:List (TE×TE)→St→Hp→(List (V×V)→Hp→Prop)→Prop
 | [],_,H,Q=>Q [] H
 | (tk,tv)::r,σ,H,Q=>tk σ H fun x H1=>tv σ H1 fun y H2=>tPairs r σ H2 fun ps H3=>Q ((x,y)::ps) H3
abbrev VV:List (V×V)→List (Value×Value)→Prop:=Paired fun p q=>RelV p.1 q.1∧RelV p.2 q.2
def PPs (X:Cx)(pos:Pos)(keys:List (Option Expr))(values:List Expr)(trs:List (TE×TE)):Prop:=
 ∀(pins:List (Addr×Obj)) (s:Shared) (σ:St) (H:Hp) (Q:List (V×V)→Hp→Prop),Inv X pins σ H s→tPairs trs σ H Q→
  wpAny (model X.prog X.w) X.A (evalPairs (pairTrees keys values X.env pos)) (fun vs s' =>∃ps H',Inv X pins σ H' s' ∧VV ps vs∧Q ps H') X.xe s
theorem pps_nil {X:Cx}{pos:Pos}:PPs X pos [] [] []:=fun pins s σ H Q I h=>pairTrees_nil_walk ⟨[],H,I,.nil,h⟩
theorem pps_cons {X:Cx}{pos:Pos}{k v:Expr}{ks:List (Option Expr)}{vs:List Expr}{tk tv:TE}{trs:List (TE×TE)}(hk:PE X k tk)(hv:PE X v tv)(hr:PPs X pos ks vs trs):
  PPs X pos (some k::ks) (v::vs) ((tk,tv)::trs):=fun pins s σ H Q I h=>
 pairTrees_cons_walk (thn (hk pins s σ H _ I h) fun u s1 ⟨x,H1,I1,rx,q1⟩=>thn (hv pins s1 σ H1 _ I1 q1) fun w2 s2 ⟨y,H2,I2,ry,q2⟩=>
  thn (hr pins s2 σ H2 _ I2 q2) fun ws s3 ⟨ps,H3,I3,rel,q3⟩=>⟨(x,y)::ps,H3,I3,.cons ⟨rx,ry⟩ rel,q3⟩)
def mergeK (kvs more:List (Key×V)):List (Key×V):=more.foldl (fun acc kv=>putK acc kv.1 kv.2) kvs
theorem KV.merge:∀{more:List (Key×V)} {rs:List (Key×Value)} {kvs:List (Key×V)} {vs:List (Key×Value)},KV more rs→KV kvs vs→KV (mergeK kvs more) (merged vs rs):=by
 intro more rs kvs vs r
 unfold KV at r
 induction r generalizing kvs vs with
 | nil=>intro q;exact q
 | @cons p q ps qs h t ih=>
  intro r0
  have e:KV (putK kvs p.1 p.2) (stored vs q.1 q.2):=by
   have:=r0.put p.1 h.2
   rw [← h.1];exact this
  exact ih e
theorem length_mergeK:∀(more kvs:List (Key×V)),(mergeK kvs more).length≤kvs.length+more.length
 | [],kvs=>by show kvs.length≤kvs.length+0;omega
 | p::r,kvs=>by
  have h1:=length_mergeK r (putK kvs p.1 p.2)
  have h2:=length_putK kvs p.1 p.2
  show (mergeK (putK kvs p.1 p.2) r).length≤_
  rw [List.length_cons];omega
theorem carries_of {P:Program}{w:World}:∀{kvs:List (Key×V)} {ws:List (Value×Value)},VV (kvs.map fun kv=>(kV kv.1,kv.2)) ws→∃rs,Carries (mixKind P w) ws rs∧KV kvs rs
 | [],_,r=>by rw [List.map_nil] at r;cases r;exact ⟨[],True.intro,.nil⟩
 | p::kvs,_,r=>by
  rw [List.map_cons] at r
  cases r with
  | @cons a b as bs h t=>
   obtain ⟨rs,c,q⟩:=carries_of (P:=P) (w:=w) t
   obtain ⟨b1,b2⟩:=b
   exact ⟨(p.1,b2)::rs,⟨kV_is h.1,rfl,c⟩,.cons ⟨rfl,h.2⟩ q⟩
def tDisp (trs:List (TE×TE)):TE:=fun σ H Q=>∀p,H p=none→tPairs trs σ (upd H p (.dK [])) fun ps H2=>H2 p=some (.dK [])∧∃kvs:List (Key×V),ps=kvs.map (fun kv=>(kV kv.1,kv.2))∧kvs.length≤15∧Q (.ref p) (upd H2 p (.dK (mergeK [] kvs)))
theorem pe_disp {X:Cx}{pos:Pos}{keys:List (Option Expr)}{values:List Expr}{trs:List (TE×TE)}(h:PPs X pos keys values trs)(hall:keys.all (·.isSome)=true)(hl:keys.length=values.length)(h0:keys≠[])
  (h15:keys.length≤15):PE X (.Dict keys values pos) (tDisp trs):=by
 intro pins s σ H Q I q
 have hn:=I.hok.fresh (Nat.le_refl s.heap.objs.size)
 have I1:=I.laid (a:=s.heap.objs.size) (o:=.dK []) (h' :=s.heap.push {cls:=.type "dict",data:=.dict #[]}) (t' :=s.toks) (fun _ _ q=>Heap.get?_push_of_some _ q) (Nat.le_refl _) (dk_empty s.heap I.big)
 refine wpAny_Dict_walk (knd:=mixKind X.prog X.w) hall hl h0 h15 (thn (h pins _ σ _ _ I1 (q _ hn)) fun ws s2 ⟨ps,H2,I2,rel,e,kvs,ep,lk,q2⟩=> ?_)
 subst ep
 obtain ⟨rs,c,rk⟩:=carries_of (P:=X.prog) (w:=X.w) rel
 obtain ⟨z,hd,vs0,r0,dd⟩:=dk_of I2.hok e
 cases r0
 refine ⟨rs,c,dd,fun h' dd' hs=>⟨.ref s.heap.objs.size,_,?_,rfl,q2⟩⟩
 have hz:(mergeK [] kvs).length≤sizeLine:=by
  have h1:=length_mergeK kvs []
  rw [List.length_nil] at h1
  rw [sizeLine_eq];omega
 have he:∃q,h'.get? s.heap.objs.size=some q:=let ⟨q,_,_,hq,_⟩:=dd';⟨q,hq⟩
 exact d_write I2 (by rw [e];exact True.intro) hs he (dk_new hz hd (rk.merge .nil) dd')
structure M2 (X:Cx)(o:Expr)(m:Str)(apos:Pos)(e f:Expr)(cpos:Pos):Prop where
 base:attributeBase o m X.env (eval o X.env)=eval o X.env
 few:((backTo cpos (starEach [e,f] X.env)).all (fun x=> !x.1) && (backToKw cpos (keywordEach [] X.env)).all (fun x=>x.1.isSome)
  && decide (([e,f]:List Expr).length+([]:List Keyword).length+(if ([]:List Keyword).isEmpty then 0 else 1) < 30))=true
 line:(apos.endLine==cpos.line)=true
 trees:backTo cpos (starEach [e,f] X.env)=[(false,eval e X.env),(false,eval f X.env)]
def IsD (H:Hp)(a:Addr):Prop:=(∃kvs,Rd H a (.dK kvs))∨∃kvs,Rd H a (.dT kvs)
theorem isD_at {X:Cx}{pins:List (Addr×Obj)}{σ:St}{H:Hp}{s:Shared}{a:Addr}(I:Inv X pins σ H s)(d:IsD H a):
  s.TypeIs (.ref a) "dict"∧(∀b,Value.ref a=.ref b→∃ob,s.heap.get? b=some ob∧ob.dict=none)∧(a==sysModules)=false:=by
 rcases d with ⟨kvs,e⟩ | ⟨kvs,e⟩
 ·obtain ⟨_,hd,vs,_,dd⟩:=dk_rd I.hok e
  refine ⟨dd.typeIs,fun b q=> ?_,hd⟩
  cases q
  obtain ⟨ob,_,_,h1,h2,_⟩:=dd
  exact ⟨ob,h1,h2.2.1⟩
 ·obtain ⟨_,hd,xs,_,dd⟩:=dt_rd I.hok e
  refine ⟨dd.typeIs,fun b q=> ?_,hd⟩
  cases q
  obtain ⟨ob,_,_,h1,h2,_⟩:=dd
  exact ⟨ob,h1,h2.2.1⟩
section
variable {X:Cx}{pins:List (Addr×Obj)}{σ:St}{H:Hp}{s:Shared}{a:Addr}{y d:V}{u r:Value}{o:Option V}{A:Around}{E:Value→Shared→Prop}
theorem d_get2 {Q:Value→Shared→Prop}(hu:A.units+1 < cLine)(I:Inv X pins σ H s)(g:DGet H a y o)(ry:RelV y u)(rd:RelV d r)(h:∀w' s',Inv X pins σ H s' →RelV (o.getD d) w' →Q w' s'):
  wpAny (model X.prog X.w) A (call (.builtin "dict.get") [.ref a,u,r]) Q E s:=by
 rcases g with ⟨kvs,k,e,ey,l⟩ | ⟨kvs,k,b,e,ey,eb,l⟩
 ·subst ey
  obtain ⟨z,hd,vs,rel,dd⟩:=dk_rd I.hok e
  refine call_meetsIn PySem.F.slot_dict_get dd.typeIs PySem.F.entry_dict_get (PySem.F.args_dict_get_3 _ _ _) (meets_dict_get_default (mixKind X.prog X.w) a (kV_is ry) hd r) ⟨_,dd.mapOf,h _ _ (I.tok _) ?_⟩
  rw [l]
  exact (rel.val k).getD rd
 ·subst ey
  cases (show u=Value.ref b from ry)
  obtain ⟨z,hd,xs,rel,dd⟩:=dt_rd I.hok e
  refine call_meetsIn PySem.F.slot_dict_get dd.typeIs PySem.F.entry_dict_get (PySem.F.args_dict_get_3 _ _ _) (meetsH_dict_get_default (tupleKind (mixKind X.prog X.w)) a b hd r) ⟨tupleKind_room_in1 hu,k,xs,key_of I.hok eb,dd,h _ _ (I.tok _) ?_⟩
  rw [l]
  exact (rel.val k).getD rd
end
def tDGet2 (td ty tx:TE):TE:=fun σ H Q=>td σ H fun x H1=>∃a,x=.ref a∧IsD H1 a∧ty σ H1 fun y H2=>tx σ H2 fun z H3=>∃o,DGet H3 a y o∧Q (o.getD z) H3
section
variable {X:Cx}{o e f:Expr}{apos cpos:Pos}{td ty tx:TE}
theorem pe_dget2 (hu:X.A.units+1 < cLine)(ho:PE X o td)(he:PE X e ty)(hf:PE X f tx)(m:M2 X o "get" apos e f cpos):PE X (.Call (.Attribute o "get" apos) [e,f] [] cpos) (tDGet2 td ty tx):=by
 intro pins s σ H Q I h
 refine wpAny_Call_method m.base m.few m.line PySem.F.plainAttrs_dict PySem.F.slot_dict_get PySem.F.type_dict_get (thn (ho pins s σ H _ I h) fun u s1 ⟨x,H1,I1,rx,a,ex,d,q1⟩=> ?_)
 subst ex
 obtain rfl:u=Value.ref a:=rx
 obtain ⟨t1,t2,_⟩:=isD_at I1 d
 refine ⟨t1,t2,?_⟩
 rw [m.trees]
 refine Calls.callWith_builtin rfl (Calls.evalArgs_plain (Calls.spliced_cons (thn (he pins s1 σ H1 _ I1 q1) fun iv s2 ⟨y,H2,I2,ry,q2⟩=>
  Calls.spliced_cons (thn (hf pins s2 σ H2 _ I2 q2) fun fv s3 ⟨z,H3,I3,rz,ov,g,q3⟩=>Calls.spliced_nil ?_))))
 exact d_get2 hu I3 g ry rz fun w' s4 I4 rw' =>⟨_,H3,I4,rw',q3⟩
end
section
variable {X:Cx}{pins:List (Addr×Obj)}{σ:St}{H:Hp}{s:Shared}{a:Addr}{kvs:List (Key×V)}{A:Around}{E:Value→Shared→Prop}
end
section
variable {X:Cx}{pins:List (Addr×Obj)}{σ:St}{H:Hp}{s:Shared}{a:Addr}{y:V}{u:Value}{A:Around}{E:Value→Shared→Prop}
end
end L2
set_option maxHeartbeats 4000000
namespace Ty
open PySem PySem.Spec PyProof.Rows L2
section
variable {X:Cx}
theorem seer_of {pins:List (Addr×Obj)}{σ:L2.St}{H:Hp}{s:Shared}(I:Inv X pins σ H s):s.heap.NoSeer:=I.ok.mod.seer.keeps I.bk
theorem Room.py {k:Nat}{A:Around}(r:Room k A)(h:32≤k):A.depth+Builtin.pylongFrames < recursionLimit:=by
 have:=r.dp
 have:Builtin.pylongFrames=100:=rfl
 omega
theorem op_fdivU {env:Env}{l:List Env}(ht:X.prog.given.tree=none)(hd:X.A.depth+Builtin.pylongFrames < recursionLimit)(hst:X.stack=env::l)(h1:env.scope.isGenerator=false)(h2:env.scope.isCoroutine=false)(h3:env.builtins=builtinsNs)(h4:env.globals=mainGlobals):
  OpR X (binaryOp .FloorDiv) (rI CMod fun i j=>.int (i.fdiv j)):=by
 intro pins s σ H x y v u Q I rx ry h
 obtain ⟨i,j,rfl,rfl,hc,q⟩:=h
 obtain ⟨t,rfl⟩:=rx
 obtain ⟨t',rfl⟩:=ry
 exact floordiv_int hc ⟨.int _,H,I.tok _,⟨_,rfl⟩,q⟩ (.inr (PylongRoom.of I.nolimit hd (SeerAt.of (seer_of I) ht (by rw [I.ok.frames,hst]) h1 h2 h3 h4)))
end
end Ty
set_option maxHeartbeats 4000000
namespace Ty
open PySem PySem.Spec PyProof.Rows L2
section
variable {prog:Program}{w:World}{A:Around}{E:Value→Shared→Prop}{s:Shared}{KK:Type}[DecidableEq KK]{knd:KeyKind prog w KK}
theorem hint_dict {d:Addr}{kvs:List (KK×Value)}{Q:Bool→Shared→Prop}(hm:s.heap.DictOf knd d kvs)(h:Q false s):wpAny (model prog w) A (Builtin.List.listLengthHint (.ref d)) Q E s:=by
 unfold Builtin.List.listLengthHint
 refine wpAny_bind (wpAny_specialOf (name:=Str.ofString "__len__") hm.typeIs F.slot_dict_len.lookup ?_)
 generalize hid:("dict.__len__":String)=id0
 wp_delta
 rw [show splitId id0=some ("dict","__len__") from by subst hid;decide+kernel]
 subst hid
 refine wpAny_bind (wpAny_isInstance (T:="dict") (b:=true) hm.typeIs (by rw [isSubtype_type];kernel_rfl) ?_)
 refine wpAny_ite_split (fun hab=>absurd hab (by decide)) (fun _=> ?_)
 refine wpAny_ite_split (fun _=> ?_) (fun hab=>absurd (by decide+kernel) hab)
 refine wpAny_bind (wpAny_typeOf (T:="dict") hm.typeIs ?_)
 exact wpAny_pure h
theorem extend_dict {R:Result→Shared→Prop}{d:Addr}{kvs:List (KK×Value)}{ep:Nat}(hh:A.handled=none)(hd:(d==sysModules)=false)(hm:s.heap.DictAt knd d kvs ep)(hlen:kvs.length≤sizeLine)(S:Addr)(res:Value)(c₀:Nat)(hS:s.heap.get? S=some {cls:=.type "list",data:=.seq #[] c₀})
  (hR:∀h' tk acc' c',(∀b o,b≠S→s.heap.get? b=some o→h'.get? b=some o)→h'.get? S=some {cls:=.type "list",dict:=none,data:=.seq acc' c',slots:= #[]}→
   ItemsOf (fun i v=>∃k x,kvs[i]? =some (k,x)∧knd.is k v=true) acc' kvs.length→R (.ok (.ret res)) {s with heap:=h',toks:=tk}):
  wpAny (model prog w) A.in1 (Builtin.List.listExtendWith (.ref S) (.ref d) res)
   (fun fin s' =>match fin with | .done f=>R (.ok f) s' | .again c' =>c'.quiet=true∧codeAny (model prog w) A c' R s') (fun e s' =>R (.error e) s') s:=by
 obtain ⟨od,es,hod,hcd,hdat,hk0,hp0,hn0⟩:=id hm
 have hT:s.TypeIs (.ref d) "dict":=hm.dictOf.typeIs
 have hSd:S≠d:=fun e=>by
  rw [e] at hS
  rw [hS] at hod
  cases hod
  cases hdat
 have hdI:d≠s.heap.objs.size:=Nat.ne_of_lt (Heap.lt_size hod)
 have hSI:S≠s.heap.objs.size:=Nat.ne_of_lt (Heap.lt_size hS)
 have hSf:S∉[s.heap.objs.size,d]:=fun hm=>by
  rcases List.mem_cons.mp hm with z | z
  ·exact hSI z
  ·exact hSd (List.mem_singleton.mp z)
 have W:=(Walks.dictKeys (knd:=knd) (A:=A.in1) hh s.heap.objs.size d hdI kvs ep).toS
 unfold Builtin.List.listExtendWith
 refine wpAny_bind (wpAny_typeOf (T:="dict") hT ?_)
 have h1:Builtin.List.listSameRef (.ref S) (.ref d)=false:=by simp [Builtin.List.listSameRef,hSd]
 have h2:(Value.type "dict"==Value.type "list")=false:=by decide
 have h3:(Value.type "dict"==Value.type "tuple")=false:=by decide
 simp only [h1,h2,h3,Bool.or_false,Bool.false_eq_true,if_false]
 refine wpAny_bind (wpAny_pyIter_dict hd hm ?_)
 have hm1:(s.heap.push {cls:=.type "dict_keyiterator",data:=.fields #[.ref d,.int 0 0,.int kvs.length 0,.int ep 0]}).DictAt knd d kvs ep:=hm.at' fun o e=>Heap.get?_push_of_some _ e
 refine wpAny_bind (wpAny_holding (hint_dict (knd:=knd) hm1.dictOf ?_))
 have hS₁:=Heap.get?_push_of_some {cls:=.type "dict_keyiterator",data:=.fields #[.ref d,.int 0 0,.int kvs.length 0,.int ep 0]} hS
 have it₁:(s.heap.push {cls:=.type "dict_keyiterator",data:=.fields #[.ref d,.int 0 0,.int kvs.length 0,.int ep 0]}).IsKeyIter s.heap.objs.size d 0 kvs.length ep:=⟨_,Heap.get?_push_size _ rfl,rfl,rfl⟩
 have key:∀(h:Heap) (c₁ tk:Nat),h.IsKeyIter s.heap.objs.size d 0 kvs.length ep→h.DictAt knd d kvs ep→(∀b o,b≠S→s.heap.get? b=some o→h.get? b=some o)→
   h.get? S=some {cls:=.type "list",data:=.seq #[] c₁}→codeAny (model prog w) A (.builtin "list.extend.loop" ⟨[.ref S,.ref s.heap.objs.size,res],[]⟩) R {s with heap:=h,toks:=tk}:=by
  intro h c₁ tk hit hdm hk hS₁
  refine codeAny_extend_loopS W hlen S hSf res kvs.length 0 _ #[] c₁ rfl (Nat.zero_le _) ⟨hit,hdm⟩ hS₁ (ItemsOf.nil _) fun s' acc' c' hm' hS' hacc=> ?_
  rw [Moved.eq_with hm']
  refine hR s'.heap s'.toks acc' c' (fun b o hb e=>hm'.heap b o (fun hmem=> ?_) (hk b o hb e)) hS' hacc
  rcases List.mem_cons.mp hmem with e' | hmem
  ·exact hb e'
  ·exact absurd (Heap.lt_size e) (by rw [List.mem_singleton.mp hmem];exact Nat.lt_irrefl _)
 refine wpAny_ite_split (fun _=> ?_) (fun _=>wpAny_pure ⟨plainId_quiet F.plain_extend_loop _,key _ c₀ _ it₁ hm1 (fun b o _ e=>Heap.get?_push_of_some _ e) hS₁⟩)
 refine wpAny_bind (wpAny_rule ?_)
 refine wpAny_bind ?_
 show wpAny _ _ (updateSeq S (·.push .none) >>=fun _=>updateSeq S (·.pop)) _ _ _
 refine wpAny_bind (wpAny_updateSeq hS₁ rfl ?_)
 have hS₂:=Heap.get?_update_self (Obj.mapSeq (·.push Value.none)) hS₁ rfl
 refine wpAny_updateSeq (hz:=by seq_fits) hS₂ rfl ?_
 have hS₃:=Heap.get?_update_self (Obj.mapSeq (·.pop)) hS₂ rfl
 refine wpAny_pure ⟨plainId_quiet F.plain_extend_loop _,key _ _ _ (it₁.at fun o e=> ?_) (hm1.at' fun o e=> ?_) (fun b o hb e=> ?_) hS₃⟩
 ·exact (Heap.get?_update_other _ _ hSI).trans ((Heap.get?_update_other _ _ hSI).trans e)
 ·exact (Heap.get?_update_other _ _ hSd).trans ((Heap.get?_update_other _ _ hSd).trans e)
 ·exact (Heap.get?_update_other _ _ (Ne.symm hb)).trans ((Heap.get?_update_other _ _ (Ne.symm hb)).trans (Heap.get?_push_of_some _ e))
theorem list_init_dict {R:Result→Shared→Prop}{d:Addr}{kvs:List (KK×Value)}{ep:Nat}(hh:A.handled=none)(hd:(d==sysModules)=false)(hm:s.heap.DictAt knd d kvs ep)(hlen:kvs.length≤sizeLine)(S:Addr)(hS:s.heap.get? S=some {cls:=.type "list",data:=.seq #[]})
  (hR:∀h' tk acc' c',(∀b o,b≠S→s.heap.get? b=some o→h'.get? b=some o)→h'.get? S=some {cls:=.type "list",dict:=none,data:=.seq acc' c',slots:= #[]}→
   ItemsOf (fun i v=>∃k x,kvs[i]? =some (k,x)∧knd.is k v=true) acc' kvs.length→R (.ok (.ret .none)) {s with heap:=h',toks:=tk}):
  wpAny (model prog w) A.in1 (Builtin.«list.__init__» ⟨[.ref S,.ref d],[]⟩)
   (fun fin s' =>match fin with | .done f=>R (.ok f) s' | .again c' =>c'.quiet=true∧codeAny (model prog w) A c' R s') (fun e s' =>R (.error e) s') s:=by
 obtain ⟨od,es,hod,hcd,hdat,hk0,hp0,hn0⟩:=id hm
 have hSd:S≠d:=fun e=>by
  rw [e] at hS
  rw [hS] at hod
  cases hod
  cases hdat
 show wpAny _ _ (do let old ← Builtin.List.listItems (.ref S);Builtin.List.listUpdate (.ref S) (fun _=> #[]);letGo old.toList.reverse;Builtin.List.listExtendWith (.ref S) (.ref d) .none) _ _ s
 refine wpAny_bind ?_
 unfold Builtin.List.listItems
 refine wpAny_bind (wpAny_seqItems hS rfl (wpAny_pure ?_))
 show wpAny _ _ (updateSeq S (fun _=> #[]) >>=fun _=>letGo (#[]:Array Value).toList.reverse >>=fun _=>Builtin.List.listExtendWith (.ref S) (.ref d) .none) _ _ s
 refine wpAny_bind (wpAny_updateSeq hS rfl ?_)
 have hS₂:=Heap.get?_update_self (Obj.mapSeq (fun _=>(#[]:Array Value))) hS rfl
 have oth:∀b o,b≠S→s.heap.get? b=some o→(s.heap.update S (Obj.mapSeq (fun _=>(#[]:Array Value)))).get? b=some o:=
  fun b o hb e=>(Heap.get?_update_other _ _ (Ne.symm hb)).trans e
 refine wpAny_bind (wpAny_letGo ?_)
 refine extend_dict hh hd (hm.at' fun o e=>oth d o (Ne.symm hSd) e) hlen S .none _ hS₂ fun h' tk acc' c' hk hS' hacc=> ?_
 exact hR h' tk acc' c' (fun b o hb e=>hk b o hb (oth b o hb e)) hS' hacc
theorem call_list_dict {Q:Value→Shared→Prop}{d:Addr}{kvs:List (KK×Value)}{ep:Nat}(hh:A.handled=none)(hd:(d==sysModules)=false)(hm:s.heap.DictAt knd d kvs ep)(hlen:kvs.length≤sizeLine)
  (hQ:∀h' tk acc' c',(∀b o,s.heap.get? b=some o→h'.get? b=some o)→
   h'.get? s.heap.objs.size=some {cls:=.type "list",dict:=none,data:=.seq acc' c',slots:= #[]}→ItemsOf (fun i v=>∃k x,kvs[i]? =some (k,x)∧knd.is k v=true) acc' kvs.length→Q (.ref s.heap.objs.size) {s with heap:=h',toks:=tk}):
  wpAny (model prog w) A (call (.type "list") [.ref d]) Q E s:=by
 refine callType_codes (Q₁:=fun obj s₁=>obj=.ref s.heap.objs.size∧s₁={s with heap:=s.heap.push {cls:=.type "list",data:=.seq #[]}}) F.called_list (F.typeCall_list_1 _) F.entry_list_init
  (code_list_new _ ⟨rfl,rfl⟩) fun obj s₁ h₁=> ?_
 obtain ⟨rfl,rfl⟩:=h₁
 have hS:(s.heap.push {cls:=.type "list",data:=.seq #[]}).get? s.heap.objs.size=some {cls:=.type "list",data:=.seq #[]}:=Heap.get?_push_size _ rfl
 refine ⟨⟨_,hS,rfl⟩,F.args_list_init_2 _ _,list_init_dict (A:=A.in1) hh hd (hm.at' fun o e=>Heap.get?_push_of_some _ e) hlen _ hS fun h' tk acc' c' hk hS' hacc=> ?_⟩
 exact ⟨rfl,hQ h' tk acc' c' (fun b o e=>hk b o (Nat.ne_of_lt (Heap.lt_size e)) (Heap.get?_push_of_some _ e)) hS' hacc⟩
end
theorem paired_get {α β:Type}{F:α→β→Prop}:∀{l₁:List α} {l₂:List β} {i:Nat} {a:α},Paired F l₁ l₂→l₁[i]? =some a→∃b,l₂[i]? =some b∧F a b
 | _,_,_,_,.nil,h=>by simp at h
 | _,_,0,_,.cons r _,h=>by
  cases h
  exact ⟨_,rfl,r⟩
 | _,_,i+1,_,.cons _ t,h=>by
  obtain ⟨b,e,f⟩:=paired_get (i:=i) t (by simpa using h)
  exact ⟨b,by simpa using e,f⟩
theorem paired_of {α β:Type}{F:α→β→Prop}:∀{l₁:List α} {l₂:List β},l₁.length=l₂.length→(∀(i:Nat) (a:α) (b:β),l₁[i]? =some a→l₂[i]? =some b→F a b)→Paired F l₁ l₂
 | [],[],_,_=>.nil
 | a::l₁,b::l₂,h,f=>.cons (f 0 a b rfl rfl) (paired_of (by simpa using h) fun i a b e1 e2=>f (i+1) a b (by simpa using e1) (by simpa using e2))
 | [],_::_,h,_=>by simp at h
 | _::_,[],h,_=>by simp at h
theorem key_rel {P:Program}{w:World}{k:Key}{u:Value}(h:(mixKind P w).is k u=true):RelV (kV k) u:=by
 rcases keyIs_shape h with ⟨i,t,rfl,rfl⟩ | ⟨x,t,rfl,rfl⟩
 ·exact ⟨t,rfl⟩
 ·exact ⟨t,rfl⟩
section
variable {X:Cx}
inductive rListD (xs:List V)(H:Hp)(Q:VK):Prop where
 | mk (p:Addr) (kvs:List (Key×V)) (_:xs=[.ref p]) (_:Rd H p (.dK kvs)) (_:∀l,H l=none→Q (.ref l) (upd H l (.lst (kvs.map fun kv=>kV kv.1)))):rListD xs H Q
theorem call_listD (hc:X.calm=true):CallR X (.type "list") rListD:=by
 intro pins s σ H xs us Q I r h
 obtain ⟨p,kvs,rfl,hq,q⟩:=h
 obtain ⟨u,rfl,r1⟩:=vals1 r
 cases r1
 obtain ⟨z,hd,vs,rel,o,es,ep,ho,hx,hdat,hk,hp,hn⟩:=dk_rd I.hok hq
 have hl:=rel.length
 refine call_list_dict (knd:=mixKind X.prog X.w) (I.ok.hd hc) hd ⟨o,es,ho,hx,hdat,hk,hp,hn⟩ (by omega) fun h' tk acc' c' kk hS hacc=> ?_
 have hn' :=I.hok.fresh (Nat.le_refl s.heap.objs.size)
 have rv:Vals (kvs.map fun kv=>kV kv.1) acc'.toList:=paired_of (by have:=hacc.1;simp;omega) fun i a b e1 e2=>by
  rw [List.getElem?_map] at e1
  obtain ⟨kv,ek,rfl⟩:=Option.map_eq_some_iff.mp e1
  obtain ⟨q',eq,e3,_⟩:=paired_get rel ek
  obtain ⟨k,x,e4,e5⟩:=hacc.2 i b (by simpa using e2)
  rw [eq] at e4
  cases e4
  rw [e3]
  exact key_rel e5
 have I2:Inv X pins σ (upd H s.heap.objs.size (.lst (kvs.map fun kv=>kV kv.1))) {s with heap:=h',toks:=tk}:=I.laid (t' :=tk) kk (Nat.le_refl _) ⟨by rw [List.length_map];exact z,acc'.toList,c',rv,by simpa using hS⟩
 exact ⟨.ref _,_,I2,rfl,q _ hn'⟩
theorem Inv.freeze {pins:List (Addr×Obj)}{σ:L2.St}{H:Hp}{s:Shared}{d:Addr}{kvs:List (Key×V)}{o:Obj}(I:Inv X pins σ H s)(e:H d=some (.dK kvs))(ho:s.heap.get? d=some o):Inv X pins σ (upd H d (.frz o (.dK kvs))) s:=by
 have nx:∀b u,H b=some u→b≠d→upd H d (.frz o (.dK kvs)) b=some u:=fun b u q n=>by rw [upd_ne n];exact q
 refine I.step (g' :=s.gens) (t' :=s.toks) (d' :=s.drawn) (ch:=[]) (fun _ z=>nomatch z) (fun b o _ _ _ e _=>e) (fun b o _ _ _ e _=>⟨o.slots,e⟩) (fun b o _ _ n=>by rw [upd_ne (fun z=>by rw [z,e] at n;cases n)];exact n) (fun b o _ e=>⟨o,e⟩)
  (fun b xs q=>nx b _ q fun z=>by rw [z,e] at q;cases q) (fun b o' u q=>nx b _ q fun z=>by rw [z,e] at q;cases q) (fun b ps q=>⟨#[],by rw [nx b _ q fun z=>by rw [z,e] at q;cases q];simp⟩) (fun m hm=>hm) (fun b u q=> ?_) I.bare
 by_cases hb:b=d
 ·subst hb
  rw [upd_same] at q
  cases q
  exact ⟨ho,I.hok b _ e⟩
 ·rw [upd_ne hb] at q
  exact (I.hok b u q).stay (fun _ _ _ k=>k) (fun c k=>nx c _ k fun z=>by rw [z,e] at k;cases k) fun c xs k=>nx c _ k fun z=>by rw [z,e] at k;cases k
def Itd (d:Addr)(o:Obj)(kvs:List (Key×V)):It:=
 ⟨fun i H=>H d=some (.frz o (.dK kvs))∧i < kvs.length,
  fun i H v H' =>∃p k x,kvs[i]? =some (k,x)∧v=.ref p∧H p=none∧H' =upd H p (.tup [kV k,x]),
  fun i H=>H d=some (.frz o (.dK kvs))∧kvs.length≤i⟩
theorem frz_at {P:Program}{w:World}{H:Hp}{h:Heap}{d:Addr}{o:Obj}{kvs:List (Key×V)}{es0:Array DictEntry}{ep:Nat}(ok:HOk P w H h)(e:H d=some (.frz o (.dK kvs)))(he:o.data=.dict es0 ep):
  (d==sysModules)=false∧∃vs,KV kvs vs∧h.DictAt (mixKind P w) d vs ep∧kvs.length≤sizeLine:=by
 obtain ⟨h1,z,hd,vs,rel,o',es,ep',ho,hx,hdat,hk,hp,hn⟩:=ok d _ e
 rw [h1] at ho
 cases ho
 rw [he] at hdat
 cases hdat
 exact ⟨hd,vs,rel,⟨o,es0,h1,hx,he,hk,hp,hn⟩,z⟩
theorem entry_iter_items:entryFor table "dict_itemiterator.__iter__"=some Builtin.«dict_keyiterator.__iter__»:=
 entryFor_alias (id' :="dict_keyiterator.__iter__") (by kernel_rfl) (by first | rfl | decide+kernel | (unfold String.splitOn;simp+decide [String.splitOnAux])) (by decide+kernel) (by kernel_rfl)
theorem iter_items {P:Program}{w:World}{A:Around}{E:Value→Shared→Prop}{s:Shared}{it d:Addr}{i n ep:Nat}{ok ov:Value}{Q:Value→Shared→Prop}(st:IsItemIter s.heap it d i n ep ok ov)(h:Q (.ref it) s):wpAny (model P w) A (pyIter (.ref it)) Q E s:=by
 have hT:s.TypeIs (.ref it) "dict_itemiterator":=⟨_,st,rfl⟩
 refine wpAny_pyIter_slot hT F.slot_dict_itemiterator_iter (wpAny_call_entry F.slot_dict_itemiterator_iter hT entry_iter_items ?_ (F.args_dict_itemiterator_iter_1 _))
 show wpAny _ _ (ret (.ref it)) _ _ s
 exact wpAny_pure ⟨_,rfl,"dict_itemiterator",_,hT,F.slot_dict_itemiterator_next.lookup,h⟩
theorem turn_items {P:Program}{w:World}{K:Frag}{es:List Expr}{k:Nat}{pos:Pos}(d it:Addr)(o:Obj)(kvs:List (Key×V)){es0:Array DictEntry}{ep:Nat}(he:o.data=.dict es0 ep)(hne:it≠d):
  Turn P w K (.Tuple es k pos) (Itd d o kvs) [it] it (fun i h=>∃ok ov,IsItemIter h it d i kvs.length ep ok ov) where
 mem:=by simp
 obj:=fun i h st b hb=>by
  have e:b=it:=by simpa using hb
  subst e
  obtain ⟨ok,ov,st⟩:=st
  exact ⟨_,st,fun v z=>by cases z⟩
 keep:=fun i h h' st k=>by
  obtain ⟨ok,ov,st⟩:=st
  exact ⟨ok,ov,k it (by simp) _ st⟩
 item:=by
  intro X hP hw hK hc i pins s σ H E I hf st hg
  subst hP hw hK
  obtain ⟨ok,ov,st⟩:=st
  obtain ⟨fz,hi⟩:=hg
  obtain ⟨hd,vs,rel,da,_⟩:=frz_at I.hok fz he
  have ek:kvs[i]? =some kvs[i]:=gE hi
  obtain ⟨⟨k',u⟩,ev,e1,ru⟩:=paired_get rel ek
  have lv:=rel.length
  rw [lv] at st
  refine wpAny_pyNext_items_item st da ev fun key h' hkey out tup sz kk=> ?_
  refine ⟨_,rfl,wpAny_letOwnedTupleGo_items (s:={s with heap:=h' }) out fun h'' it'' sb=> ?_⟩
  have hsz:∀c o,s.heap.get? c=some o→s.heap.objs.size≠c:=fun c o e=>Nat.ne_of_gt (Heap.lt_size e)
  have tz:s.heap.objs.size≠it:=hsz _ _ st
  have nz:∀c,c≠it→∀o,h'.get? c=some o→h''.get? c=some o:=fun c hc o e=>(sb.2 c hc).trans e
  have hn:=I.hok.fresh (Nat.le_refl s.heap.objs.size)
  have e1' :kvs[i].1=k' :=e1
  have I2:Inv X pins σ (upd H s.heap.objs.size (.tup [kV kvs[i].1,kvs[i].2])) {s with heap:=h'',toks:=s.toks}:=
   Inv.turnedT I (fun b o hb e=>nz b (by simpa using hb) o (kk b o (by simpa using hb) e)) hf (Nat.le_refl _) (by show 2≤sizeLine;decide) (its:=[key,u]) (.cons (by rw [e1'];exact key_rel hkey) (.cons ru .nil)) ⟨_,nz _ tz _ tup,rfl,_,rfl⟩
  refine ⟨.ref s.heap.objs.size,_,I2,rfl,⟨s.heap.objs.size,kvs[i].1,kvs[i].2,ek,rfl,hn,rfl⟩,⟨_,_,by rw [lv];exact it''⟩,fun b hb=> ?_⟩
  have eb:b=it:=by simpa using hb
  rw [upd_ne (by rw [eb];exact Ne.symm tz)]
  exact (hf b hb).1
 done:=by
  intro X hP hw hK hc i pins s σ H E I hf st hg
  subst hP hw hK
  obtain ⟨ok,ov,st⟩:=st
  obtain ⟨fz,hi⟩:=hg
  obtain ⟨hd,vs,rel,da,_⟩:=frz_at I.hok fz he
  have lv:=rel.length
  rw [lv] at st
  obtain ⟨f0,f1,f2,f3,f4,f5⟩:=hf it (by simp)
  exact wpAny_pyNext_items_end (I.ok.hd hc) st da (List.getElem?_eq_none (by omega)) fun h' eb=>⟨rfl,I.turned (t' :=s.toks) (fun b o hb e=>eb b o hb e) f0 f1 f3 f4 f5⟩
 self:=fun _ _ _ _ _ st h=>by
  obtain ⟨ok,ov,st⟩:=st
  exact iter_items st h
inductive iItems_ (R:(It→Hp→Prop))(x:V)(H1:Hp):Prop where
 | mk (d kvs:_) (_:x=.ref d) (_:H1 d=some (.dK kvs)) (_:∀o,R (Itd d o kvs) (upd H1 d (.frz o (.dK kvs)))):iItems_ R x H1
def iItems (te:TE):TI:=fun σ H R=>te σ H fun x H1=>iItems_ R x H1
theorem pi_items {e:Expr}{te:TE}{apos cpos:Pos}{es:List Expr}{k:Nat}{tpos:Pos}(ho:PE X e te)(hbase:attributeBase e "items" X.env (eval e X.env)=eval e X.env:=by rfl)(hline:(apos.endLine==cpos.line)=true:=by rfl):
  PI X (.Tuple es k tpos) (.Call (.Attribute e "items" apos) [] [] cpos) (iItems te):=by
 intro pins s σ H R I h
 refine wpAny_Call_method0_late hbase hline (thn (ho pins s σ H _ I h) fun v s1 ⟨x,H1,I1,r1,q1⟩=> ?_)
 obtain ⟨d,kvs,rfl,e,q⟩:=q1
 cases r1
 obtain ⟨z,hd,vs,rel,o,es1,ep,ho1,hx,hdat,hk,hp,hn⟩:=dk_of I1.hok e
 obtain ⟨h1,h2⟩:=tyV_is (T:="dict") I1 (show RelV (.ref d) (.ref d) from rfl) (.inr (.inr (.inl ⟨rfl,.inl ⟨kvs,e⟩⟩)))
 have da:s1.heap.DictAt (mixKind X.prog X.w) d vs ep:=⟨o,es1,ho1,hx,hdat,hk,hp,hn⟩
 have lv:=rel.length
 refine ⟨"dict","dict.items",F.plainAttrs_dict,F.slot_dict_items,F.type_dict_items,h1,h2,Calls.callWith_builtin rfl (PySem.evalArgs_none ?_)⟩
 refine call_meetsIn F.slot_dict_items h1 F.entry_dict_items (F.args_dict_items_1 _) (meets_dict_items (mixKind X.prog X.w) d hd) ⟨⟨vs,da.dictOf⟩,?_⟩
 have I2:=Inv.freeze I1 e ho1
 have da2:(s1.heap.push {cls:=.type "dict_items",data:=.fields #[.ref d]}).DictAt (mixKind X.prog X.w) d vs ep:=da.at' fun o e=>Heap.get?_push_of_some _ e
 show wpAny (model X.prog X.w) X.A (pyIter (.ref s1.heap.objs.size)) _ _ _
 refine wpAny_pyIter_items (s:={s1 with heap:=s1.heap.push {cls:=.type "dict_items",data:=.fields #[.ref d]}}) ⟨_,Heap.get?_push_size _ rfl,rfl,rfl⟩ da2 ?_
 have sz:(s1.heap.push {cls:=.type "dict_items",data:=.fields #[.ref d]}).objs.size=s1.heap.objs.size+1:=Heap.size_push ..
 have ne:(s1.heap.push {cls:=.type "dict_items",data:=.fields #[.ref d]}).objs.size≠d:=by
  rw [sz]
  exact Ne.symm (Nat.ne_of_lt (Nat.lt_succ_of_lt (Heap.lt_size ho1)))
 have I3:Inv X pins σ (upd H1 d (.frz o (.dK kvs))) {s1 with heap:=(s1.heap.push {cls:=.type "dict_items",data:=.fields #[.ref d]}).push {cls:=.type "dict_itemiterator",data:=.fields #[.none,.bool false,.ref d,.int 0 0,.int vs.length 0,.int ep 0,.none,.none]}}:=I2.kept (t' :=s1.toks) fun b o e=>Heap.get?_push_of_some _ (Heap.get?_push_of_some _ e)
 refine ⟨_,[_],_,_,_,rfl,I3,turn_items d _ o kvs hdat ne,⟨_,_,by rw [lv];exact Heap.get?_push_size _ rfl⟩,fun b hb=> ?_,q o⟩
 have eb:b=(s1.heap.push {cls:=.type "dict_items",data:=.fields #[.ref d]}).objs.size:=by simpa using hb
 have le:s1.heap.objs.size≤b:=by rw [eb,sz];exact Nat.le_succ _
 exact I2.fpOk le (I2.hok.fresh le)
end
end Ty
set_option maxHeartbeats 4000000
namespace Ty
def ev:List Int→(Nat→Rat)→Rat
 | [],_=>0
 | a::r,z=>(a:Rat)*z 0+ev r (fun i=>z (i+1))
theorem ev_add:∀(l:List Int) (z y:Nat→Rat),ev l (fun i=>z i+y i)=ev l z+ev l y
 | [],_,_=>by simp [ev];grind
 | a::r,z,y=>by
  simp only [ev]
  rw [ev_add r (fun i=>z (i+1)) (fun i=>y (i+1))]
  grind
theorem ev_none:∀(l:List Int) (z:Nat→Rat),(∀j,((l.getD j 0:Int):Rat)*z j=0)→ev l z=0
 | [],_,_=>rfl
 | a::r,z,h=>by
  have h0:=h 0
  have ih:=ev_none r (fun i=>z (i+1)) (fun j=>by simpa using h (j+1))
  simp only [ev]
  rw [ih]
  simp at h0
  grind
theorem ev_one:∀(l:List Int) (z:Nat→Rat) (p:Nat),(∀j,j≠p→((l.getD j 0:Int):Rat)*z j=0)→ev l z=((l.getD p 0:Int):Rat)*z p
 | [],_,_,_=>by simp [ev]
 | a::r,z,0,h=>by
  have ih:=ev_none r (fun i=>z (i+1)) (fun j=>by simpa using h (j+1) (by omega))
  simp only [ev]
  rw [ih]
  simp
  grind
 | a::r,z,p+1,h=>by
  have h0:=h 0 (by omega)
  have ih:=ev_one r (fun i=>z (i+1)) p (fun j hj=>by simpa using h (j+1) (by omega))
  simp only [ev]
  rw [ih]
  simp at h0
  simp
  grind
theorem ev_lin {s t u:Int}:∀{new line lead:List Int},new.length=line.length→lead.length=line.length→(∀j,s*new.getD j 0=t*line.getD j 0 - u*lead.getD j 0)→∀z:Nat→Rat,(s:Rat)*ev new z=t*ev line z - u*ev lead z
 | [],[],[],_,_,_,z=>by simp [ev];grind
 | a::new,b::line,c::lead,h1,h2,h,z=>by
  have h0:=h 0
  have ih:=ev_lin (by simpa using h1) (by simpa using h2) (fun j=>by simpa using h (j+1)) (fun i=>z (i+1))
  simp at h0
  have h0' :(s:Rat)*a=t*b - u*c:=by exact_mod_cast h0
  simp only [ev]
  grind
 | [],_::_,_,h,_,_,_=>by simp at h
 | _::_,[],_,h,_,_,_=>by simp at h
 | _,[],_::_,_,h,_,_=>by simp at h
 | _,_::_,[],_,h,_,_=>by simp at h
def csum:List Rat→List (List Int)→Nat→Rat
 | c::y,o::os,j=>c*((o.getD j 0:Int):Rat)+csum y os j
 | _,_,_=>0
theorem csum_lin {s t u:Rat}(hs:s≠0)(j:Nat):∀(os:List (List Int)) (y1 y2:List Rat),y1.length=os.length→y2.length=os.length→s*csum (List.zipWith (fun a b=>(t*a - u*b) / s) y1 y2) os j=t*csum y1 os j - u*csum y2 os j
 | [],[],[],_,_=>by simp [csum];grind
 | o::os,a::y1,b::y2,h1,h2=>by
  have ih:=csum_lin (t:=t) (u:=u) hs j os y1 y2 (by simpa using h1) (by simpa using h2)
  simp only [List.zipWith_cons_cons,csum]
  grind
 | [],_::_,_,h,_=>by simp at h
 | [],[],_::_,_,h=>by simp at h
 | _::_,[],_,h,_=>by simp at h
 | _::_,_::_,[],_,h=>by simp at h
theorem csum_zero (j:Nat):∀(os:List (List Int)),csum (List.replicate os.length 0) os j=0
 | []=>rfl
 | o::os=>by
  simp only [List.length_cons,List.replicate_succ,csum]
  rw [csum_zero j os]
  grind
def Comb (os:List (List Int))(l:List Int):Prop:=∃y:List Rat,y.length=os.length∧∀j,((l.getD j 0:Int):Rat)=csum y os j
theorem comb_mem:∀{os:List (List Int)} {l:List Int},l∈os→Comb os l
 | o::os,l,h=>by
  rcases List.mem_cons.mp h with z | z
  ·subst z
   refine ⟨1::List.replicate os.length 0,by simp,fun j=> ?_⟩
   simp only [csum]
   rw [csum_zero]
   grind
  ·obtain ⟨y,hl,hy⟩:=comb_mem z
   refine ⟨0::y,by simp [hl],fun j=> ?_⟩
   simp only [csum]
   rw [← hy j]
   grind
theorem comb_lin {os:List (List Int)}{new line lead:List Int}{s t u:Int}(hs:s≠0)(h:∀j,s*new.getD j 0=t*line.getD j 0 - u*lead.getD j 0)(h1:Comb os line)(h2:Comb os lead):Comb os new:=by
 obtain ⟨y1,l1,e1⟩:=h1
 obtain ⟨y2,l2,e2⟩:=h2
 have hs' :=ratne hs
 refine ⟨List.zipWith (fun a b=>((t:Rat)*a - u*b) / s) y1 y2,by simp [l1,l2],fun j=> ?_⟩
 have k:=csum_lin (t:=(t:Rat)) (u:=(u:Rat)) hs' j os y1 y2 l1 l2
 rw [← e1 j, ← e2 j] at k
 have h' :(s:Rat)*(new.getD j 0:Int)=t*(line.getD j 0:Int) - u*(lead.getD j 0:Int):=by exact_mod_cast h j
 rw [← h'] at k
 grind
def zOf (y:List Rat):Nat→Rat:=fun i=>if i < y.length then y.getD i 0 else -1
theorem ev_col (j:Nat)(c:Int):∀(os:List (List Int)) (y:List Rat),y.length=os.length→ev (os.map (fun o=>o.getD j 0)++[c]) (zOf y)=csum y os j - c
 | [],[],_=>by simp [ev,zOf,csum];grind
 | o::os,a::y,h=>by
  have ih:=ev_col j c os y (by simpa using h)
  have ez:(fun i=>zOf (a::y) (i+1))=zOf y:=by
   funext i
   simp [zOf]
  simp only [List.map_cons,List.cons_append,ev,csum]
  rw [ez,ih]
  simp [zOf]
  grind
 | [],_::_,h=>by simp at h
 | _::_,[],h=>by simp at h
theorem csum_scale (k:Rat)(j:Nat):∀(os:List (List Int)) (y:List Rat),csum (y.map (fun a=>a*k)) os j=csum y os j*k
 | [],_=>by cases ‹List Rat› <;> simp [csum] <;> grind
 | _::_,[]=>by simp [csum]
 | o::os,a::y=>by
  simp only [List.map_cons,csum]
  rw [csum_scale k j os y]
  grind
structure Clr (line lead new:List Int)(c:Nat):Prop where
 len:new.length=line.length
 nought:new.getD c 0=0
 lin:∃s t u:Int,s≠0∧t≠0∧∀j,s*new.getD j 0=t*line.getD j 0 - u*lead.getD j 0
theorem Clr.zero {line lead new:List Int}{c:Nat}(h:Clr line lead new c){j:Nat}(h1:line.getD j 0=0)(h2:lead.getD j 0=0):new.getD j 0=0:=by
 obtain ⟨s,t,u,hs,_,e⟩:=h.lin
 have:=e j
 rw [h1,h2,Int.mul_zero,Int.mul_zero,Int.sub_self] at this
 rcases Int.mul_eq_zero.mp this with z | z
 ·exact absurd z hs
 ·exact z
theorem Clr.at {line lead new:List Int}{c:Nat}(h:Clr line lead new c){j:Nat}(h2:lead.getD j 0=0)(h1:line.getD j 0≠0):new.getD j 0≠0:=by
 obtain ⟨s,t,u,hs,ht,e⟩:=h.lin
 have:=e j
 rw [h2] at this
 intro z
 rw [z,Int.mul_zero,Int.mul_zero,Int.sub_zero] at this
 rcases Int.mul_eq_zero.mp this.symm with y | y
 ·exact ht y
 ·exact h1 y
theorem Clr.comb {os:List (List Int)}{line lead new:List Int}{c:Nat}(h:Clr line lead new c)(h1:Comb os line)(h2:Comb os lead):Comb os new:=by
 obtain ⟨s,t,u,hs,ht,e⟩:=h.lin
 exact comb_lin hs e h1 h2
theorem Clr.ev {line lead new:List Int}{c:Nat}(h:Clr line lead new c)(hl:lead.length=line.length){z:Nat→Rat}(h2:Ty.ev lead z=0):Ty.ev new z=0 ↔ Ty.ev line z=0:=by
 obtain ⟨s,t,u,hs,ht,e⟩:=h.lin
 have k:=ev_lin h.len hl e z
 rw [h2] at k
 have hs' :=ratne hs
 have ht' :=ratne ht
 constructor
 ·intro w
  rw [w] at k
  grind
 ·intro w
  rw [w] at k
  grind
end Ty
set_option maxHeartbeats 4000000
namespace Ty
open PySem PySem.Spec PyProof.Rows L2
def Itn (K:Frag)(a:Addr):It:=
 ⟨fun i H=>∃xs x,SqL K H a xs∧xs[i]? =some x,
  fun i H v H' =>∃p x,(∀xs,SqL K H a xs→xs[i]? =some x)∧v=.ref p∧H p=none∧H' =upd H p (.tup [.int (i:Int),x]),
  fun i H=>∃xs,SqL K H a xs∧xs.length≤i⟩
theorem turn_enum {P:Program}{w:World}{K:Frag}{es:List Expr}{k:Nat}{pos:Pos}(a e it:Addr)(hne:e≠it):
  Turn P w K (.Tuple es k pos) (Itn K a) [e,it] e (fun i h=>(∃old,IsEnum h e it ((i:Nat):Int) old)∧h.IsListIter it a i) where
 mem:=by simp
 obj:=fun i h st c hc=>by
  obtain ⟨⟨old,he⟩,⟨o1,e1,c1,d1⟩⟩:=st
  have hc' :c=e∨c=it:=by simpa using hc
  rcases hc' with z | z <;> subst z
  ·exact ⟨_,he,fun v z=>by cases z⟩
  ·exact ⟨_,e1,fun v z=>by rw [d1] at z;cases z⟩
 keep:=fun i h h' st k=>by
  obtain ⟨⟨old,he⟩,h1⟩:=st
  exact ⟨⟨old,k e (by simp) _ he⟩,h1.at fun o e=>k it (by simp) o e⟩
 item:=by
  intro X hP hw hK hc i pins s σ H E I hf st hg
  subst hP hw hK
  obtain ⟨⟨old,he⟩,h1⟩:=st
  obtain ⟨xs,x,qx,ex⟩:=hg
  obtain ⟨its,rv,p,_⟩:=I.list qx
  obtain ⟨u,hu,ru⟩:=rv.get ex
  refine wpAny_pyNext_enum_item he h1 p.isList (x:=u) (by simpa using hu) hne fun h' a1 a2 a3 a4 a5=> ?_
  refine ⟨_,rfl,wpAny_letOwnedTupleGo_enum (s:={s with heap:=h',toks:=s.toks+1}) a1 fun h'' b1 sb=> ?_⟩
  have nz:∀c,c≠e→∀o,h'.get? c=some o→h''.get? c=some o:=fun c hc o q=>(sb.2 c hc).trans q
  have kk:∀b o,b∉[e,it]→s.heap.get? b=some o→h''.get? b=some o:=fun b o hb q=>by
   have hb' :b≠e∧b≠it:=by simpa using hb
   exact nz b hb'.1 o (a5 b o hb'.1 hb'.2 q)
  have sz:∀c o,s.heap.get? c=some o→s.heap.objs.size≠c:=fun c o q=>Nat.ne_of_gt (Heap.lt_size q)
  have tz:s.heap.objs.size≠e:=sz _ _ he
  have hn:=I.hok.fresh (Nat.le_refl s.heap.objs.size)
  have I2:Inv X pins σ (upd H s.heap.objs.size (.tup [.int (i:Int),x])) {s with heap:=h'',toks:=s.toks+1}:=
   Inv.turnedT I kk hf (Nat.le_refl _) (by show 2≤sizeLine;decide) (its:=[.int i s.toks,u]) (.cons ⟨_,rfl⟩ (.cons ru .nil)) ⟨_,nz _ tz _ a3,rfl,_,rfl⟩
  refine ⟨.ref s.heap.objs.size,_,I2,rfl,⟨s.heap.objs.size,x,fun xs' q=>by rw [I.list_inj q qx];exact ex,rfl,hn,rfl⟩,⟨⟨_,by exact b1⟩,a2.at fun o q=>nz _ (Ne.symm hne) o q⟩,fun b hb=> ?_⟩
  have ob:∃o,s.heap.get? b=some o:=by
   obtain ⟨o1,e1,_⟩:=h1
   have hc' :b=e∨b=it:=by simpa using hb
   rcases hc' with z | z <;> subst z
   ·exact ⟨_,he⟩
   ·exact ⟨_,e1⟩
  obtain ⟨o,q⟩:=ob
  rw [upd_ne (Ne.symm (sz _ _ q))]
  exact (hf b hb).1
 done:=by
  intro X hP hw hK hc i pins s σ H E I hf st hg
  subst hP hw hK
  obtain ⟨⟨old,he⟩,h1⟩:=st
  obtain ⟨xs,qx,ee⟩:=hg
  obtain ⟨its,rv,p,_⟩:=I.list qx
  have l1:=rv.length
  refine wpAny_pyNext_enum_end (I.ok.hd hc) he h1 p.isList (by simp;omega) fun h' kk=>⟨rfl,Inv.turnedL I (fun b o hb q=> ?_) hf⟩
  have hb' :b≠e∧b≠it:=by simpa using hb
  exact kk b o hb'.2 q
 self:=fun _ _ _ _ _ st h=>by
  obtain ⟨⟨old,he⟩,_⟩:=st
  exact wpAny_pyIter_enum he h
theorem boot_enumerate:bootBuiltins "enumerate"=some (.type "enumerate"):=by decide+kernel
section
variable {X:Cx}
inductive iEnum_ (K:Frag)(R:(It→Hp→Prop))(vs:List V)(H1:Hp):Prop where
 | mk (a:_) (_:vs=[.ref a]) (_:(∃xs,SqL K H1 a xs)) (_:R (Itn K a) H1):iEnum_ K R vs H1
def iEnum (K:Frag)(ta:TA):TI:=fun σ H R=>ta σ H fun vs H1=>iEnum_ K R vs H1
theorem pi_enum {e1:Expr}{ta:TA}{p pos:Pos}{es:List Expr}{k:Nat}{tpos:Pos}(hg:Gl X "enumerate")(hm:X.mg "enumerate"=none)(ha:PA X [e1] ta)(hs:starEach [e1] X.env=[(false,eval e1 X.env)]:=by rfl):
  PI X (.Tuple es k tpos) (.Call (.Name "enumerate" p) [e1] [] pos) (iEnum X.K ta):=by
 intro pins s σ H R I h
 refine Call_ (ld_blt I hg hm boot_enumerate (PyProof.Rows.callWith_type1 (thn (ha pos pins s σ H _ I h) fun us s1 ⟨vs,H1,I1,r1,q1⟩=> ?_) hs rfl))
 obtain ⟨a,e,⟨xs,hx⟩,q⟩:=q1
 subst e
 cases r1 with
 | cons r rr=>
  cases rr
  cases r
  obtain ⟨its,rv,pl,_⟩:=I1.list hx
  refine call_enumerate_list pl.isList fun h' hE hI hsz hk=>wpAny_pyIter_enum (s:={s1 with heap:=h' }) hE ?_
  refine ⟨s1.heap.objs.size+1,[s1.heap.objs.size+1,s1.heap.objs.size],_,_,H1,rfl,I1.kept (t' :=s1.toks) hk,turn_enum a _ _ (Nat.succ_ne_self _),⟨⟨_,hE⟩,hI⟩,fun c hc=> ?_,q⟩
  have hc' :s1.heap.objs.size≤c:=by
   have:c=s1.heap.objs.size+1∨c=s1.heap.objs.size:=by simpa using hc
   simp only [Addr] at*
   omega
  exact I1.fpOk hc' (I1.hok.fresh hc')
theorem any_range (bs:List Bool):(List.range bs.length).any (fun i=>(bs[i]?).getD true)=bs.any id:=by
 rw [Bool.eq_iff_iff,List.any_eq_true,List.any_eq_true]
 constructor
 ·rintro ⟨i,hi,h⟩
  have hi' :i < bs.length:=List.mem_range.mp hi
  rw [gE hi'] at h
  exact ⟨bs[i],List.getElem_mem hi',h⟩
 ·rintro ⟨b,hb,h⟩
  obtain ⟨i,hi⟩:=List.getElem?_of_mem hb
  exact ⟨i,List.mem_range.mpr (List.getElem?_eq_some_iff.mp hi).1,by rw [hi];exact h⟩
inductive rAny (K:Frag)(xs:List V)(H:Hp)(Q:VK):Prop where
 | mk (p:Addr) (bs:List Bool) (_:xs=[.ref p]) (_:SqL K H p (bs.map V.bl)) (_:Q (.bl (bs.any id)) H):rAny K xs H Q
theorem call_anyB (hc:X.calm=true):CallR X (.builtin "any") (rAny X.K):=by
 intro pins s σ H xs us Q I r h
 obtain ⟨p,bs,rfl,hq,q⟩:=h
 obtain ⟨u,rfl,r1⟩:=vals1 r
 cases r1
 obtain ⟨its,rv,pl,hz⟩:=I.list hq
 refine call_any_walk (wpAny_pyIter_list pl.isList ?_)
 have hne:p≠s.heap.objs.size:=by obtain ⟨o,ho,_⟩:=pl.isList;exact Nat.ne_of_lt (Heap.lt_size ho)
 have I1:Inv X pins σ H {s with heap:=s.heap.push {cls:=.type "list_iterator",data:=.fields #[.ref p,.int 0 0]}}:=I.kept (t' :=s.toks) fun b o e=>Heap.get?_push_of_some _ e
 obtain ⟨f0,f1,f2,f3,f4,f5⟩:=I.fpOk (H' :=H) (Nat.le_refl s.heap.objs.size) (I.hok.fresh (Nat.le_refl _))
 have hl:its.length=bs.length:=by rw [← rv.length,List.length_map]
 refine ⟨s.heap.objs.size,_,_,_,_,_,fun i=>(bs[i]?).getD true,rfl,Walks.list (A:=X.A.in1) (I.ok.hd hc) s.heap.objs.size p hne its.toArray,⟨⟨_,Heap.get?_push_size _ rfl,rfl,rfl⟩,pl.isList.at fun o e=>Heap.get?_push_of_some _ e⟩,?_,fun h' tk kk=> ?_⟩
 ·intro i v s' Q' E' hv hq'
  have hv' :its[i]? =some v:=by simpa using hv
  have hi:i < bs.length:=by rw [← hl];exact (List.getElem?_eq_some_iff.mp hv').1
  have eb:(bs.map V.bl)[i]? =some (.bl bs[i]):=by rw [List.getElem?_map,gE hi];rfl
  obtain ⟨u,eu,ru⟩:=rv.get eb
  rw [hv'] at eu
  cases eu
  cases ru
  dsimp only at hq'
  rw [gE hi] at hq'
  exact wpAny_truthy_bool hq'
 ·refine ⟨.bl (bs.any id),H,I1.turned (t' :=tk) (it:=s.heap.objs.size) (fun b o hb e=>kk b o (by simpa using hb) e) f0 f1 f3 f4 f5,?_,q⟩
  show _=_
  rw [← any_range bs,List.size_toArray,hl]
theorem b_any:bootBuiltins "any"=some (.builtin "any"):=by decide+kernel
end
theorem for_enum {K:Frag}{a:Addr}{xs:List V}{g:TG}{tb:TS}{D:Ends}{σ:L2.St}{H:Hp}(Pv:Nat→L2.St→Hp→Prop)(h0:Pv 0 σ H)(hl:∀i σ H,i≤xs.length→Pv i σ H→SqL K H a xs)
  (hs:∀i x σ H p,xs[i]? =some x→Pv i σ H→H p=none→g (.ref p) σ (upd H p (.tup [.int (i:Int),x])) fun σ2 H2=>tb {D with nx:=Pv (i+1),ct:=Pv (i+1),bk:=D.nx} σ2 H2) (hd:∀σ H,Pv xs.length σ H→D.nx σ H):
  ∃W:Nat→Nat→L2.St→Hp→Prop,(∃m,W 0 m σ H)∧∀i m σ H,W i m σ H→
   ((Itn K a).stop i H∧D.nx σ H)∨((Itn K a).go i H∧∃N:L2.St→Hp→Prop,(∀σ' H',N σ' H' →∃m',m' < m∧W (i+1) m' σ' H')∧∀x H',(Itn K a).yld i H x H' →g x σ H' fun σ2 H2=>tb {D with nx:=N,ct:=N,bk:=D.nx} σ2 H2):=by
 refine ⟨fun i m σ H=>m=xs.length - i∧i≤xs.length∧Pv i σ H,⟨xs.length,by simp,Nat.zero_le _,h0⟩,?_⟩
 rintro i m σ H ⟨rfl,hi,p⟩
 have q:=hl i σ H hi p
 by_cases hlt:i < xs.length
 ·have e:xs[i]? =some xs[i]:=gE hlt
  refine .inr ⟨⟨xs,_,q,e⟩,Pv (i+1),fun σ' H' z=>⟨xs.length - (i+1),by omega,rfl,by omega,z⟩,fun x H' y=> ?_⟩
  obtain ⟨pp,x',y1,rfl,np,rfl⟩:=y
  exact hs i x' σ H pp (y1 xs q) p np
 ·have e:i=xs.length:=by omega
  subst e
  exact .inl ⟨⟨xs,q,Nat.le_refl _⟩,hd σ H p⟩
theorem for_items {d:Addr}{o:Obj}{kvs:List (Key×V)}{g:TG}{tb:TS}{D:Ends}{σ:L2.St}{H:Hp}(Pv:Nat→L2.St→Hp→Prop)(h0:Pv 0 σ H)(hl:∀i σ H,i≤kvs.length→Pv i σ H→H d=some (.frz o (.dK kvs)))
  (hs:∀i k x σ H p,kvs[i]? =some (k,x)→Pv i σ H→H p=none→g (.ref p) σ (upd H p (.tup [kV k,x])) fun σ2 H2=>tb {D with nx:=Pv (i+1),ct:=Pv (i+1),bk:=D.nx} σ2 H2) (hd:∀σ H,Pv kvs.length σ H→D.nx σ H):
  ∃W:Nat→Nat→L2.St→Hp→Prop,(∃m,W 0 m σ H)∧∀i m σ H,W i m σ H→
   ((Itd d o kvs).stop i H∧D.nx σ H)∨((Itd d o kvs).go i H∧∃N:L2.St→Hp→Prop,(∀σ' H',N σ' H' →∃m',m' < m∧W (i+1) m' σ' H')∧∀x H',(Itd d o kvs).yld i H x H' →g x σ H' fun σ2 H2=>tb {D with nx:=N,ct:=N,bk:=D.nx} σ2 H2):=by
 refine ⟨fun i m σ H=>m=kvs.length - i∧i≤kvs.length∧Pv i σ H,⟨kvs.length,by simp,Nat.zero_le _,h0⟩,?_⟩
 rintro i m σ H ⟨rfl,hi,p⟩
 have q:=hl i σ H hi p
 by_cases hlt:i < kvs.length
 ·refine .inr ⟨⟨q,hlt⟩,Pv (i+1),fun σ' H' z=>⟨kvs.length - (i+1),by omega,rfl,by omega,z⟩,fun x H' y=> ?_⟩
  obtain ⟨pp,k,x',y1,rfl,np,rfl⟩:=y
  exact hs i k x' σ H pp y1 p np
 ·have e:i=kvs.length:=by omega
  subst e
  exact .inl ⟨⟨q,Nat.le_refl _⟩,hd σ H p⟩
end Ty
set_option maxHeartbeats 4000000
namespace Ty
open PySem PySem.Spec PyProof.Rows L2
open Builtin.Int (intBits)
section
variable {X:Cx}
def CMulS (i j:Int):Prop:=intBits i+intBits j≤134217728
theorem op_mulZ:OpR X (binaryOp .Mult) (rI CMulS fun i j=>.int (i*j)):=
 opI fun _ _ _ _ _ _ _ hc q=>mul_int q (IntMulOk.of_le (Nat.le_refl _) (Nat.le_refl _) hc)
theorem pw_cmulS {a b:Int}{m n:Nat}(h1:a.natAbs≤2^m)(h2:b.natAbs≤2^n)(h:m+n≤134000000):CMulS a b:=by
 have x1:=pw_bits h1 (Nat.lt_succ_self m)
 have x2:=pw_bits h2 (Nat.lt_succ_self n)
 unfold CMulS
 omega
inductive rIsiT (K:Frag)(xs:List V)(H:Hp)(Q:VK):Prop where
 | mk (p ys:_) (_:xs=[.ref p,.ty "tuple"]) (_:SqT K H p ys) (_:Q (.bl true) H):rIsiT K xs H Q
theorem call_isiT:CallR X (.builtin "isinstance") (rIsiT X.K):=by
 intro pins s σ H xs us Q I r h
 obtain ⟨p,ys,rfl,hq,q⟩:=h
 obtain ⟨u,w,rfl,r1,r2⟩:=vals2 r
 obtain rfl:=cls_rel (c:=.ty "tuple") rfl r2
 cases r1
 obtain ⟨its,rv,⟨o,h1,h2,_⟩,_⟩:=I.tuple hq
 have e:PySem.W.kitOne X.K (.type "tuple") (clsV (.ty "tuple"))=some true:=by unfold PySem.W.kitOne;rw [if_pos (by decide)]
 exact PySem.W.kia_one PySem.W.kitx_tuple I.kIn ⟨o,h1,h2⟩ e (fun z=>nomatch z) fun tk=>⟨.bl true,H,I.tok tk,rfl,q⟩
end
theorem Same.seqT {K:Frag}{H H' :Hp}{a:Addr}{xs:List V}(e:Same H H')(h:SqT K H a xs):SqT K H' a xs:=by
 rcases h with (h | ⟨o,h⟩) | h
 ·exact .inl (.inl (e _ _ h))
 ·exact .inl (.inr ⟨o,e _ _ h⟩)
 ·exact .inr h
section
variable {D:Addr}{te:TE}{cap:L2.St}{H1:Hp}{Q:VK}
theorem comp_zipD {K:Frag}{a b:Addr}{xs ys:List V}(Rel:Nat→V→Hp→Prop)(nD:H1 D=none)(hn:xs.length < sizeLine)(hl:ys.length=xs.length)(hX:∀H,Same H1 H→SqL K H a xs)(hY:∀H,Same H1 H→SqL K H b ys)
  (hR:∀i v H H' ys,H D=some (.lst ys)→KSame D H H' →Rel i v H→Rel i v H')
  (he:∀i x y H (R:VK),xs[i]? =some x→ys[i]? =some y→Same H1 H→(∃ys,H D=some (.lst ys))→(∀v H6,Same H H6→Rel i v H6→R v H6)→te (some x::some y::cap) H R)
  (hd:∀zs H,zs.length=xs.length→(∀i v,zs[i]? =some v→Rel i v H)→Same H1 H→H D=some (.lst zs)→Q (.ref D) H):
  tBlk D (gTup K 2 (gCons (gName 0) (gCons (gName 1) gNil))) tYes te (Itz K a b) (none::none::cap) H1 Q:=by
 refine ⟨fun i m σ zs H=>m=xs.length - i∧i≤xs.length∧(∃o o',σ=o::o' ::cap)∧(zs.length=i∧(∀i v,zs[i]? =some v→Rel i v H)∧Same H1 H)∧H D=some (.lst zs),⟨xs.length,by simp,Nat.zero_le _,⟨none,none,rfl⟩,⟨rfl,fun i v e=>by simp at e,fun b o e=>by rw [upd_ne (ne_of_none e nD)];exact e⟩,upd_same⟩,?_⟩
 rintro i m σ zs H ⟨rfl,hi,⟨o,o',rfl⟩,⟨l,r,s⟩,hD⟩
 by_cases hlt:i < xs.length
 ·have e1:xs[i]? =some xs[i]:=gE hlt
  have e2:ys[i]? =some (ys[i]'(by omega)):=gE (by omega)
  refine .inr ⟨⟨xs,ys,_,_,hX H s,hY H s,e1,e2⟩,fun v H' y=> ?_⟩
  obtain ⟨p,x,y,q1,q2,rfl,np,rfl⟩:=y
  have e1:=q1 xs (hX H s)
  have e2:=q2 ys (hY H s)
  have sp:Same H (upd H p (.tup [x,y])):=fun b o e=>by rw [upd_ne (ne_of_none e np)];exact e
  refine ⟨p,_,rfl,SqT.of upd_same,rfl,_,_,rfl,_,_,rfl,rfl,?_⟩
  unfold tYes
  dsimp only
  rw [if_pos rfl]
  refine he i x y _ _ e1 e2 (fun b o e=>sp _ _ (s _ _ e)) ⟨zs,sp _ _ hD⟩ fun v H6 s6 rv=>⟨s6 _ _ (sp _ _ hD),by omega,xs.length - (i+1),by omega,rfl,by omega,⟨_,_,rfl⟩,⟨by simp [l],fun j u e=> ?_,fun b o e=> ?_⟩,upd_same⟩
  ·by_cases c:j < zs.length
   ·rw [List.getElem?_append_left c] at e
    have ru:=hR j u H H6 zs hD (KSame.of fun b o q=>s6 _ _ (sp _ _ q)) (r j u e)
    exact hR j u H6 _ zs (s6 _ _ (sp _ _ hD)) KSame.upd ru
   ·rw [List.getElem?_append_right (by omega)] at e
    have ej:j=i:=by
     by_cases z:j - zs.length=0
     ·omega
     ·rw [List.getElem?_eq_none (by simp;omega)] at e
      cases e
    subst ej
    have:v=u:=by
     rw [show j - zs.length=0 by omega] at e
     exact Option.some.inj e
    subst this
    exact hR j v H6 _ zs (s6 _ _ (sp _ _ hD)) KSame.upd rv
  ·rw [upd_ne (ne_of_none e nD)]
   exact s6 _ _ (sp _ _ (s _ _ e))
 ·have e:i=xs.length:=by omega
  subst e
  exact .inl ⟨⟨xs,ys,hX H s,hY H s,.inl (Nat.le_refl _)⟩,hd zs H l r s hD⟩
end
def NmK (K:Frag)(H:Hp)(v:V)(q:Int×Int):Prop:=∃p,v=.ref p∧SqT K H p [.int q.1,.int q.2]
theorem NmK.same {K:Frag}{H H' :Hp}{v:V}{q:Int×Int}(h:NmK K H v q)(s:Same H H'):NmK K H' v q:=by
 obtain ⟨p,e,k⟩:=h
 exact ⟨p,e,Ty.Same.seqT s k⟩
def NmsK (K:Frag)(H:Hp)(us:List V)(qs:List (Int×Int)):Prop:=us.length=qs.length∧∀(i:Nat) (u:V) (q:Int×Int),us[i]? =some u→qs[i]? =some q→NmK K H u q
theorem NmsK.same {K:Frag}{H H' :Hp}{us:List V}{qs:List (Int×Int)}(h:NmsK K H us qs)(s:Same H H'):NmsK K H' us qs:=⟨h.1,fun i u q e1 e2=>(h.2 i u q e1 e2).same s⟩
theorem NmsK.at {K:Frag}{H:Hp}{us:List V}{qs:List (Int×Int)}(h:NmsK K H us qs){i:Nat}{u:V}(e:us[i]? =some u):∃q,qs[i]? =some q∧NmK K H u q:=by
 have hi:i < us.length:=(List.getElem?_eq_some_iff.mp e).1
 have hl:=h.1
 have e2:qs[i]? =some (qs[i]'(by omega)):=gE (by omega)
 exact ⟨_,e2,h.2 i u _ e e2⟩
theorem NmsK.set {K:Frag}{H:Hp}{us:List V}{qs:List (Int×Int)}{j:Nat}{v:V}{q:Int×Int}(h:NmsK K H us qs)(n:NmK K H v q):NmsK K H (us.set j v) (qs.set j q):=by
 refine ⟨by simp [h.1],fun i u q' e1 e2=> ?_⟩
 rw [List.getElem?_set] at e1 e2
 by_cases c:j=i
 ·subst c
  rw [if_pos rfl] at e1 e2
  have l:=h.1
  by_cases hj:j < us.length
  ·rw [if_pos hj] at e1
   rw [if_pos (by omega)] at e2
   cases e1
   cases e2
   exact n
  ·rw [if_neg hj] at e1
   cases e1
 ·rw [if_neg c] at e1 e2
  exact h.2 i u q' e1 e2
def RowK (K:Frag)(H:Hp)(a:Addr)(qs:List (Int×Int)):Prop:=∃us,SqL K H a us∧NmsK K H us qs
def sumTo:Nat→(Nat→Rat)→Rat
 | 0,_=>0
 | n+1,f=>f 0+sumTo n (fun i=>f (i+1))
theorem sumTo_add:∀(n:Nat) (f g:Nat→Rat),sumTo n (fun i=>f i+g i)=sumTo n f+sumTo n g
 | 0,_,_=>by simp [sumTo];grind
 | n+1,f,g=>by
  simp only [sumTo]
  rw [sumTo_add n (fun i=>f (i+1)) (fun i=>g (i+1))]
  grind
theorem sumTo_mul (c:Rat):∀(n:Nat) (f:Nat→Rat),sumTo n (fun i=>c*f i)=c*sumTo n f
 | 0,_=>by simp [sumTo]
 | n+1,f=>by
  simp only [sumTo]
  rw [sumTo_mul c n (fun i=>f (i+1))]
  grind
theorem sumTo_zero:∀(n:Nat) (f:Nat→Rat),(∀i,f i=0)→sumTo n f=0
 | 0,_,_=>rfl
 | n+1,f,h=>by
  simp only [sumTo]
  rw [h 0,sumTo_zero n (fun i=>f (i+1)) (fun i=>h (i+1))]
  grind
theorem ev_sumTo:∀(n:Nat) (l:List Int) (z:Nat→Rat),l.length≤n→ev l z=sumTo n (fun j=>((l.getD j 0:Int):Rat)*z j)
 | n,[],z,_=>by
  rw [sumTo_zero n _ (fun i=>by simp)]
  rfl
 | 0,_::_,_,h=>by simp at h
 | n+1,a::r,z,h=>by
  simp only [ev,sumTo]
  rw [ev_sumTo n r (fun i=>z (i+1)) (by simpa using h)]
  simp
theorem csum_ev (n:Nat)(z:Nat→Rat):∀(y:List Rat) (os:List (List Int)),(∀o∈os,o.length≤n)→(∀o∈os,ev o z=0)→sumTo n (fun j=>csum y os j*z j)=0
 | c::y,o::os,h1,h2=>by
  have ih:=csum_ev n z y os (fun x hx=>h1 x (List.mem_cons_of_mem _ hx)) (fun x hx=>h2 x (List.mem_cons_of_mem _ hx))
  have e:=h2 o List.mem_cons_self
  rw [ev_sumTo n o z (h1 o List.mem_cons_self)] at e
  have k:(fun j=>csum (c::y) (o::os) j*z j)=fun j=>c*(((o.getD j 0:Int):Rat)*z j)+csum y os j*z j:=by
   funext j
   simp only [csum]
   grind
  rw [k,sumTo_add,sumTo_mul,e,ih]
  grind
 | [],os,_,_=>sumTo_zero n _ (fun j=>by cases os <;> simp [csum])
 | _::_,[],_,_=>sumTo_zero n _ (fun j=>by simp [csum])
theorem ev_comb {os:List (List Int)}{l:List Int}{n:Nat}{z:Nat→Rat}(h:Comb os l)(hl:l.length≤n)(ho:∀o∈os,o.length≤n)(hz:∀o∈os,ev o z=0):ev l z=0:=by
 obtain ⟨y,_,e⟩:=h
 rw [ev_sumTo n l z hl, ← csum_ev n z y os ho hz]
 congr 1
 funext j
 rw [e j]
theorem ev_whole:∀{ts:List Int} {qs xs:List (Int×Int)} {d:Int×Int} {b:Int},Whole ts (qs++[d]) b→xs.length=qs.length→ev ts (zOf (xs.map vl))=(dotQ qs xs - vl d)*b
 | [],qs,xs,d,b,h,_=>by have:=h.1;simp at this
 | t::ts,[],[],d,b,h,_=>by
  have e:=h.2 0 t d rfl rfl
  have l:=h.1
  have:ts=[]:=by simpa using l
  subst this
  simp [ev,zOf,dotQ]
  rw [e]
  grind
 | t::ts,q::qs,x::xs,d,b,h,hl=>by
  have e:=h.2 0 t q rfl rfl
  have ih:=ev_whole (ts:=ts) (qs:=qs) (xs:=xs) (d:=d) (b:=b) h.tail (by simpa using hl)
  have ez:(fun i=>zOf ((x::xs).map vl) (i+1))=zOf (xs.map vl):=by
   funext i
   simp [zOf]
  simp only [ev]
  rw [ez,ih,e]
  have e0:zOf ((x::xs).map vl) 0=vl x:=by simp [zOf]
  have ed:dotQ (q::qs) (x::xs)=vl q*vl x+dotQ qs xs:=by simp [dotQ]
  rw [e0,ed]
  grind
 | _::_,[],_::_,_,_,_,hl=>by simp at hl
 | _::_,_::_,[],_,_,_,hl=>by simp at hl
end Ty
set_option maxHeartbeats 4000000
namespace Ty
open PySem PySem.Spec PyProof.Rows L2
section
variable {X:Cx}
end
section
variable {D:Addr}{te:TE}{cap:L2.St}{H1:Hp}{Q:VK}
end
end Ty
set_option maxHeartbeats 4000000
namespace Ty
open PySem PySem.Spec PyProof.Rows L2
section
variable {X:Cx}
end
end Ty
set_option maxHeartbeats 4000000
namespace Ty
open PySem PySem.Spec PyProof.Rows L2
section
variable {X:Cx}
inductive rLenD (xs:List V)(H:Hp)(Q:VK):Prop where
 | mk (p:Addr) (kvs:List (Key×V)) (_:xs=[.ref p]) (_:Rd H p (.dK kvs)) (_:Q (.int (kvs.length:Int)) H):rLenD xs H Q
theorem call_lenD:CallR X (.builtin "len") rLenD:=by
 intro pins s σ H xs us Q I r h
 obtain ⟨p,kvs,rfl,hq,q⟩:=h
 obtain ⟨u,rfl,r1⟩:=vals1 r
 cases r1
 exact d_len I hq fun t s' I' =>⟨.int _,H,I',⟨t,rfl⟩,q⟩
end
section
variable {D:Addr}{te:TE}{cap:L2.St}{H1:Hp}{Q:VK}
end
end Ty
set_option maxHeartbeats 4000000
namespace Ty
open PySem PySem.Spec PyProof.Rows L2
section
variable {X:Cx}
theorem Inv.thawG {pins:List (Addr×Obj)}{σ:L2.St}{H:Hp}{s:Shared}{d:Addr}{u:HO}{o:Obj}(I:Inv X pins σ H s)(e:H d=some (.frz o u))(n:∀o' u',X.H₀ d≠some (.frz o' u'))(nt:∀xs,u≠.tup xs):Inv X pins σ (upd H d u) s:=by
 have nx:∀b u',H b=some u' →b≠d→upd H d u b=some u' :=fun b u q n=>by rw [upd_ne n];exact q
 have nn:∀b,H b=none→upd H d u b=none:=fun b q=>by rw [upd_ne (fun z=>by rw [z,e] at q;cases q)];exact q
 refine ⟨I.ok,I.os,I.bare,⟨I.base.keep,I.base.slot,fun b ob q z hx=>nn b (I.base.free b ob q z hx),I.base.there,fun b xs q=> ?_,fun b ob u' q=> ?_,fun b ps q=> ?_⟩,I.loc,I.cell,nn _ I.free,fun x c q=>nn _ (I.freeC x c q),fun p hp=> ?_,?_,I.len⟩
 ·have z:=I.base.tups b xs q
  exact nx b _ z fun y=>by rw [y,e] at z;cases z
 ·have z:=I.base.frzs b ob u' q
  exact nx b _ z fun y=>by rw [y] at q;exact n _ _ q
 ·obtain ⟨m,z⟩:=I.base.tbls b ps q
  exact ⟨m,nx b _ z fun y=>by rw [y,e] at z;cases z⟩
 ·obtain ⟨a1,a2,a3⟩:=I.pin p hp
  exact ⟨a1,nn _ a2,a3⟩
 ·have st:∀{b u'},ObjOk X.prog X.w H s.heap b u' →ObjOk X.prog X.w (upd H d u) s.heap b u' :=fun {b u'} k=>k.stay (fun _ _ _ z=>z) (fun c z=>nx c _ z fun y=>by rw [y,e] at z;cases z) fun c xs z=>nx c _ z fun y=>by rw [y,e] at z;cases z
  intro b u' q
  by_cases hb:b=d
  ·subst hb
   rw [upd_same] at q
   cases q
   exact st (I.hok b _ e).2
  ·rw [upd_ne hb] at q
   exact st (I.hok b u' q)
def tThaw (H0:Hp)(t:TS):TS:=fun D σ H=>t {D with nx:=fun σ' H' =>∃d o kvs,H' d=some (.frz o (.dK kvs))∧(∀o' u',H0 d≠some (.frz o' u'))∧D.nx σ' (upd H' d (.dK kvs))} σ H
theorem ps_thaw {st:Stmt}{t:TS}(h:PS X st t):PS X st (tThaw X.H₀ t):=by
 intro pins s σ H D I q
 refine wpAny_mono (h pins s σ H _ I q) (fun f s' z=> ?_) fun _ _ z=>z
 cases f with
 | next=>
  obtain ⟨σ',H',I',d,o,kvs,e,n,k⟩:=z
  exact ⟨σ',_,Inv.thawG I' e n (fun _ z=>nomatch z),k⟩
 | brk=>exact z
 | cont=>exact z
 | ret u=>exact z
def Itk (d:Addr)(o:Obj)(kvs:List (Key×V)):It:=
 ⟨fun i H=>H d=some (.frz o (.dK kvs))∧i < kvs.length,
  fun i H v H' =>H' =H∧∃k x,kvs[i]? =some (k,x)∧v=kV k,
  fun i H=>H d=some (.frz o (.dK kvs))∧kvs.length≤i⟩
theorem turn_keys {P:Program}{w:World}{K:Frag}{tg:Expr}(d it:Addr)(o:Obj)(kvs:List (Key×V)){es0:Array DictEntry}{ep:Nat}(he:o.data=.dict es0 ep):
  Turn P w K tg (Itk d o kvs) [it] it (fun i h=>h.IsKeyIter it d i kvs.length ep) where
 mem:=by simp
 obj:=fun i h st b hb=>by
  have e:b=it:=by simpa using hb
  subst e
  obtain ⟨o,e,c,d⟩:=st
  exact ⟨o,e,fun v z=>by rw [d] at z;cases z⟩
 keep:=fun i h h' st k=>st.at fun o e=>k it (by simp) o e
 item:=by
  intro X hP hw hK hc i pins s σ H E I hf st hg
  subst hP hw hK
  obtain ⟨fz,hi⟩:=hg
  obtain ⟨hd,vs,rel,da,_⟩:=frz_at I.hok fz he
  have ek:kvs[i]? =some kvs[i]:=gE hi
  obtain ⟨⟨k',u⟩,ev,e1,ru⟩:=paired_get rel ek
  have lv:=rel.length
  rw [lv] at st
  obtain ⟨f0,f1,f2,f3,f4,f5⟩:=hf it (by simp)
  refine wpAny_pyNext_dict_item st da ev fun key h' hkey st' sb=> ?_
  have I1:Inv X pins σ H {s with heap:=h' }:=I.turned (t' :=s.toks) (fun b o hb e=>(sb.2 b hb).trans e) f0 f1 f3 f4 f5
  rw [← lv] at st'
  obtain ⟨o',e',c',d'⟩:=id st'
  have e1' :kvs[i].1=k' :=e1
  exact ⟨key,rfl,go_of (s:={s with heap:=h' }) e' c' d' (by decide) ⟨kV kvs[i].1,H,I1,by rw [e1'];exact key_rel hkey,⟨rfl,kvs[i].1,kvs[i].2,ek,rfl⟩,st',fun b hb=>(hf b hb).1⟩⟩
 done:=by
  intro X hP hw hK hc i pins s σ H E I hf st hg
  subst hP hw hK
  obtain ⟨fz,hi⟩:=hg
  obtain ⟨hd,vs,rel,da,_⟩:=frz_at I.hok fz he
  have lv:=rel.length
  rw [lv] at st
  obtain ⟨f0,f1,f2,f3,f4,f5⟩:=hf it (by simp)
  exact wpAny_pyNext_dict_end (I.ok.hd hc) st da (List.getElem?_eq_none (by omega)) fun h' eb=>⟨rfl,I.turned (t' :=s.toks) (fun b o hb e=>eb b o hb e) f0 f1 f3 f4 f5⟩
 self:=fun _ _ _ _ _ st h=>wpAny_pyIter_keyiter st h
inductive iKeys_ (R:(It→Hp→Prop))(x:V)(H1:Hp):Prop where
 | mk (d kvs:_) (_:x=.ref d) (_:H1 d=some (.dK kvs)) (_:∀o,R (Itk d o kvs) (upd H1 d (.frz o (.dK kvs)))):iKeys_ R x H1
def iKeys (te:TE):TI:=fun σ H R=>te σ H fun x H1=>iKeys_ R x H1
theorem pi_keys {e:Expr}{te:TE}{tg:Expr}(ho:PE X e te):PI X tg e (iKeys te):=by
 intro pins s σ H R I h
 refine thn (ho pins s σ H _ I h) fun v s1 ⟨x,H1,I1,r1,q1⟩=> ?_
 obtain ⟨d,kvs,rfl,e,q⟩:=q1
 cases r1
 obtain ⟨z,hd,vs,rel,o,es1,ep,ho1,hx,hdat,hk,hp,hn⟩:=dk_of I1.hok e
 have da:s1.heap.DictAt (mixKind X.prog X.w) d vs ep:=⟨o,es1,ho1,hx,hdat,hk,hp,hn⟩
 have lv:=rel.length
 have I2:=Inv.freeze I1 e ho1
 refine wpAny_pyIter_dict hd da ?_
 have I3:Inv X pins σ (upd H1 d (.frz o (.dK kvs))) {s1 with heap:=s1.heap.push {cls:=.type "dict_keyiterator",data:=.fields #[.ref d,.int 0 0,.int vs.length 0,.int ep 0]}}:=I2.kept (t' :=s1.toks) fun b o e=>Heap.get?_push_of_some _ e
 refine ⟨s1.heap.objs.size,[s1.heap.objs.size],_,_,_,rfl,I3,turn_keys d _ o kvs hdat,(show Heap.IsKeyIter _ _ d 0 kvs.length ep from ⟨_,Heap.get?_push_size _ rfl,rfl,by rw [lv];rfl⟩),fun b hb=> ?_,q o⟩
 have eb:b=s1.heap.objs.size:=by simpa using hb
 have le:s1.heap.objs.size≤b:=by rw [eb];exact Nat.le_refl _
 exact I2.fpOk le (I2.hok.fresh le)
theorem for_keys {d:Addr}{o:Obj}{kvs:List (Key×V)}{g:TG}{tb:TS}{D:Ends}{σ:L2.St}{H:Hp}(Pv:Nat→L2.St→Hp→Prop)(h0:Pv 0 σ H)(hl:∀i σ H,i≤kvs.length→Pv i σ H→H d=some (.frz o (.dK kvs)))
  (hs:∀i k x σ H,kvs[i]? =some (k,x)→Pv i σ H→g (kV k) σ H fun σ2 H2=>tb {D with nx:=Pv (i+1),ct:=Pv (i+1),bk:=D.nx} σ2 H2) (hd:∀σ H,Pv kvs.length σ H→D.nx σ H):
  ∃W:Nat→Nat→L2.St→Hp→Prop,(∃m,W 0 m σ H)∧∀i m σ H,W i m σ H→
   ((Itk d o kvs).stop i H∧D.nx σ H)∨((Itk d o kvs).go i H∧∃N:L2.St→Hp→Prop,(∀σ' H',N σ' H' →∃m',m' < m∧W (i+1) m' σ' H')∧∀x H',(Itk d o kvs).yld i H x H' →g x σ H' fun σ2 H2=>tb {D with nx:=N,ct:=N,bk:=D.nx} σ2 H2):=by
 refine ⟨fun i m σ H=>m=kvs.length - i∧i≤kvs.length∧Pv i σ H,⟨kvs.length,by simp,Nat.zero_le _,h0⟩,?_⟩
 rintro i m σ H ⟨rfl,hi,p⟩
 have q:=hl i σ H hi p
 by_cases hlt:i < kvs.length
 ·refine .inr ⟨⟨q,hlt⟩,Pv (i+1),fun σ' H' z=>⟨kvs.length - (i+1),by omega,rfl,by omega,z⟩,fun x H' y=> ?_⟩
  obtain ⟨rfl,k,x',ek,rfl⟩:=y
  exact hs i k x' σ _ ek p
 ·have e:i=kvs.length:=by omega
  subst e
  exact .inl ⟨⟨q,Nat.le_refl _⟩,hd σ H p⟩
inductive rDictD (xs:List V)(H:Hp)(Q:VK):Prop where
 | mk (p:Addr) (kvs:List (Key×V)) (_:xs=[.ref p]) (_:Rd H p (.dK kvs)) (_:∀l,H l=none→Q (.ref l) (upd H l (.dK kvs))):rDictD xs H Q
theorem call_dictD:CallR X (.type "dict") rDictD:=by
 intro pins s σ H vs us Q I r h
 obtain ⟨p,kvs,rfl,e,q⟩:=h
 obtain ⟨u,rfl⟩:∃u,us=[u]:=by cases r with | cons h t=>cases t;exact ⟨_,rfl⟩
 cases r with
 | cons h _=>
 cases h
 obtain ⟨z,hd,vs,rel,dd⟩:=dk_rd I.hok e
 have hn:=I.hok.fresh (Nat.le_refl s.heap.objs.size)
 refine kt_call_dict hd dd (by rw [← rel.length];exact z) fun h' dd' sb=> ?_
 have kk:∀b o,s.heap.get? b=some o→h'.get? b=some o:=fun b o eb=>(sb.2 b (fun z=>absurd (Heap.lt_size eb) (by rw [z];exact Nat.lt_irrefl _))).trans (Heap.get?_push_of_some _ eb)
 have I2:Inv X pins σ (upd H s.heap.objs.size (.dK kvs)) {s with heap:=h',toks:=s.toks}:=I.laid (t' :=s.toks) kk (Nat.le_refl _) (dk_new z (beq_eq_false_iff_ne.mpr (Ne.symm (Nat.ne_of_lt I.big))) rel dd')
 exact ⟨.ref _,_,I2,rfl,q _ hn⟩
end
end Ty
set_option maxHeartbeats 4000000
namespace Ty
open PySem PySem.Spec PyProof.Rows L2
section
variable {prog:Program}{w:World}{KK:Type}[DecidableEq KK]{knd:KeyKind prog w KK}{A:Around}{E:Value→Shared→Prop}{s:Shared}
open MeetsSeq MeetsSeq2 MeetsSeq3 SeqRoads2 in
open MeetsSeq MeetsSeq2 MeetsSeq3 SeqRoads2 in
end
section
variable {X:Cx}
end
end Ty
set_option maxHeartbeats 4000000
namespace Ty
open PySem PySem.Spec PyProof.Rows L2
structure FunD (K:Frag)(x qual:Str)(st:Stmt)(f:Addr)(fd:FuncData):Prop where
 ex:∃(dV oc:Value) (od:Option Addr) (kV doc pm:Value) (an:Option Addr) (cdv ct:Value) (osl:Array (Option Value)),
  fd=fnOf x qual (defArgs st) (defBody st) (defScope st) dV kV doc pm an cdv ct∧K.lookup f=some ⟨oc,od,.func fd,osl⟩∧codeIn K cdv qual=true
 kp:keepIn K (.ref f)=true
section
variable {P:Program}{w:World}{K:Frag}{mg:Str→Option Value}{base:Heap}{CX:CXT}
theorem fun_mkD {x qual:Str}{st:Stmt}{f:Addr}{dV oc:Value}{od an:Option Addr}{osl:Array (Option Value)}{kV doc pm cdv ct:Value}(l:K.lookup f=some ⟨oc,od,.func (fnOf x qual (defArgs st) (defBody st) (defScope st) dV kV doc pm an cdv ct),osl⟩)
  (c:codeIn K cdv qual=true) (k:keepIn K (.ref f)=true):FunD K x qual st f (fnOf x qual (defArgs st) (defBody st) (defScope st) dV kV doc pm an cdv ct):=⟨⟨dV,oc,od,kV,doc,pm,an,cdv,ct,osl,rfl,l,c⟩,k⟩
theorem fun_okF {name qual:Str}{st:Stmt}{f:Addr}{fd:FuncData}{N ps:List Str}{k:Nat}{sp:Sp}(F:Fun K name qual st f fd)(S:FnScope N ps (defScope st))(len:∀vs H Q E,sp vs H Q E→vs.length=ps.length)
  (hbody:∀(cdv:Value) (A:Around) (outer:List Env) (s:Shared) (H:Hp) (vs:List V) (Q:VK) (E:XK),Room k (A.deeper (envOfC qual (defScope st) s.heap.objs.size f cdv))→sp vs H Q E→
   ∃t,PSs (cxr P w K mg base N qual (defScope st) f cdv A outer s H E).nox (defBody st) t∧t {nx:=fun _ H' =>Q .non H',rt:=Q} (start N vs) H):FnOk P w K mg base (CXr P w) (k+1) f fd ps sp:=by
 obtain ⟨oc,od,kV,doc,pm,an,cdv,ct,osl,rfl,lk,hcd⟩:=F.ex
 exact fn_of lk hcd S len fun A outer s H vs Q E hr hsp=>by
  obtain ⟨t,h,q⟩:=hbody cdv A outer s H vs Q E hr hsp
  exact ⟨t,h.nox,q⟩
theorem fun_okFD {name qual:Str}{st:Stmt}{f:Addr}{fd:FuncData}{N ps:List Str}{k:Nat}{sp:Sp}(F:FunD K name qual st f fd)(S:FnScope N ps (defScope st))(len:∀vs H Q E,sp vs H Q E→vs.length=ps.length)
  (hbody:∀(cdv:Value) (A:Around) (outer:List Env) (s:Shared) (H:Hp) (vs:List V) (Q:VK) (E:XK),Room k (A.deeper (envOfC qual (defScope st) s.heap.objs.size f cdv))→sp vs H Q E→
   ∃t,PSs (cxr P w K mg base N qual (defScope st) f cdv A outer s H E).nox (defBody st) t∧t {nx:=fun _ H' =>Q .non H',rt:=Q} (start N vs) H):FnOk P w K mg base (CXr P w) (k+1) f fd ps sp:=by
 obtain ⟨dV,oc,od,kV,doc,pm,an,cdv,ct,osl,rfl,lk,hcd⟩:=F.ex
 exact fn_of lk hcd S len fun A outer s H vs Q E hr hsp=>by
  obtain ⟨t,h,q⟩:=hbody cdv A outer s H vs Q E hr hsp
  exact ⟨t,h.nox,q⟩
end
structure MtdOkD (P:Program)(w:World)(K:Frag)(mg:Str→Option Value)(base:Heap)(CX:CXT)(k:Nat)(C:Addr)(m:Str)(ps:List Str)(ds:List Value)(sp:Sp):Prop where
 ex:∃(f:Addr) (fd:FuncData),Cls K C∧Meth K C m f∧FnOk P w K mg base CX k f fd ps sp∧Binds K fd ps ds
section
variable {X:Cx}{CX:CXT}{k:Nat}{E:XK}{m:Str}{pos apos:Pos}{e o:Expr}{es:List Expr}{ta:TE}{t:TA}
inductive tMtdD_ (P:Program)(w:World)(K:Frag)(mg:Str→Option Value)(base:Heap)(CX:CXT)(k:Nat)(m:Str)(E:XK)(t:TA)(σ:L2.St)(Q:VK)(x:V)(H1:Hp):Prop where
 | mk (a C dx fs ps sp:_) (_:x=.ref a) (_:H1 a=some (.ins C dx fs)) (_:fs.lookup m=none) (_:MtdOkD P w K mg base CX k C m ps [.none] sp) (_:t σ H1 fun vs H2=>sp (x::vs++[.non]) H2 Q E):tMtdD_ P w K mg base CX k m E t σ Q x H1
def tMtdD (P:Program)(w:World)(K:Frag)(mg:Str→Option Value)(base:Heap)(CX:CXT)(k:Nat)(m:Str)(E:XK)(ta:TE)(t:TA):TE:=fun σ H Q=>ta σ H fun x H1=>tMtdD_ P w K mg base CX k m E t σ Q x H1
theorem pe_mtdD {pl:Sem Bool}(he:PE X o ta)(hr:Room k X.A)(hx:Passes CX X E)(ha:PA X (e::es) t)
  (hst:starEach (e::es) X.env=(false,eval e X.env)::starEach es X.env:=by rfl) (hpl:(backTo pos (starEach es X.env)).any (·.1)=false:=by rfl)
  (ht:eval (.Call (.Attribute o m apos) (e::es) [] pos) X.env=(do
   let ov ← eval o X.env
   standAt apos.atName
   let (f,first) ← holding [ov] (getMethod ov m pl)
   callWith pos f first (backTo pos (starEach (e::es) X.env)) (backToKw pos (keywordEach [] X.env))):=by rfl):
  PE X (.Call (.Attribute o m apos) (e::es) [] pos) (tMtdD X.prog X.w X.K X.mg X.base CX k m E ta t):=by
 intro pins s σ H Q I h
 refine PySem.W.methodCall_KW (pl:=pl) (thn (he pins s σ H _ I h) fun u s1 ⟨x,H1,I1,rx,a,C,dx,fs,ps,sp,ex,ea,l,M,q⟩=> ?_) ht
 subst ex
 obtain rfl:u=Value.ref a:=rx
 obtain ⟨f,fd,c,hm,F,hb⟩:=M.ex
 refine getmeth_ok I1 ea c hm l ?_
 refine PySem.W.callWith_K (first:=[.ref a]) (h₀:=X.base) I.ok.mod.kin hm.kp (thn (ha pos pins s1 σ H1 _ I1 q) fun us s2 ⟨vs,H2,I2,r,q2⟩=>⟨I2.kIn,?_⟩) hst hpl
 exact run_fn (us:=.ref a::us) (vs:=.ref a::vs) (dvs:=[.non]) F hr hb (.cons rfl .nil) hx I2 (.cons rfl r) q2
end
theorem valV_none {κ:Type}[DecidableEq κ]{k:κ}:∀{kvs:List (κ×V)},k∉kvs.map (·.1)→valV kvs k=none
 | [],_=>rfl
 | p::r,h=>by
  rw [List.map_cons,List.mem_cons,not_or] at h
  rw [valV_neg (fun e=>h.1 e.symm)]
  exact valV_none h.2
theorem valV_some {κ:Type}[DecidableEq κ]{k:κ}:∀{kvs:List (κ×V)},k∈kvs.map (·.1)→∃v,valV kvs k=some v
 | p::r,h=>by
  by_cases e:p.1=k
  ·exact ⟨_,valV_pos e⟩
  ·rw [valV_neg e]
   rw [List.map_cons,List.mem_cons] at h
   rcases h with h | h
   ·exact absurd h.symm e
   ·exact valV_some h
structure FrC (K:Frag)(C:Addr):Prop where
 cls:Cls K C
 pl:NoAttr K C "pin_places"
 wy:NoAttr K C "pin_ways"
 br:NoAttr K C "bar_ends"
abbrev frF (pP pW pB:Addr):List (Str×V):=[("pin_places",.ref pP),("pin_ways",.ref pW),("bar_ends",.ref pB)]
abbrev Pt:=(Int×Int)×(Int×Int)
abbrev spotD (p:Pt):List Da:=[.t [.v (.int p.1.1),.v (.int p.1.2)],.t [.v (.int p.2.1),.v (.int p.2.2)]]
def SameT (H H' :Hp):Prop:=∀b xs,Rd H b (.tup xs)→Rd H' b (.tup xs)
theorem SameT.of {H H' :Hp}(s:Same H H'):SameT H H' :=fun b xs e=>by
 rcases e with e | ⟨o,e⟩
 ·exact .inl (s _ _ e)
 ·exact .inr ⟨o,s _ _ e⟩
theorem SameT.trans {H H1 H2:Hp}(a:SameT H H1)(b:SameT H1 H2):SameT H H2:=fun c xs e=>b c xs (a c xs e)
theorem SameT.dict {H:Hp}{d:Addr}{kvs:List (Key×V)}{o:HO}(e:H d=some (.dK kvs)):SameT H (upd H d o):=fun b xs r=>by
 rcases r with r | ⟨o,r⟩
 ·exact .inl (by rw [upd_ne (fun z=>by rw [z,e] at r;cases r)];exact r)
 ·exact .inr ⟨o,by rw [upd_ne (fun z=>by rw [z,e] at r;cases r)];exact r⟩
theorem SameT.list {H:Hp}{d:Addr}{xs:List V}{o:HO}(e:H d=some (.lst xs)):SameT H (upd H d o):=fun b xs r=>by
 rcases r with r | ⟨o,r⟩
 ·exact .inl (by rw [upd_ne (fun z=>by rw [z,e] at r;cases r)];exact r)
 ·exact .inr ⟨o,by rw [upd_ne (fun z=>by rw [z,e] at r;cases r)];exact r⟩
theorem SameT.seqT {K:Frag}{H H' :Hp}(s:SameT H H'){p:Addr}{xs:List V}(q:SqT K H p xs):SqT K H' p xs:=by
 rcases q with q | q
 ·exact .inl (s _ _ q)
 ·exact .inr q
theorem NmK.sameT {K:Frag}{H H' :Hp}{v:V}{q:Int×Int}(h:NmK K H v q)(s:SameT H H'):NmK K H' v q:=by
 obtain ⟨p,e,k⟩:=h
 exact ⟨p,e,s.seqT k⟩
def Spot (K:Frag)(H:Hp)(v:V)(p:Pt):Prop:=∃a u1 u2,v=.ref a∧SqT K H a [u1,u2]∧NmK K H u1 p.1∧NmK K H u2 p.2
theorem Spot.sameT {K:Frag}{H H' :Hp}{v:V}{p:Pt}(h:Spot K H v p)(s:SameT H H'):Spot K H' v p:=by
 obtain ⟨a,u1,u2,e,h1,h2,h3⟩:=h
 exact ⟨a,u1,u2,e,s.seqT h1,h2.sameT s,h3.sameT s⟩
theorem is_numF {K:Frag}{H:Hp}{v:V}{q:Int×Int}(h:NmK K H v q):Is K H (.t [.v (.int q.1),.v (.int q.2)]) v:=by
 obtain ⟨p,rfl,e⟩:=h
 unfold Is
 refine ⟨p,_,rfl,e,?_⟩
 unfold Iss
 refine ⟨by unfold Is;exact ⟨rfl,rfl⟩,?_⟩
 unfold Iss
 refine ⟨by unfold Is;exact ⟨rfl,rfl⟩,?_⟩
 unfold Iss
 trivial
theorem Spot.is {K:Frag}{H:Hp}{v:V}{p:Pt}(h:Spot K H v p):Is K H (.t (spotD p)) v:=by
 obtain ⟨a,u1,u2,rfl,h1,h2,h3⟩:=h
 unfold Is
 refine ⟨a,_,rfl,h1,?_⟩
 unfold Iss
 refine ⟨is_numF h2,?_⟩
 unfold Iss
 refine ⟨is_numF h3,?_⟩
 unfold Iss
 trivial
theorem eq_spots (p q:Pt):eqDas (spotD p) (spotD q)=decide (p=q):=by
 have e:eqDas (spotD p) (spotD q)=((p.1.1==q.1.1 && (p.1.2==q.1.2 && true)) && ((p.2.1==q.2.1 && (p.2.2==q.2.2 && true)) && true)):=by
  simp only [spotD,eqDas,eqDa,eqV]
 rw [e]
 obtain ⟨⟨a,b⟩,c,d⟩:=p
 obtain ⟨⟨a',b'⟩,c',d'⟩:=q
 by_cases h:a=a' <;> by_cases h1:b=b' <;> by_cases h2:c=c' <;> by_cases h3:d=d' <;> simp [h,h1,h2,h3,Prod.mk.injEq]
theorem alike_spots (p q:Pt):alikes (spotD p) (spotD q)=true:=by simp [spotD,alikes,alike]
theorem dep_spots (p:Pt):deps (spotD p)≤60:=by simp [spotD,deps,dep]
structure FrR (K:Frag)(H:Hp)(C a dx pP pW pB:Addr)(ps:List (Str×Pt))(bs:List (Str×Str×Str))(kP kW kB:List (Key×V)):Prop where
 obj:H a=some (.ins C dx (frF pP pW pB))
 pl:H pP=some (.dK kP)
 wy:H pW=some (.dK kW)
 br:H pB=some (.dK kB)
 ne1:pP≠pW
 ne2:pP≠pB
 ne3:pW≠pB
 rp:Paired (fun (p:Str×Pt) (kv:Key×V)=>kv.1=.inr p.1∧Spot K H kv.2 p.2) ps kP
 rb:Paired (fun (b:Str×Str×Str) (kv:Key×V)=>kv.1=.inr b.1∧∃p,kv.2=.ref p∧Rd H p (.tup [.str b.2.1,.str b.2.2])) bs kB
section
variable {K:Frag}{H H' :Hp}{C a dx pP pW pB:Addr}{ps:List (Str×Pt)}{bs:List (Str×Str×Str)}{kP kW kB:List (Key×V)}
theorem paired_keys {α:Type}{R:(Str×α)→(Key×V)→Prop}:∀{l:List (Str×α)} {kvs:List (Key×V)},Paired (fun b kv=>kv.1=.inr b.1∧R b kv) l kvs→kvs.map (·.1)=l.map (fun b=>(Sum.inr b.1:Key))
 | _,_,.nil=>rfl
 | _,_,.cons h t=>by rw [List.map_cons,List.map_cons,h.1,paired_keys t]
theorem key_mem {l:List Str}{x:Str}:(Sum.inr x:Key)∈l.map (fun b=>(Sum.inr b:Key)) ↔ x∈l:=by
 constructor
 ·intro h
  obtain ⟨y,hy,e⟩:=List.mem_map.mp h
  exact Sum.inr.inj e▸hy
 ·exact fun h=>List.mem_map.mpr ⟨x,h,rfl⟩
theorem FrR.sameT_of (R:FrR K H C a dx pP pW pB ps bs kP kW kB)(s:SameT H H')(h1:H' a=H a)(h2:H' pP=H pP)(h3:H' pW=H pW)(h4:H' pB=H pB):FrR K H' C a dx pP pW pB ps bs kP kW kB:=
 ⟨h1.trans R.obj,h2.trans R.pl,h3.trans R.wy,h4.trans R.br,R.ne1,R.ne2,R.ne3,Paired.mapP R.rp fun _ _ h=>⟨h.1,h.2.sameT s⟩,Paired.mapP R.rb fun _ _ h=>⟨h.1,by obtain ⟨p,e,k⟩:=h.2;exact ⟨p,e,s _ _ k⟩⟩⟩
theorem FrR.same (R:FrR K H C a dx pP pW pB ps bs kP kW kB)(s:Same H H'):FrR K H' C a dx pP pW pB ps bs kP kW kB:=
 R.sameT_of (.of s) ((s _ _ R.obj).trans R.obj.symm) ((s _ _ R.pl).trans R.pl.symm) ((s _ _ R.wy).trans R.wy.symm) ((s _ _ R.br).trans R.br.symm)
theorem FrR.keysB (R:FrR K H C a dx pP pW pB ps bs kP kW kB):kB.map (·.1)=(bs.map (·.1)).map (fun b=>(Sum.inr b:Key)):=by
 rw [paired_keys R.rb,List.map_map]
 rfl
theorem FrR.keysP (R:FrR K H C a dx pP pW pB ps bs kP kW kB):kP.map (·.1)=(ps.map (·.1)).map (fun b=>(Sum.inr b:Key)):=by
 rw [paired_keys R.rp,List.map_map]
 rfl
theorem FrR.bar (R:FrR K H C a dx pP pW pB ps bs kP kW kB)(x:Str):(valV kB (.inr x)).isSome=decide (x∈bs.map (·.1)):=by
 by_cases h:x∈bs.map (·.1)
 ·obtain ⟨v,e⟩:=valV_some (kvs:=kB) (k:=.inr x) (by rw [R.keysB];exact key_mem.mpr h)
  rw [e,decide_eq_true h]
  rfl
 ·rw [valV_none (by rw [R.keysB];exact fun z=>h (key_mem.mp z)),decide_eq_false h]
  rfl
theorem FrR.pin (R:FrR K H C a dx pP pW pB ps bs kP kW kB)(x:Str):(valV kP (.inr x)).isSome=decide (x∈ps.map (·.1)):=by
 by_cases h:x∈ps.map (·.1)
 ·obtain ⟨v,e⟩:=valV_some (kvs:=kP) (k:=.inr x) (by rw [R.keysP];exact key_mem.mpr h)
  rw [e,decide_eq_true h]
  rfl
 ·rw [valV_none (by rw [R.keysP];exact fun z=>h (key_mem.mp z)),decide_eq_false h]
  rfl
theorem FrR.ab (R:FrR K H C a dx pP pW pB ps bs kP kW kB):a≠pP∧a≠pW∧a≠pB:=
 ⟨fun z=>(by have h:=R.obj;rw [z,R.pl] at h;cases h),fun z=>(by have h:=R.obj;rw [z,R.wy] at h;cases h),fun z=>(by have h:=R.obj;rw [z,R.br] at h;cases h)⟩
theorem FrR.putBar (R:FrR K H C a dx pP pW pB ps bs kP kW kB){x one other:Str}{t:Addr}(ht:Rd H t (.tup [.str one,.str other])):
  FrR K (upd H pB (.dK (kB++[(.inr x,.ref t)]))) C a dx pP pW pB ps (bs++[(x,one,other)]) kP kW (kB++[(.inr x,.ref t)]):=by
 have s:SameT H (upd H pB (.dK (kB++[(.inr x,.ref t)]))):=.dict R.br
 exact ⟨by rw [upd_ne R.ab.2.2];exact R.obj,by rw [upd_ne R.ne2];exact R.pl,by rw [upd_ne R.ne3];exact R.wy,upd_same,R.ne1,R.ne2,R.ne3,Paired.mapP R.rp fun _ _ h=>⟨h.1,h.2.sameT s⟩,
  Paired.snoc (Paired.mapP R.rb fun _ _ h=>⟨h.1,by obtain ⟨p,e,k⟩:=h.2;exact ⟨p,e,s _ _ k⟩⟩) ⟨rfl,t,rfl,s _ _ ht⟩⟩
theorem paired_flip {α β:Type}{R:α→β→Prop}:∀{l:List α} {m:List β},Paired R l m→Paired (fun b a=>R a b) m l
 | _,_,.nil=>.nil
 | _,_,.cons h t=>.cons h (paired_flip t)
theorem FrR.putPin (R:FrR K H C a dx pP pW pB ps bs kP kW kB){x:Str}{p:Pt}{t:Addr}(ht:Spot K H (.ref t) p):
  FrR K (upd H pP (.dK (kP++[(.inr x,.ref t)]))) C a dx pP pW pB (ps++[(x,p)]) bs (kP++[(.inr x,.ref t)]) kW kB:=by
 have s:SameT H (upd H pP (.dK (kP++[(.inr x,.ref t)]))):=.dict R.pl
 exact ⟨by rw [upd_ne R.ab.1];exact R.obj,upd_same,by rw [upd_ne (Ne.symm R.ne1)];exact R.wy,by rw [upd_ne (Ne.symm R.ne2)];exact R.br,R.ne1,R.ne2,R.ne3,
  Paired.snoc (Paired.mapP R.rp fun _ _ h=>⟨h.1,h.2.sameT s⟩) ⟨rfl,ht.sameT s⟩,Paired.mapP R.rb fun _ _ h=>⟨h.1,by obtain ⟨p,e,k⟩:=h.2;exact ⟨p,e,s _ _ k⟩⟩⟩
theorem FrR.putWays (R:FrR K H C a dx pP pW pB ps bs kP kW kB)(kW' :List (Key×V)):FrR K (upd H pW (.dK kW')) C a dx pP pW pB ps bs kP kW' kB:=by
 have s:SameT H (upd H pW (.dK kW')):=.dict R.wy
 exact ⟨by rw [upd_ne R.ab.2.1];exact R.obj,by rw [upd_ne R.ne1];exact R.pl,upd_same,by rw [upd_ne (Ne.symm R.ne3)];exact R.br,R.ne1,R.ne2,R.ne3,
  Paired.mapP R.rp fun _ _ h=>⟨h.1,h.2.sameT s⟩,Paired.mapP R.rb fun _ _ h=>⟨h.1,by obtain ⟨p,e,k⟩:=h.2;exact ⟨p,e,s _ _ k⟩⟩⟩
theorem flat_strs (xs:List Str):(xs.map V.str).all flatV=true:=by
 rw [List.all_map,List.all_eq_true]
 exact fun _ _=>rfl
theorem inV_strs {x:Str}:∀(xs:List Str),inV (.str x) (xs.map V.str)=decide (x∈xs)
 | []=>rfl
 | y::ys=>by
  have ih:=inV_strs (x:=x) ys
  unfold inV at ih ⊢
  rw [List.map_cons,List.any_cons,ih]
  by_cases e:y=x
  ·subst e
   simp [eqV]
  ·have e' :¬ x=y:=fun z=>e z.symm
   simp [eqV,e,e']
end
end Ty
set_option maxHeartbeats 4000000
namespace Ty
open PySem PySem.Spec PyProof.Rows L2
open Builtin.Int (intBits)
def qr (r:Rat):Int×Int:=(r.num,(r.den:Int))
theorem qr_pos (r:Rat):0 < (qr r).2:=by
 have:=r.den_pos
 show (0:Int) < (r.den:Int)
 omega
theorem qr_gcd (r:Rat):Int.gcd (qr r).1 (qr r).2=1:=by
 have:=r.reduced
 show Int.gcd r.num (r.den:Int)=1
 unfold Int.gcd
 simpa [Nat.Coprime] using this
theorem vl_qr (r:Rat):vl (qr r)=r:=by
 show (r.num:Rat) / ((r.den:Int):Rat)=r
 rw [← Rat.divInt_eq_div]
 exact Rat.num_divInt_den r
theorem qr_of {q:Int×Int}(h:0 < q.2)(g:Int.gcd q.1 q.2=1):q=qr (vl q):=vl_inj h (qr_pos _) g (qr_gcd _) (vl_qr _).symm
theorem low_qr {t b:Int}(h:b≠0):low t b=qr ((t:Rat) / (b:Rat)):=by
 rw [← vl_low h]
 exact qr_of (low_pos h) (low_gcd h)
theorem qr_inj {a b:Rat}(h:qr a=qr b):a=b:=by
 rw [← vl_qr a, ← vl_qr b,h]
theorem qr_int (i:Int):qr (i:Rat)=(i,1):=by
 have e:(i,(1:Int))=qr (vl (i,1)):=qr_of (by show (0:Int) < 1;decide) (by show Int.gcd i 1=1;simp)
 have v:vl (i,(1:Int))=(i:Rat):=by
  unfold vl
  show (i:Rat) / ((1:Int):Rat)=i
  have:((1:Int):Rat)=1:=by rfl
  rw [this]
  grind
 rw [e,v]
theorem ratz {r:Rat}:((qr r).2:Rat)≠0:=ratne (Int.ne_of_gt (qr_pos r))
theorem qr_add (a b:Rat):low ((qr a).1*(qr b).2+(qr b).1*(qr a).2) ((qr a).2*(qr b).2)=qr (a+b):=by
 have ha:=qr_pos a
 have hb:=qr_pos b
 rw [low_qr (Int.ne_of_gt (Int.mul_pos ha hb))]
 have e1:=vl_qr a
 have e2:=vl_qr b
 have z1:=ratz (r:=a)
 have z2:=ratz (r:=b)
 unfold vl at e1 e2
 congr 1
 push_cast
 grind
theorem qr_sub (a b:Rat):low ((qr a).1*(qr b).2 - (qr b).1*(qr a).2) ((qr a).2*(qr b).2)=qr (a - b):=by
 have ha:=qr_pos a
 have hb:=qr_pos b
 rw [low_qr (Int.ne_of_gt (Int.mul_pos ha hb))]
 have e1:=vl_qr a
 have e2:=vl_qr b
 have z1:=ratz (r:=a)
 have z2:=ratz (r:=b)
 unfold vl at e1 e2
 congr 1
 push_cast
 grind
structure Sz (k:Nat)(r:Rat):Prop where
 top:intBits (qr r).1≤k
 bot:intBits (qr r).2≤k
theorem Sz.up {k l:Nat}{r:Rat}(h:Sz k r)(kl:k≤l):Sz l r:=⟨Nat.le_trans h.top kl,Nat.le_trans h.bot kl⟩
theorem bits_addF {a b:Int}{k:Nat}(ha:intBits a≤k)(hb:intBits b≤k):intBits (a+b)≤k+1:=by
 rw [intBits_le_iff] at ha hb ⊢
 have:=Int.natAbs_add_le a b
 rw [Nat.pow_succ]
 omega
theorem bits_subF {a b:Int}{k:Nat}(ha:intBits a≤k)(hb:intBits b≤k):intBits (a - b)≤k+1:=by
 rw [intBits_le_iff] at ha hb ⊢
 have:=Int.natAbs_sub_le a b
 rw [Nat.pow_succ]
 omega
theorem sz_low {t b:Int}{k:Nat}(hb:b≠0)(h1:intBits t≤k)(h2:intBits b≤k):Sz k ((t:Rat) / (b:Rat)):=by
 rw [← vl_low hb]
 have e:=qr_of (low_pos (t:=t) hb) (low_gcd hb)
 exact ⟨by rw [← e];exact intBits_le_of_natAbs (low_top_le hb) h1,by rw [← e];exact intBits_le_of_natAbs (low_bot_le hb) h2⟩
theorem sz_of {t b:Int}{k:Nat}{r:Rat}(hb:b≠0)(e:low t b=qr r)(h1:intBits t≤k)(h2:intBits b≤k):Sz k r:=by
 have z:=low_qr (t:=t) hb
 rw [z] at e
 have:=qr_inj e
 rw [← this]
 exact sz_low hb h1 h2
theorem Sz.add {k l:Nat}{a b:Rat}(ha:Sz k a)(hb:Sz l b):Sz (k+l+1) (a+b):=
 sz_of (Int.ne_of_gt (Int.mul_pos (qr_pos a) (qr_pos b))) (qr_add a b) (bits_addF (intBits_mul_le ha.top hb.bot) (by rw [Nat.add_comm];exact intBits_mul_le hb.top ha.bot)) (Nat.le_succ_of_le (intBits_mul_le ha.bot hb.bot))
theorem Sz.sub {k l:Nat}{a b:Rat}(ha:Sz k a)(hb:Sz l b):Sz (k+l+1) (a - b):=
 sz_of (Int.ne_of_gt (Int.mul_pos (qr_pos a) (qr_pos b))) (qr_sub a b) (bits_subF (intBits_mul_le ha.top hb.bot) (by rw [Nat.add_comm];exact intBits_mul_le hb.top ha.bot)) (Nat.le_succ_of_le (intBits_mul_le ha.bot hb.bot))
theorem sz_int {i:Int}{k:Nat}(h:i.natAbs < 2^k)(hk:1≤k):Sz k (i:Rat):=by
 refine ⟨?_,?_⟩
 ·rw [qr_int]
  exact intBits_le_iff.mpr h
 ·rw [qr_int]
  refine intBits_le_iff.mpr ?_
  show 1 < 2^k
  exact Nat.one_lt_two_pow (by omega)
def NmR (K:Frag)(H:Hp)(v:V)(r:Rat):Prop:=NmK K H v (qr r)
def PtR (K:Frag)(H:Hp)(v:V)(p:Rat×Rat):Prop:=∃a u1 u2,v=.ref a∧SqT K H a [u1,u2]∧NmR K H u1 p.1∧NmR K H u2 p.2
section
variable {K:Frag}{H H' :Hp}{v:V}{r:Rat}{p:Rat×Rat}
theorem NmR.sameT (h:NmR K H v r)(s:SameT H H'):NmR K H' v r:=NmK.sameT h s
theorem NmR.same (h:NmR K H v r)(s:Same H H'):NmR K H' v r:=NmK.same h s
theorem PtR.sameT (h:PtR K H v p)(s:SameT H H'):PtR K H' v p:=by
 obtain ⟨a,u1,u2,e,h1,h2,h3⟩:=h
 exact ⟨a,u1,u2,e,s.seqT h1,h2.sameT s,h3.sameT s⟩
theorem PtR.same (h:PtR K H v p)(s:Same H H'):PtR K H' v p:=h.sameT (.of s)
abbrev ptQ (p:Rat×Rat):Pt:=(qr p.1,qr p.2)
theorem PtR.spot (h:PtR K H v p):Spot K H v (ptQ p):=h
def PtsR (K:Frag)(H:Hp)(us:List V)(ps:List (Rat×Rat)):Prop:=Paired (PtR K H) us ps
theorem PtsR.sameT {us:List V}{ps:List (Rat×Rat)}(h:PtsR K H us ps)(s:SameT H H'):PtsR K H' us ps:=Paired.mapP h fun _ _ z=>z.sameT s
theorem PtsR.same {us:List V}{ps:List (Rat×Rat)}(h:PtsR K H us ps)(s:Same H H'):PtsR K H' us ps:=h.sameT (.of s)
end
section
variable {X:Cx}
theorem ptR_inj {pins:List (Addr×Obj)}{σ:L2.St}{H:Hp}{s:Shared}{v:V}{p q:Rat×Rat}(I:Inv X pins σ H s)(h1:PtR X.K H v p)(h2:PtR X.K H v q):p=q:=by
 obtain ⟨a,u1,u2,rfl,t1,⟨b1,rfl,n1⟩,b2,rfl,n2⟩:=h1
 obtain ⟨a',w1,w2,e,t2,⟨c1,rfl,m1⟩,c2,rfl,m2⟩:=h2
 cases e
 cases I.tuple_inj t1 t2
 have e1:=I.tuple_inj n1 m1
 have e2:=I.tuple_inj n2 m2
 simp only [List.cons.injEq,V.int.injEq,and_true] at e1 e2
 exact Prod.ext (qr_inj (Prod.ext e1.1 e1.2)) (qr_inj (Prod.ext e2.1 e2.2))
def rInPt (K:Frag)(neg:Bool):R2:=fun x y H Q=>∃p l us ps,y=.ref l∧SqL K H l us∧PtR K H x p∧PtsR K H us ps∧Q (.bl (if neg then !decide (p∈ps) else decide (p∈ps))) H
theorem in_pt {pins:List (Addr×Obj)}{σ:L2.St}{H:Hp}{s:Shared}{A:Around}{x:V}{v:Value}{p:Rat×Rat}{us:List V}{its:List Value}{ps:List (Rat×Rat)}(I:Inv X pins σ H s)(hu:A.units+60 < cLine)(hx:PtR X.K H x p)(rx:RelV x v)(hp:PtsR X.K H us ps)(rv:Vals us its):
  ∃e:Value→Bool,(∀y,y∈its.toArray→SeqAt.EqAt A s y v (e y))∧its.toArray.any e=decide (p∈ps):=by
 have key:∀(j:Nat) (y:Value),its[j]? =some y→∃u q,us[j]? =some u∧ps[j]? =some q∧RelV u y∧PtR X.K H u q:=fun j y ey=>by
  obtain ⟨u,eu,ru⟩:=paired_get (paired_flip rv) ey
  obtain ⟨q,eq,hq⟩:=paired_get hp eu
  exact ⟨u,q,eu,eq,ru,hq⟩
 refine ⟨fun y=> @decide (∃u q,RelV u y∧PtR X.K H u q∧q=p) (Classical.propDecidable _),fun y hy=> ?_,?_⟩
 ·obtain ⟨j,hj,ey⟩:=List.mem_iff_getElem.mp (by simpa using hy:y∈its)
  obtain ⟨u,q,eu,eq,ru,hq⟩:=key j y (by rw [gE hj,ey])
  have z:=eqAt_da (A:=A) I (.t (spotD (ptQ q))) (.t (spotD (ptQ p))) u x y v hq.spot.is hx.spot.is (by unfold alike;exact alike_spots _ _) ru rx (by have:=dep_spots (ptQ q);unfold dep;simp only [spotD,deps,dep] at this ⊢;omega)
  have e:eqDa (.t (spotD (ptQ q))) (.t (spotD (ptQ p)))= @decide (∃u q,RelV u y∧PtR X.K H u q∧q=p) (Classical.propDecidable _):=by
   unfold eqDa
   rw [eq_spots]
   by_cases c:q=p
   ·subst c
    rw [decide_eq_true rfl]
    symm
    exact @decide_eq_true _ (Classical.propDecidable _) ⟨u,q,ru,hq,rfl⟩
   ·rw [decide_eq_false (fun z=>c (Prod.ext (qr_inj (congrArg Prod.fst z)) (qr_inj (congrArg Prod.snd z))))]
    symm
    refine @decide_eq_false _ (Classical.propDecidable _) fun ⟨u',q',ru',hq',e'⟩=> ?_
    obtain ⟨a,_,_,rfl,_⟩:=id hq
    obtain ⟨a',_,_,rfl,_⟩:=id hq'
    have r1:y=Value.ref a:=ru
    have r2:y=Value.ref a' :=ru'
    rw [r1] at r2
    cases r2
    exact c ((ptR_inj I hq hq').trans e')
  rw [e] at z
  exact z
 ·rw [Bool.eq_iff_iff,decide_eq_true_iff]
  simp only [List.any_toArray,List.any_eq_true]
  constructor
  ·rintro ⟨y,hy,ey⟩
   obtain ⟨j,hj,ej⟩:=List.mem_iff_getElem.mp hy
   obtain ⟨u,q,eu,eq,ru,hq⟩:=key j y (by rw [gE hj,ej])
   obtain ⟨u',q',ru',hq',e'⟩:= @of_decide_eq_true _ (Classical.propDecidable _) ey
   obtain ⟨a,_,_,rfl,_⟩:=id hq
   obtain ⟨a',_,_,rfl,_⟩:=id hq'
   have r1:y=Value.ref a:=ru
   have r2:y=Value.ref a' :=ru'
   rw [r1] at r2
   cases r2
   rw [← e', ← ptR_inj I hq hq']
   exact List.mem_of_getElem? eq
  ·intro hm
   obtain ⟨j,hj,ej⟩:=List.mem_iff_getElem.mp hm
   have lu:us.length=ps.length:=Paired.length hp
   have li:us.length=its.length:=rv.length
   have hj' :j < its.length:=by omega
   refine ⟨its[j],List.getElem_mem hj',?_⟩
   obtain ⟨u,q,eu,eq,ru,hq⟩:=key j its[j] (gE hj')
   rw [gE hj,ej] at eq
   cases eq
   exact @decide_eq_true _ (Classical.propDecidable _) ⟨u,p,ru,hq,rfl⟩
theorem op_inPt (hu:X.A.units+64 < cLine):OpR X (compareOp .In) (rInPt X.K false):=by
 intro pins s σ H x y v u Q I rx ry h
 obtain ⟨p,l,us,ps,rfl,hq,hx,hp,q⟩:=h
 cases ry
 obtain ⟨its,rv,pl,hz⟩:=I.list hq
 obtain ⟨e,he,ea⟩:=in_pt (A:=X.A.in1) I (by rw [in1_units];omega) hx rx hp rv
 refine SeqAt.in_listAt e pl.isList he ⟨.bl _,H,I,rfl,?_⟩
 rw [ea]
 exact q
end
end Ty
set_option maxHeartbeats 4000000
namespace Ty
open PySem PySem.Spec PyProof.Rows L2
theorem paired_val {α:Type}{R:(Str×α)→(Key×V)→Prop}{x:Str}{y:α}:∀{l:List (Str×α)} {kvs:List (Key×V)},Paired (fun b kv=>kv.1=.inr b.1∧R b kv) l kvs→(l.map (·.1)).Nodup→(x,y)∈l→∃v,valV kvs (.inr x)=some v∧R (x,y) (.inr x,v)
 | _::_,kv::_,.cons h t,nd,m=>by
  rw [List.map_cons,List.nodup_cons] at nd
  rcases List.mem_cons.mp m with e | m
  ·subst e
   have h1:kv.1=.inr x:=h.1
   refine ⟨kv.2,valV_pos h1,?_⟩
   have h2:=h.2
   rw [← h1]
   exact h2
  ·obtain ⟨v,e,r⟩:=paired_val t nd.2 m
   refine ⟨v,?_,r⟩
   rw [valV_neg (fun z=> ?_)]
   ·exact e
   ·rw [h.1] at z
    exact nd.1 (Sum.inr.inj z▸List.mem_map.mpr ⟨_,m,rfl⟩)
def WyR (K:Frag)(H:Hp)(pw:List (Str×List (Rat×Rat)))(kW:List (Key×V)):Prop:=
 Paired (fun (p:Str×List (Rat×Rat)) (kv:Key×V)=>kv.1=.inr p.1∧∃l us,kv.2=.ref l∧H l=some (.lst us)∧PtsR K H us p.2) pw kW
theorem WyR.same {K:Frag}{H H' :Hp}{pw:List (Str×List (Rat×Rat))}{kW:List (Key×V)}(h:WyR K H pw kW)(s:Same H H'):WyR K H' pw kW:=
 Paired.mapP h fun _ _ z=>⟨z.1,by obtain ⟨l,us,e1,e2,e3⟩:=z.2;exact ⟨l,us,e1,s _ _ e2,e3.same s⟩⟩
theorem WyR.dict {K:Frag}{H:Hp}{pw:List (Str×List (Rat×Rat))}{kW kvs:List (Key×V)}{d:Addr}{o:HO}(h:WyR K H pw kW)(e:H d=some (.dK kvs)):WyR K (upd H d o) pw kW:=
 Paired.mapP h fun _ _ z=>⟨z.1,by
  obtain ⟨l,us,e1,e2,e3⟩:=z.2
  exact ⟨l,us,e1,by rw [upd_ne (fun q=>by rw [q,e] at e2;cases e2)];exact e2,e3.sameT (.dict e)⟩⟩
theorem WyR.keys {K:Frag}{H:Hp}{pw:List (Str×List (Rat×Rat))}{kW:List (Key×V)}(h:WyR K H pw kW):kW.map (·.1)=(pw.map (·.1)).map (fun b=>(Sum.inr b:Key)):=by
 rw [paired_keys h,List.map_map]
 rfl
theorem FrR.ends {K:Frag}{H:Hp}{C a dx pP pW pB:Addr}{ps:List (Str×Pt)}{bs:List (Str×Str×Str)}{kP kW kB:List (Key×V)}(R:FrR K H C a dx pP pW pB ps bs kP kW kB)(nd:(bs.map (·.1)).Nodup){x one other:Str}(m:(x,one,other)∈bs):
  ∃p,valV kB (.inr x)=some (.ref p)∧Rd H p (.tup [.str one,.str other]):=by
 obtain ⟨v,e,p,ep,r⟩:=paired_val R.rb nd m
 have ep' :v=.ref p:=ep
 exact ⟨p,by rw [e,ep'],r⟩
theorem FrR.place {K:Frag}{H:Hp}{C a dx pP pW pB:Addr}{ps:List (Str×Pt)}{bs:List (Str×Str×Str)}{kP kW kB:List (Key×V)}(R:FrR K H C a dx pP pW pB ps bs kP kW kB)(nd:(ps.map (·.1)).Nodup){x:Str}{p:Pt}(m:(x,p)∈ps):
  ∃v,valV kP (.inr x)=some v∧Spot K H v p:=paired_val R.rp nd m
end Ty
namespace Ty
open PySem PySem.Spec PyProof.Rows L2
structure PinD where
 nm:Str
 sp:Rat×Rat
 ws:List (Rat×Rat)
structure BarD where
 nm:Str
 one:PinD
 other:PinD
structure FrA (K:Frag)(H:Hp)(C a:Addr)(pins:List PinD)(bars:List BarD):Prop where
 ex:∃(dx pP pW pB:Addr) (kP kW kB:List (Key×V)),FrR K H C a dx pP pW pB (pins.map fun p=>(p.nm,ptQ p.sp)) (bars.map fun b=>(b.nm,b.one.nm,b.other.nm)) kP kW kB∧WyR K H (pins.map fun p=>(p.nm,p.ws)) kW
structure GoodF (pins:List PinD)(bars:List BarD):Prop where
 np:(pins.map (·.nm)).Nodup
 nb:(bars.map (·.nm)).Nodup
 ends:∀b∈bars,b.one∈pins∧b.other∈pins∧b.one.nm≠b.other.nm
 sz:∀p∈pins,Sz 24 p.sp.1∧Sz 24 p.sp.2∧∀w∈p.ws,Sz 22 w.1∧Sz 22 w.2
 lp:pins.length≤7
 lb:bars.length≤8
 lw:∀p∈pins,p.ws.length≤2
theorem FrA.same {K:Frag}{H H' :Hp}{C a:Addr}{pins:List PinD}{bars:List BarD}(h:FrA K H C a pins bars)(s:Same H H'):FrA K H' C a pins bars:=by
 obtain ⟨dx,pP,pW,pB,kP,kW,kB,R,W⟩:=h.ex
 exact ⟨dx,pP,pW,pB,kP,kW,kB,R.same s,W.same s⟩
def PtD (K:Frag)(H:Hp)(kvs:List (Key×V))(F:Str→Option (Rat×Rat)):Prop:=
 ∀nm,(valV kvs (.inr nm)=none∧F nm=none)∨∃v p,valV kvs (.inr nm)=some v∧F nm=some p∧PtR K H v p
section
variable {K:Frag}{H H' :Hp}{kvs:List (Key×V)}
theorem PtD.same {F:Str→Option (Rat×Rat)}(h:PtD K H kvs F)(s:Same H H'):PtD K H' kvs F:=fun nm=>by
 rcases h nm with h | ⟨v,q,h1,h2,h3⟩
 ·exact .inl h
 ·exact .inr ⟨v,q,h1,h2,h3.same s⟩
theorem PtD.dget {F:Str→Option (Rat×Rat)}(h:PtD K H kvs F){x:Str}{v:V}{q:Rat×Rat}(n:PtR K H v q):PtR K H ((valV kvs (.inr x)).getD v) ((F x).getD q):=by
 rcases h x with ⟨h1,h2⟩ | ⟨u,q',h1,h2,h3⟩
 ·rw [h1,h2]
  exact n
 ·rw [h1,h2]
  exact h3
end
end Ty
namespace Ty
open PySem PySem.Spec PyProof.Rows L2
end Ty
namespace Ty
open PySem PySem.Spec PyProof.Rows L2
theorem nm_inj {α:Type}{nm:α→Str}{l:List α}(nd:(l.map nm).Nodup){b b' :α}(h:b∈l)(h' :b' ∈l)(e:nm b=nm b'):b=b' :=by
 obtain ⟨i,hi,ei⟩:=List.mem_iff_getElem.mp h
 obtain ⟨j,hj,ej⟩:=List.mem_iff_getElem.mp h'
 have q1:(l.map nm)[i]? =some (nm b):=by rw [List.getElem?_map,gE hi,ei];rfl
 have q2:(l.map nm)[j]? =some (nm b):=by rw [List.getElem?_map,gE hj,ej,e];rfl
 have ij:=(List.getElem?_inj (by rw [List.length_map];exact hi) nd).mp (q1.trans q2.symm)
 subst ij
 rw [← ei, ← ej]
theorem take_new {α:Type}{nm:α→Str}{l:List α}(nd:(l.map nm).Nodup){i:Nat}{b b' :α}(h:l[i]? =some b)(m:b' ∈l.take i):nm b' ≠nm b:=fun e=>by
 have il:=(List.getElem?_eq_some_iff.mp h).1
 obtain ⟨j,hj,ej⟩:=List.mem_iff_getElem.mp m
 rw [List.getElem_take] at ej
 rw [List.length_take] at hj
 have q1:(l.map nm)[j]? =some (nm b):=by rw [List.getElem?_map,gE (by omega),ej, ← e];rfl
 have q2:(l.map nm)[i]? =some (nm b):=by rw [List.getElem?_map,h];rfl
 have:=(List.getElem?_inj (by rw [List.length_map];omega) nd).mp (q1.trans q2.symm)
 omega
theorem take_snoc {α:Type}{l:List α}{i:Nat}{b:α}(h:l[i]? =some b):l.take (i+1)=l.take i++[b]:=by rw [List.take_add_one,h];rfl
end Ty
namespace Ty
open PySem PySem.Spec PyProof.Rows L2
theorem valV_at' {κ:Type}[DecidableEq κ]:∀{kvs:List (κ×V)} {t:Nat} {k:κ} {y:V},(kvs.map (·.1)).Nodup→kvs[t]? =some (k,y)→valV kvs k=some y
 | p::r,0,k,y,nd,e=>by
  cases e
  exact valV_pos rfl
 | p::r,t+1,k,y,nd,e=>by
  rw [List.map_cons,List.nodup_cons] at nd
  have e' :r[t]? =some (k,y):=e
  rw [valV_neg (fun z=>nd.1 (z▸List.mem_map.mpr ⟨_,List.mem_of_getElem? e',rfl⟩))]
  exact valV_at' nd.2 e'
theorem nodup_inr {xs:List Str}(h:xs.Nodup):(xs.map fun x=>(Sum.inr x:Key)).Nodup:=by
 unfold List.Nodup
 rw [List.pairwise_map]
 exact List.Pairwise.imp (fun h e=>h (Sum.inr.inj e)) h
end Ty
set_option maxHeartbeats 4000000
namespace Ty
open PySem PySem.Spec PyProof.Rows L2
theorem none_back {H H' :Hp}(s:Same H H'){p:Addr}(n:H' p=none):H p=none:=by
 cases e:H p with
 | none=>rfl
 | some o=>rw [s _ _ e] at n;cases n
end Ty
namespace Ty
open PySem PySem.Spec PyProof.Rows L2
section
variable {X:Cx}
end
section
variable {D:Addr}{te:TE}{cap:L2.St}{H1:Hp}{Q:VK}
end
end Ty
set_option maxHeartbeats 4000000
namespace Ty
open PySem PySem.Spec PyProof.Rows L2
abbrev IsZipB (h:Heap)(z TI TO:Addr)(f0:Value)(fb:Bool):Prop:=
 h.get? z=some {cls:=.type "zip",dict:=none,data:=.fields #[f0,.bool fb,.bool false,.ref TI,.ref TO],slots:= #[]}
section
variable {prog:Program}{w:World}{A:Around}{E:Value→Shared→Prop}{s:Shared}
theorem wpAny_alive {a:Addr}{o:Obj}{Q:Option Obj→Shared→Prop}(h:s.heap.get? a=some o)(q:Q (some o) s):wpAny (model prog w) A (loadIfAlive a) Q E s:=fun Γ p _=>by
 show Sem.wp _ _ (.loadIfAlive a .pure) _ _ _ _
 rw [Sem.wp_loadIfAlive,h]
 exact q
theorem not_free {z TI TO T:Addr}{fb:Bool}{o:Obj}{Q:Bool→Shared→Prop}(hz:IsZipB s.heap z TI TO (rawInt T) fb)(hT:s.heap.get? T=some o)
  (hQ:∀h',IsZipB h' z TI TO (rawInt T) true→Heap.SameBut z s.heap h' →Q false {s with heap:=h' }):wpAny (model prog w) A (Builtin.SmallTypes.ownedTupleIsFree (.ref z)) Q E s:=by
 unfold Builtin.SmallTypes.ownedTupleIsFree
 refine wpAny_bind (wpAny_field hz rfl (x:=rawInt T) rfl ?_)
 show wpAny _ _ (loadIfAlive ((T:Int)).toNat >>=_) _ _ _
 refine wpAny_bind (wpAny_alive (o:=o) (by simpa using hT) ?_)
 simp only [Option.isNone_some,Bool.false_eq_true,if_false]
 refine wpAny_bind (wpAny_field hz rfl (x:=.bool fb) rfl ?_)
 cases fb with
 | true=>
  show wpAny _ _ (if (Value.bool true !=Value.bool true)=true then _ else _) _ _ _
  rw [if_neg (by decide)]
  exact wpAny_pure (hQ s.heap hz ⟨rfl,fun _ _=>rfl⟩)
 | false=>
  show wpAny _ _ (if (Value.bool false !=Value.bool true)=true then _ else _) _ _ _
  rw [if_pos (by decide)]
  refine wpAny_bind (wpAny_setField_rec hz (by simp) fun h' hz' hs' =>wpAny_pure (hQ h' hz' hs'))
theorem zip_item2 {z TI TO T i1 i2 l1 l2:Addr}{fb:Bool}{o:Obj}{k1 k2:Nat}{xs ys:Array Value}{x y:Value}{Q:Value→Shared→Prop}(D:ZipApart z TI TO i1 i2 l1 l2)
  (hz:IsZipB s.heap z TI TO (rawInt T) fb) (hT:s.heap.get? T=some o) (hTI:IsPair s.heap TI (.ref i1) (.ref i2))
  (h1:s.heap.IsListIter i1 l1 k1) (h2:s.heap.IsListIter i2 l2 k2) (hl1:s.heap.IsList l1 xs) (hl2:s.heap.IsList l2 ys) (hx:xs[k1]? =some x) (hy:ys[k2]? =some y)
  (hQ:∀h',IsZipB h' z TI TO (rawInt T) true→h'.IsListIter i1 l1 (k1+1)→h'.IsListIter i2 l2 (k2+1)→IsPair h' s.heap.objs.size x y→h'.objs.size=s.heap.objs.size+1→
   (∀c o,c≠z→c≠i1→c≠i2→s.heap.get? c=some o→h'.get? c=some o)→Q (.ref s.heap.objs.size) {s with heap:=h' }):
  wpAny (model prog w) A (Builtin.«zip.__next__» ⟨[.ref z],[]⟩) (fun fin s' =>∃v,fin=.done (.ret v)∧Q v s') E s:=by
 show wpAny _ _ (field (.ref z) 2 >>=_) _ _ _
 refine wpAny_bind (wpAny_field hz rfl (x:=.bool false) rfl ?_)
 show wpAny _ _ (field (.ref z) 3 >>=_) _ _ _
 refine wpAny_bind (wpAny_field hz rfl (x:=.ref TI) rfl ?_)
 refine wpAny_bind (wpAny_seqItems hTI rfl ?_)
 show wpAny _ _ (Builtin.SmallTypes.ownedTupleIsFree (.ref z) >>=_) _ _ _
 refine wpAny_bind (not_free hz hT fun h₁ hz₁ hs₁=> ?_)
 simp only [Bool.false_eq_true,if_false]
 refine wpAny_bind ?_
 show wpAny _ _ (forIn [Value.ref i1,Value.ref i2].toArray _ _) _ _ _
 rw [List.forIn_toArray]
 simp only [List.forIn_cons,List.forIn_nil]
 refine wpAny_bind (wpAny_bind (wpAny_holding ?_))
 show wpAny _ _ (Builtin.SmallTypes.nextOf (.ref i1) >>=_) _ _ _
 refine wpAny_bind (wpAny_nextOf_list_item (h1.extBut hs₁.extBut D.i1z) (hl1.extBut hs₁.extBut D.l1z) hx fun h₂ h1₂ hs₂=>wpAny_pure ?_)
 refine wpAny_pure ?_
 refine wpAny_bind (wpAny_bind (wpAny_holding ?_))
 show wpAny _ _ (Builtin.SmallTypes.nextOf (.ref i2) >>=_) _ _ _
 refine wpAny_bind (wpAny_nextOf_list_item ((h2.extBut hs₁.extBut D.i2z).extBut hs₂.extBut D.i12.symm) ((hl2.extBut hs₁.extBut D.l2z).extBut hs₂.extBut D.l2i1) hy fun h₄ h2₄ hs₄=>wpAny_pure ?_)
 refine wpAny_pure (wpAny_pure ?_)
 refine wpAny_bind (wpAny_newTuple (hsz:=(by show 2≤sizeLine;decide)) ?_)
 have hsz:h₄.objs.size=s.heap.objs.size:=by rw [hs₄.1,hs₂.1,hs₁.1]
 refine wpAny_pure ⟨_,rfl,?_⟩
 have hz₄:IsZipB h₄ z TI TO (rawInt T) true:=hs₄.extBut _ _ D.i2z.symm (hs₂.extBut _ _ D.i1z.symm hz₁)
 show Q (.ref h₄.objs.size) _
 rw [hsz]
 refine hQ _ (Heap.get?_push_of_some _ hz₄) ((h1₂.extBut hs₄.extBut D.i12).at fun o e=>Heap.get?_push_of_some _ e) (h2₄.at fun o e=>Heap.get?_push_of_some _ e) ?_ (by rw [Heap.size_push,hsz]) fun c o c1 c3 c4 e=>Heap.get?_push_of_some _ (hs₄.extBut _ _ c4 (hs₂.extBut _ _ c3 (hs₁.extBut _ _ c1 e)))
 show (h₄.push _).get? _=_
 rw [← hsz]
 exact Heap.get?_push_size _ rfl
theorem zip_end2 {z TI TO T i1 i2 l1 l2:Addr}{fb:Bool}{o:Obj}{k1 k2:Nat}{xs ys:Array Value}{Q:Fin→Shared→Prop}(hh:A.handled=none)(D:ZipApart z TI TO i1 i2 l1 l2)
  (hz:IsZipB s.heap z TI TO (rawInt T) fb) (hT:s.heap.get? T=some o) (hTI:IsPair s.heap TI (.ref i1) (.ref i2))
  (h1:s.heap.IsListIter i1 l1 k1) (h2:s.heap.IsListIter i2 l2 k2) (hl1:s.heap.IsList l1 xs) (hl2:s.heap.IsList l2 ys) (hend:xs[k1]? =none∨ys[k2]? =none)
  (hE:∀h' e,(∀c o,c≠z→c≠i1→c≠i2→s.heap.get? c=some o→h'.get? c=some o)→(∃o,h'.get? e=some o∧o.cls=.type "StopIteration")→E (.ref e) {s with heap:=h' }):
  wpAny (model prog w) A (Builtin.«zip.__next__» ⟨[.ref z],[]⟩) Q E s:=by
 show wpAny _ _ (field (.ref z) 2 >>=_) _ _ _
 refine wpAny_bind (wpAny_field hz rfl (x:=.bool false) rfl ?_)
 show wpAny _ _ (field (.ref z) 3 >>=_) _ _ _
 refine wpAny_bind (wpAny_field hz rfl (x:=.ref TI) rfl ?_)
 refine wpAny_bind (wpAny_seqItems hTI rfl ?_)
 show wpAny _ _ (Builtin.SmallTypes.ownedTupleIsFree (.ref z) >>=_) _ _ _
 refine wpAny_bind (not_free hz hT fun h₁ hz₁ hs₁=> ?_)
 simp only [Bool.false_eq_true,if_false]
 refine wpAny_bind ?_
 show wpAny _ _ (forIn [Value.ref i1,Value.ref i2].toArray _ _) _ _ _
 rw [List.forIn_toArray]
 simp only [List.forIn_cons,List.forIn_nil]
 refine wpAny_bind (wpAny_bind (wpAny_holding ?_))
 show wpAny _ _ (Builtin.SmallTypes.nextOf (.ref i1) >>=_) _ _ _
 cases hx:xs[k1]? with
 | none=>
  refine wpAny_bind (wpAny_nextOf_list_end hh (h1.extBut hs₁.extBut D.i1z) (hl1.extBut hs₁.extBut D.l1z) hx fun h₂ e hs₂ he=> ?_)
  exact hE h₂ e (fun c o c1 c3 _ x=>hs₂ _ _ c3 (hs₁.extBut _ _ c1 x)) he
 | some x=>
  have hy:ys[k2]? =none:=by rcases hend with h | h;rw [hx] at h;cases h;exact h
  refine wpAny_bind (wpAny_nextOf_list_item (h1.extBut hs₁.extBut D.i1z) (hl1.extBut hs₁.extBut D.l1z) hx fun h₂ h1₂ hs₂=>wpAny_pure ?_)
  refine wpAny_pure ?_
  refine wpAny_bind (wpAny_bind (wpAny_holding ?_))
  show wpAny _ _ (Builtin.SmallTypes.nextOf (.ref i2) >>=_) _ _ _
  refine wpAny_bind (wpAny_nextOf_list_end hh ((h2.extBut hs₁.extBut D.i2z).extBut hs₂.extBut D.i12.symm) ((hl2.extBut hs₁.extBut D.l2z).extBut hs₂.extBut D.l2i1) hy fun h₄ e hs₄ he=> ?_)
  exact hE h₄ e (fun c o c1 c3 c4 x=>hs₄ _ _ c4 (hs₂.extBut _ _ c3 (hs₁.extBut _ _ c1 x))) he
theorem next_item2 {z TI TO T i1 i2 l1 l2:Addr}{fb:Bool}{o:Obj}{k1 k2:Nat}{xs ys:Array Value}{x y:Value}{Q:Option Value→Shared→Prop}(D:ZipApart z TI TO i1 i2 l1 l2)
  (hz:IsZipB s.heap z TI TO (rawInt T) fb) (hT:s.heap.get? T=some o) (hTI:IsPair s.heap TI (.ref i1) (.ref i2))
  (h1:s.heap.IsListIter i1 l1 k1) (h2:s.heap.IsListIter i2 l2 k2) (hl1:s.heap.IsList l1 xs) (hl2:s.heap.IsList l2 ys) (hx:xs[k1]? =some x) (hy:ys[k2]? =some y)
  (hQ:∀h',IsZipB h' z TI TO (rawInt T) true→h'.IsListIter i1 l1 (k1+1)→h'.IsListIter i2 l2 (k2+1)→IsPair h' s.heap.objs.size x y→h'.objs.size=s.heap.objs.size+1→
   (∀c o,c≠z→c≠i1→c≠i2→s.heap.get? c=some o→h'.get? c=some o)→Q (some (.ref s.heap.objs.size)) {s with heap:=h' }):
  wpAny (model prog w) A (pyNext (.ref z)) Q E s:=by
 have hT' :s.TypeIs (.ref z) "zip":=⟨_,hz,rfl⟩
 unfold pyNext
 exact wpAny_bind (wpAny_attempt (wpAny_callSpecial?_slot (name:=Str.ofString "__next__") hT' F.slot_zip_next
  (wpAny_call_entry F.slot_zip_next hT' F.entry_zip_next
   (zip_item2 D hz hT hTI h1 h2 hl1 hl2 hx hy fun h' a1 a3 a4 a5 a6 a7=>wpAny_pure (hQ h' a1 a3 a4 a5 a6 a7)) (F.args_zip_next_1 _))))
theorem next_end2 {z TI TO T i1 i2 l1 l2:Addr}{fb:Bool}{o:Obj}{k1 k2:Nat}{xs ys:Array Value}{Q:Option Value→Shared→Prop}(hh:A.handled=none)(D:ZipApart z TI TO i1 i2 l1 l2)
  (hz:IsZipB s.heap z TI TO (rawInt T) fb) (hT:s.heap.get? T=some o) (hTI:IsPair s.heap TI (.ref i1) (.ref i2))
  (h1:s.heap.IsListIter i1 l1 k1) (h2:s.heap.IsListIter i2 l2 k2) (hl1:s.heap.IsList l1 xs) (hl2:s.heap.IsList l2 ys) (hend:xs[k1]? =none∨ys[k2]? =none)
  (hQ:∀h',(∀c o,c≠z→c≠i1→c≠i2→s.heap.get? c=some o→h'.get? c=some o)→Q none {s with heap:=h' }):wpAny (model prog w) A (pyNext (.ref z)) Q E s:=by
 have hT' :s.TypeIs (.ref z) "zip":=⟨_,hz,rfl⟩
 unfold pyNext
 refine wpAny_bind (wpAny_attempt (wpAny_callSpecial?_slot (name:=Str.ofString "__next__") hT' F.slot_zip_next
  (wpAny_call_entry F.slot_zip_next hT' F.entry_zip_next (zip_end2 hh D hz hT hTI h1 h2 hl1 hl2 hend fun h' e hk he=> ?_) (F.args_zip_next_1 _))))
 obtain ⟨o,ho,hc⟩:=he
 refine wpAny_bind (wpAny_isInstance (T:="StopIteration") (b:=true) ⟨o,ho,hc⟩ isSubtype_stop ?_)
 exact wpAny_pure (hQ _ hk)
end
def ZSt (h:Heap)(z TI TO i1 i2 a b S:Addr)(i:Nat):Prop:=(IsZipB h z TI TO .none false∨∃(T:Addr) (o:Obj) (fb:Bool),IsZipB h z TI TO (rawInt T) fb∧h.get? T=some o∧T≠z∧T≠TO∧T≠i1∧T≠i2∧T≠S)∧IsPair h TI (.ref i1) (.ref i2)∧(∃x y,IsPair h TO x y)∧h.IsListIter i1 a i∧h.IsListIter i2 b i
section
variable {prog:Program}{w:World}{A:Around}{E:Value→Shared→Prop}{s:Shared}{z TI TO i1 i2 a b S:Addr}{i:Nat}
theorem ZSt.frame {h h' :Heap}(st:ZSt h z TI TO i1 i2 a b S i)(k:∀c o,c≠S→h.get? c=some o→h'.get? c=some o)(nz:z≠S)(n1:TI≠S)(n2:TO≠S)(n3:i1≠S)(n4:i2≠S):ZSt h' z TI TO i1 i2 a b S i:=by
 obtain ⟨hz,hTI,⟨x,y,hTO⟩,h1,h2⟩:=st
 refine ⟨?_,k _ _ n1 hTI,⟨x,y,k _ _ n2 hTO⟩,h1.at fun o e=>k _ o n3 e,h2.at fun o e=>k _ o n4 e⟩
 rcases hz with hz | ⟨T,o,fb,hz,hT,t1,t2,t3,t4,t5⟩
 ·exact .inl (k _ _ nz hz)
 ·exact .inr ⟨T,o,fb,k _ _ nz hz,k _ _ t5 hT,t1,t2,t3,t4,t5⟩
theorem ZSt.item {oS:Obj}{xs ys:Array Value}{x y:Value}{Q:Option Value→Shared→Prop}(D:ZipApart z TI TO i1 i2 a b)(st:ZSt s.heap z TI TO i1 i2 a b S i)(hS:s.heap.get? S=some oS)
  (hl1:s.heap.IsList a xs) (hl2:s.heap.IsList b ys) (hx:xs[i]? =some x) (hy:ys[i]? =some y)
  (hQ:∀h',ZSt h' z TI TO i1 i2 a b S (i+1)→IsPair h' s.heap.objs.size x y→(∀c o,c∉[z,TI,TO,i1,i2]→s.heap.get? c=some o→h'.get? c=some o)→Q (some (.ref s.heap.objs.size)) {s with heap:=h' }):
  wpAny (model prog w) A (pyNext (.ref z)) Q E s:=by
 obtain ⟨hz,hTI,⟨x0,y0,hTO⟩,h1,h2⟩:=st
 have lt:∀{c o},s.heap.get? c=some o→s.heap.objs.size≠c:=fun e=>Nat.ne_of_gt (Heap.lt_size e)
 have e1:∃o,s.heap.get? i1=some o:=by obtain ⟨o,e,_⟩:=h1;exact ⟨o,e⟩
 have e2:∃o,s.heap.get? i2=some o:=by obtain ⟨o,e,_⟩:=h2;exact ⟨o,e⟩
 obtain ⟨o1,e1⟩:=e1
 obtain ⟨o2,e2⟩:=e2
 have nin:∀{c:Addr},c∉[z,TI,TO,i1,i2]→c≠z∧c≠TI∧c≠TO∧c≠i1∧c≠i2:=fun h=>by simpa using h
 rcases hz with hz | ⟨T,o,fb,hz,hT,t1,t2,t3,t4,t5⟩
 ·refine wpAny_pyNext_zip_item D hz hTI hTO h1 h2 hl1 hl2 hx hy fun h' a1 a2 a3 a4 a5 a6 a7=> ?_
  refine hQ h' ⟨.inr ⟨_,_,false,a1,a5,lt hz,lt hTO,lt e1,lt e2,lt hS⟩,a7 _ _ D.TIz D.TITO D.TIi1 D.TIi2 hTI,⟨_,_,a2⟩,a3,a4⟩ a5 fun c o hc e=> ?_
  obtain ⟨c1,c2,c3,c4,c5⟩:=nin hc
  exact a7 c o c1 c3 c4 c5 e
 ·refine next_item2 D hz hT hTI h1 h2 hl1 hl2 hx hy fun h' a1 a3 a4 a5 a6 a7=> ?_
  refine hQ h' ⟨.inr ⟨T,o,true,a1,a7 _ _ t1 t3 t4 hT,t1,t2,t3,t4,t5⟩,a7 _ _ D.TIz D.TIi1 D.TIi2 hTI,⟨_,_,a7 _ _ D.TOz D.TOi1 D.TOi2 hTO⟩,a3,a4⟩ a5 fun c o hc e=> ?_
  obtain ⟨c1,c2,c3,c4,c5⟩:=nin hc
  exact a7 c o c1 c4 c5 e
theorem ZSt.fin {xs ys:Array Value}{Q:Option Value→Shared→Prop}(hh:A.handled=none)(D:ZipApart z TI TO i1 i2 a b)(st:ZSt s.heap z TI TO i1 i2 a b S i)
  (hl1:s.heap.IsList a xs) (hl2:s.heap.IsList b ys) (hend:xs[i]? =none∨ys[i]? =none)
  (hQ:∀h',(∀c o,c∉[z,TI,TO,i1,i2]→s.heap.get? c=some o→h'.get? c=some o)→Q none {s with heap:=h' }):wpAny (model prog w) A (pyNext (.ref z)) Q E s:=by
 obtain ⟨hz,hTI,⟨x0,y0,hTO⟩,h1,h2⟩:=st
 have nin:∀{c:Addr},c∉[z,TI,TO,i1,i2]→c≠z∧c≠TI∧c≠TO∧c≠i1∧c≠i2:=fun h=>by simpa using h
 rcases hz with hz | ⟨T,o,fb,hz,hT,t1,t2,t3,t4,t5⟩
 ·refine wpAny_pyNext_zip_end hh D hz hTI hTO h1 h2 hl1 hl2 hend fun h' kk=>hQ h' fun c o hc e=> ?_
  obtain ⟨c1,c2,c3,c4,c5⟩:=nin hc
  exact kk c o c1 c3 c4 c5 e
 ·refine next_end2 hh D hz hT hTI h1 h2 hl1 hl2 hend fun h' kk=>hQ h' fun c o hc e=> ?_
  obtain ⟨c1,c2,c3,c4,c5⟩:=nin hc
  exact kk c o c1 c4 c5 e
end
end Ty
namespace Ty
open PySem PySem.Spec PyProof.Rows L2
section
variable {X:Cx}{pins:List (Addr×Obj)}{σ:L2.St}
theorem same_newF {H:Hp}{p:Addr}(h:H p=none)(o:HO):Same H (upd H p o):=fun b u q=>by rw [upd_ne (ne_of_none q h)];exact q
theorem boot_list:bootBuiltins "list"=some (.type "list"):=by decide+kernel
end
end Ty
set_option maxHeartbeats 4000000
namespace Ty
open PySem PySem.Spec PyProof.Rows L2
section
variable {X:Cx}
section
variable {k:Nat}{m:Str}{pos apos:Pos}{e o:Expr}{es:List Expr}{ta:TE}{t:TA}
end
theorem pe_excGK {K:Frag}{e:Expr}{f:Str}{pos:Pos}{ta:TE}(hK:X.K=K)(he:PE X e ta)(hb:attributeBase e f X.env (eval e X.env)=eval e X.env):PE X (.Attribute e f pos) (tExcG K ta f):=by
 subst hK
 exact pe_excG he hb
end
def thE (H0:Hp)(E:XK):XK:=fun cls dx H' =>E cls dx H' ∨∃d o kvs,H' d=some (.frz o (.dK kvs))∧(∀o' u',H0 d≠some (.frz o' u'))∧E cls dx (upd H' d (.dK kvs))
theorem CXr.thaw {P:Program}{w:World}{outer:List Env}{H:Hp}{s:Shared}{E:XK}{e:Value}{s' :Shared}(h:CXr P w outer H s (thE H E) e s'):CXr P w outer H s E e s' :=by
 obtain ⟨a,cls,a0,dx,H',B,rfl,fl,da,un,ok,os,bare,th,tr,hE⟩:=h
 rcases hE with hE | ⟨d,o,kvs,ed,nf,hE⟩
 ·exact ⟨a,cls,a0,dx,H',B,rfl,fl,da,un,ok,os,bare,th,tr,hE⟩
 ·have nx:∀b u',H' b=some u' →b≠d→upd H' d (.dK kvs) b=some u' :=fun b u q n=>by rw [upd_ne n];exact q
  refine ⟨a,cls,a0,dx,upd H' d (.dK kvs),B,rfl,fl,da,⟨un.keep,un.slot,fun b ob q n hx=> ?_,un.there,fun b xs q=> ?_,fun b ob u q=> ?_,fun b ps q=> ?_⟩,?_,os,bare,th,fun b u q=> ?_,hE⟩
  ·have z:=un.free b ob q n hx
   rw [upd_ne (fun y=>by rw [y,ed] at z;cases z)]
   exact z
  ·have z:=un.tups b xs q
   exact nx b _ z fun y=>by rw [y,ed] at z;cases z
  ·have z:=un.frzs b ob u q
   exact nx b _ z fun y=>by rw [y] at q;exact nf _ _ q
  ·obtain ⟨m,z⟩:=un.tbls b ps q
   exact ⟨m,nx b _ z fun y=>by rw [y,ed] at z;cases z⟩
  ·have stt:∀{b u'},ObjOk P w H' s'.heap b u' →ObjOk P w (upd H' d (.dK kvs)) s'.heap b u' :=fun {b u'} k=>k.stay (fun _ _ _ z=>z) (fun c z=>nx c _ z fun y=>by rw [y,ed] at z;cases z) fun c xs z=>nx c _ z fun y=>by rw [y,ed] at z;cases z
   intro b u' q
   by_cases hb:b=d
   ·subst hb
    rw [upd_same] at q
    cases q
    exact stt (ok b _ ed).2
   ·rw [upd_ne hb] at q
    exact stt (ok b u' q)
  ·by_cases hb:b=d
   ·subst hb
    exact tr b _ ed
   ·rw [upd_ne hb] at q
    exact tr b u q
section
variable {P:Program}{w:World}{K:Frag}{mg:Str→Option Value}{base:Heap}
theorem fn_thaw {k:Nat}{f:Addr}{fd:FuncData}{ps:List Str}{sp sp' :Sp}(len:∀vs H Q E,sp vs H Q E→vs.length=ps.length)(h:∀vs H Q E,sp vs H Q E→sp' vs H Q (thE H E))(F:FnOk P w K mg base (CXr P w) k f fd ps sp'):FnOk P w K mg base (CXr P w) k f fd ps sp:=
 ⟨len,fun A outer s H args us vs Q E hr he hb hv hs=>codeAny_mono (F.run A outer s H args us vs Q (thE H E) hr he hb hv (h _ _ _ _ hs)) fun r s' hq=>by
  cases r with
  | error e=>exact CXr.thaw hq
  | ok fl=>
   cases fl with
   | ret u=>exact hq
   | next=>exact hq
   | brk=>exact hq
   | cont=>exact hq⟩
end
end Ty
set_option maxHeartbeats 4000000
namespace Ty
open PySem PySem.Spec PyProof.Rows L2
theorem ext_tup (l:Addr)(its:Array Value)(n:Nat)(b:Addr)(its2:Array Value)(n2:Nat)(d:Option Addr)(sl:Array (Option Value))(hs0:¬(!its.isEmpty && Builtin.List.listTooLong (its.size+its2.size))=true)(hs1:its.size≤sizeLine)(hs2:its.size+its2.size≤sizeLine+1):
  Meets (Builtin.«list.extend» ⟨[.ref l,.ref b],[]⟩) (fun _ R s=>s.heap.get? l=some {cls:=.type "list",dict:=none,data:=.seq its n,slots:= #[]}∧s.heap.get? b=some {cls:=.type "tuple",dict:=d,data:=.seq its2 n2,slots:=sl}∧
   R (.ok (.ret Value.none)) {s with heap:=s.heap.update l (Obj.mapSeq fun x=>x++its2),toks:=s.toks}):=
 .of_wp fun prog w A R s h=>by
  obtain ⟨hp,g,dd,tk,os⟩:=s
  obtain ⟨hl,hb,h⟩:=h
  have f1:=AutoSeq1.idx_int
  have f2:=AutoSeq1.sub_tuple_tuple
  have f3:=AutoSeq1.sub_list_list
  have f4:=AutoSeq1.sub_tuple_list
  have f5:=AutoSeq1.sub_list_tuple
  have hz' :(its++its2).size≤sizeLine+1:=by rw [Array.size_append];exact hs2
  wp_walk using (wpAny_updateSeq hl rfl (hz:=hs1) (_hz' :=hz')),wpAny_loadPart' hl,wpAny_loadPart' hb
  exact ⟨_,rfl,h⟩
section
variable {X:Cx}
def rExtT (K:Frag):V→List V→Hp→VK→Prop:=fun x vs H Q=>∃l b xs zs,x=.ref l∧vs=[.ref b]∧H l=some (.lst xs)∧SqT K H b zs∧xs.length+zs.length≤1000∧Q .non (upd H l (.lst (xs++zs)))
theorem mt_extT:MtR X "list.extend" (rExtT X.K):=by
 intro pins s σ H x vs v us Q I rx rv h
 obtain ⟨l,b,xs,zs,rfl,rfl,hH,hB,hz,q⟩:=h
 cases rx
 obtain ⟨u,rfl,ru⟩:=rv.one
 cases ru
 obtain ⟨z,its,n,r,hl,e⟩:=I.lstM hH
 obtain ⟨its2,r2,tp,z2⟩:=I.tuple hB
 have hl2:=r2.length
 have big:(1000:Nat)≤sizeLine:=by decide
 have hsz:its.toArray.size+its2.toArray.size≤sizeLine:=by rw [List.size_toArray,List.size_toArray];omega
 have hlong:¬ (!its.toArray.isEmpty && Builtin.List.listTooLong (its.toArray.size+its2.toArray.size))=true:=by
  rw [notLongL hsz,Bool.and_false]
  exact Bool.false_ne_true
 obtain ⟨⟨c,d,dt,sl⟩,e2,hc,n2,hd⟩:=tp
 obtain rfl:c=Value.type "tuple":=hc
 obtain rfl:dt=_:=hd
 refine call_meets F.slot_list_extend ⟨_,e,rfl⟩ F.entry_list_extend (F.args_list_extend_2 _ _)
  (ext_tup l its.toArray n b its2.toArray n2 d sl hlong (by rw [List.size_toArray];omega) (by omega)) ⟨e,e2,?_⟩
 refine ⟨.non,_,I.lset (its' :=its++its2) hH e (by simp) (r.append r2) ?_,rfl,q⟩
 rw [List.length_append]
 omega
end
end Ty
set_option maxHeartbeats 4000000
namespace Ty
open PySem PySem.Spec PyProof.Rows L2
theorem zip_getattr0:typeLookup (.type "zip") "__getattr__"=pure none:=by rw [typeLookup_type,builtinLookup_eq_fast];kernel_rfl
theorem zip_keys0:typeLookup (.type "zip") "keys"=pure none:=by rw [typeLookup_type,builtinLookup_eq_fast];kernel_rfl
theorem zip_entryG:entryFor table "zip.__getattribute__"=some Builtin.«object.__getattribute__»:=
 entryFor_alias (id' :="object.__getattribute__") (by kernel_rfl) (by decide+kernel) (by decide+kernel) (by kernel_rfl)
theorem entry_dloop:entryFor table "dict.update.loop"=some Builtin.«dict.update.loop»:=entryFor_of_tree (by kernel_rfl)
theorem plain_dloop:plainId "dict.update.loop"=true:=by decide+kernel
theorem zip_miss (a:Addr)(vs:Array Value)(u:Tok):
  Meets (Builtin.«object.__getattribute__» ⟨[.ref a,.str "keys" u],[]⟩) (fun A R s=>s.heap.get? a=some {cls:=.type "zip",dict:=none,data:=.fields vs,slots:= #[]}∧raisesAttr (.ref a) "keys" A R s):=
 Meets.of_wp fun prog w A R s hs=>by
  obtain ⟨hp,g,d,tk,os⟩:=s
  obtain ⟨hx,hs⟩:=hs
  have hT:(⟨hp,g,d,tk,os⟩:Shared).TypeIs (.ref a) "zip":=⟨_,hx,rfl⟩
  have hm:=zip_keys0
  unfold Builtin.«object.__getattribute__»
  repeat (any_goals (first | (assumption) | wp_step))
  exact wpAny_raiseAttrError hs.1 hs.2 (attrMsg_fits (by decide+kernel) (by decide+kernel))
section
variable {prog:Program}{w:World}{A:Around}{E:Value→Shared→Prop}{s:Shared}
theorem zip_no_keys {z:Addr}{vs:Array Value}{Q:Option Value→Shared→Prop}(hx:s.heap.get? z=some {cls:=.type "zip",dict:=none,data:=.fields vs,slots:= #[]})(hA:A.handled=none)
  (h:∀h' tk,(∀b o,s.heap.get? b=some o→h'.get? b=some o)→Q none {s with heap:=h',toks:=tk}):wpAny (model prog w) A (getAttr? (.ref z) "keys") Q E s:=by
 obtain ⟨hp,g,d,tk,os⟩:=s
 have hT:∀tk',(⟨hp,g,d,tk',os⟩:Shared).TypeIs (.ref z) "zip":=fun _=>⟨_,hx,rfl⟩
 have f1:=sub_AttributeError
 have f3:=F.slot_zip_getattribute.lookup
 have f4:=F.slot_zip_getattribute.bind (.ref z)
 have f5:=zip_getattr0
 unfold getAttr? getAttrBy? getAttrBy
 repeat (any_goals (first | (assumption) | exact hT _ | ((with_reducible show wpAny _ _ (call (Value.builtin "zip.__getattribute__") _ _) _ _ _);refine call_meets F.slot_zip_getattribute (hT _) zip_entryG (F.args_zip_getattribute_2 _ _) (zip_miss z vs _) ⟨hx,hA,fun h' tk' e hx' => ?_⟩) | wp_step))
 obtain ⟨t',u',he⟩:=hx'.there
 show wpAny _ _ (getattributeRaised _ _ _ _ _ _ _) _ _ _
 unfold getattributeRaised
 repeat (any_goals (first | (assumption) | wp_step))
 exact h _ _ hx'.keeps
end
end Ty
set_option maxHeartbeats 4000000
namespace Ty
open PySem PySem.Spec PyProof.Rows L2
section
variable {prog:Program}{w:World}{A:Around}{E:Value→Shared→Prop}{s:Shared}
theorem call_dict_zip {z TI TO:Addr}{f0:Value}{Q:Value→Shared→Prop}(hA:A.in1.in1.handled=none)(hz:IsZip s.heap z TI TO f0)
  (hL:∀(h' :Heap) (tk:Nat) (R:Result→Shared→Prop),(∀b o,s.heap.get? b=some o→h'.get? b=some o)→h'.get? s.heap.objs.size=some {cls:=.type "dict",data:=.dict #[]}→
   (∀s',Q (.ref s.heap.objs.size) s' →R (.ok (.ret .none)) s')→codeAny (model prog w) A.in1 (.builtin "dict.update.loop" ⟨[.ref s.heap.objs.size,.ref z,rawInt 0,.none],[]⟩) R {s with heap:=h',toks:=tk}):
  wpAny (model prog w) A (call (.type "dict") [.ref z]) Q E s:=by
 refine callType_codes (Q₁:=fun obj s₁=>obj=.ref s.heap.objs.size∧s₁={s with heap:=s.heap.push {cls:=.type "dict",data:=.dict #[]}}) F.kt_called_dict (F.kt_typeCall_dict_1 _) F.entry_dict_init (kt_code_dict_new _ ⟨rfl,rfl⟩) ?_
 rintro obj s₁ ⟨rfl,rfl⟩
 have hS:(s.heap.push {cls:=.type "dict",data:=.dict #[]}).get? s.heap.objs.size=some {cls:=.type "dict",data:=.dict #[]}:=Heap.get?_push_size _ rfl
 have k0:∀b o,s.heap.get? b=some o→(s.heap.push {cls:=.type "dict",data:=.dict #[]}).get? b=some o:=fun b o e=>Heap.get?_push_of_some _ e
 generalize hN:s.heap.objs.size=S at hS hL ⊢
 generalize s.heap.push {cls:=.type "dict",data:=.dict #[]}=hp at hS k0 ⊢
 have hz2:hp.get? z=_:=k0 _ _ hz
 have hTS:Shared.TypeIs {s with heap:=hp} (.ref S) "dict":=⟨_,hS,rfl⟩
 have hT:Shared.TypeIs {s with heap:=hp} (.ref z) "zip":=⟨_,hz2,rfl⟩
 refine ⟨hTS,F.args_dict_init_2 _ _,?_⟩
 unfold Builtin.«dict.__init__»
 refine wpAny_bind ?_
 unfold Builtin.Dict.selfAndRest
 refine wpAny_bind (wpAny_notOrdered_dict hTS ?_)
 refine wpAny_pure ?_
 show wpAny _ _ (Builtin.Dict.updateFrom "dict.__init__" S (.ref z) [] .none) _ _ _
 unfold Builtin.Dict.updateFrom
 refine wpAny_bind (wpAny_typeOf hT ?_)
 rw [if_pos (by decide)]
 refine wpAny_bind (zip_no_keys (s:={s with heap:=hp}) hz2 hA fun h' tk k1=> ?_)
 rw [if_pos (by rfl)]
 refine wpAny_bind (wpAny_rule ?_)
 have hz3:IsZip h' z TI TO f0:=k1 _ _ hz2
 refine wpAny_bind (wpAny_pyIter_zip (s:={s with heap:=h',toks:=tk}) hz3 ?_)
 exact wpAny_pure ⟨plainId_quiet plain_dloop _,hL _ _ _ (fun b o e=>k1 _ _ (k0 _ _ e)) (k1 _ _ hS) fun s' hq=>⟨rfl,hq⟩⟩
end
section
variable {X:Cx}{pins:List (Addr×Obj)}{σ:L2.St}
theorem mergeK_snoc (kvs more:List (Key×V))(kv:Key×V):mergeK kvs (more++[kv])=putK (mergeK kvs more) kv.1 kv.2:=by
 unfold mergeK
 rw [List.foldl_append]
 rfl
theorem loopDZ {z TI TO i1 i2 a b S:Addr}{A' :Around}{R:Result→Shared→Prop}{ks:List Key}{ys:List V}{H0:Hp}(hh:A'.in1.handled=none)(D:ZipApart z TI TO i1 i2 a b)(na:a≠S)(nb:b≠S)(hk1:ks.length≤1000):
  ∀(k i:Nat) (s:Shared) (H:Hp),min ks.length ys.length - i=k→i≤min ks.length ys.length→Inv X pins σ H s→(∀c∈[z,TI,TO,i1,i2],FpOk X pins H c)→ZSt s.heap z TI TO i1 i2 a b S i→
  H a=some (.lst (ks.map kV))→H b=some (.lst ys)→H S=some (.dK (mergeK [] ((ks.zip ys).take i)))→KSame S H0 H→
  (∀s' H',Inv X pins σ H' s' →KSame S H0 H' →H' S=some (.dK (mergeK [] (ks.zip ys)))→R (.ok (.ret .none)) s')→
  codeAny (model X.prog X.w) A' (.builtin "dict.update.loop" ⟨[.ref S,.ref z,rawInt (i:Int),.none],[]⟩) R s:=by
 have lzip:(ks.zip ys).length=min ks.length ys.length:=List.length_zip
 intro k
 induction k with
 | zero=>
  intro i s H hk hi I hf st ha hb hS hks hR
  refine codeAny_builtin entry_dloop ?_
  rw [Around.under_plainId plain_dloop _]
  show wpAny _ A'.in1 (pyNext (.ref z) >>=_) _ _ s
  obtain ⟨z1,its,n1,r1,l1,e1⟩:=I.lstM ha
  obtain ⟨z2,jts,n2,r2,l2,e2⟩:=I.lstM hb
  rw [List.length_map] at l1
  refine wpAny_bind (st.fin hh D ⟨_,e1,rfl,_,rfl⟩ ⟨_,e2,rfl,_,rfl⟩ ?_ fun h' kk=> ?_)
  ·by_cases c:ks.length≤i
   ·exact .inl (by simp;omega)
   ·exact .inr (by simp;omega)
  ·rw [List.take_of_length_le (by omega)] at hS
   exact wpAny_bind (wpAny_pure (wpAny_pure (hR _ H (Inv.turnedL (t' :=s.toks) I kk hf) hks hS)))
 | succ k ih=>
  intro i s H hk hi I hf st ha hb hS hks hR
  refine codeAny_builtin entry_dloop ?_
  rw [Around.under_plainId plain_dloop _]
  show wpAny _ A'.in1 (pyNext (.ref z) >>=_) _ _ s
  obtain ⟨z1,its,n1,r1,l1,e1⟩:=I.lstM ha
  obtain ⟨z2,jts,n2,r2,l2,e2⟩:=I.lstM hb
  have lx:i < ks.length:=by omega
  have ly:i < ys.length:=by omega
  obtain ⟨u,hu,ru⟩:=r1.get (i:=i) (x:=kV ks[i]) (by rw [List.getElem?_map,gE lx];rfl)
  obtain ⟨v,hv,rv⟩:=r2.get (i:=i) (x:=ys[i]) (gE ly)
  obtain ⟨zS0,hdS0,vs0,rel0,dd0⟩:=dk_of I.hok hS
  obtain ⟨oS,_,_,eS,_⟩:=id dd0
  refine wpAny_bind (st.item D eS ⟨_,e1,rfl,_,rfl⟩ ⟨_,e2,rfl,_,rfl⟩ (x:=u) (y:=v) (by simpa using hu) (by simpa using hv) fun h' st' ht kk=> ?_)
  have fpS:∀c∈[z,TI,TO,i1,i2],c≠S:=fun c hc e=>by
   have:=(hf c hc).1
   rw [e,hS] at this
   cases this
  have I2:Inv X pins σ H {s with heap:=h',toks:=s.toks}:=Inv.turnedL (t' :=s.toks) I kk hf
  obtain ⟨zS,hdS,vs,rel,dd⟩:=dk_of I2.hok hS
  have hT:Shared.TypeIs {s with heap:=h',toks:=s.toks} (.ref s.heap.objs.size) "tuple":=⟨_,ht,rfl⟩
  refine wpAny_bind (wpAny_holding ?_)
  refine wpAny_bind (wpAny_tryCatch ?_)
  unfold Builtin.Dict.pairItems
  refine wpAny_bind (wpAny_typeOf hT ?_)
  rw [if_pos (by decide)]
  refine wpAny_bind (wpAny_seqItems ht rfl (wpAny_pure ?_))
  show wpAny _ A'.in1 (holding [u,v] (dictSet S u v)) _ _ _
  refine wpAny_holding ?_
  have hlen:vs.length≤sizeLine:=by rw [← rel.length];exact zS
  refine wpAny_dictSet_pairs (hsz:=hlen) (kV_is ru) dd fun h2 dd2 sb=> ?_
  have he:∃q,h2.get? S=some q:=let ⟨q,_,_,hq,_⟩:=dd2;⟨q,hq⟩
  have etk:(ks.zip ys).take (i+1)=(ks.zip ys).take i++[(ks[i],ys[i])]:=by
   rw [List.take_add_one]
   have:(ks.zip ys)[i]? =some (ks[i],ys[i]):=by rw [List.getElem?_zip_eq_some];exact ⟨gE lx,gE ly⟩
   rw [this]
   rfl
  have enew:mergeK [] ((ks.zip ys).take (i+1))=putK (mergeK [] ((ks.zip ys).take i)) ks[i] ys[i]:=by rw [etk,mergeK_snoc]
  have hl:(putK (mergeK [] ((ks.zip ys).take i)) ks[i] ys[i]).length≤sizeLine:=by
   rw [← enew]
   have h1:=length_mergeK ((ks.zip ys).take (i+1)) []
   rw [List.length_take,List.length_nil] at h1
   exact Nat.le_trans (show (mergeK [] ((ks.zip ys).take (i+1))).length≤1000 by omega) (by decide)
  have I3:Inv X pins σ (upd H S (.dK (putK (mergeK [] ((ks.zip ys).take i)) ks[i] ys[i]))) {s with heap:=h2,toks:=s.toks+1}:=d_write (s:={s with heap:=h',toks:=s.toks}) (t' :=s.toks+1) I2 (by rw [hS];exact True.intro) sb he (dk_new hl hdS (rel.put ks[i] rv) dd2)
  have kS:∀c o,c≠S→h'.get? c=some o→h2.get? c=some o:=fun c o n e=>(sb.2 c n).trans e
  refine wpAny_pure ⟨plainId_quiet plain_dloop _,?_⟩
  have nn:∀{c:Addr} {o:HO},H c=some o→c≠S→(upd H S (.dK (putK (mergeK [] ((ks.zip ys).take i)) ks[i] ys[i]))) c=some o:=fun {c o} e n=>by rw [upd_ne n];exact e
  refine ih (i+1) _ _ (by omega) (by omega) I3 (fun c hc=> ?_) (st'.frame kS (fpS z (by simp)) (fpS TI (by simp)) (fpS TO (by simp)) (fpS i1 (by simp)) (fpS i2 (by simp))) (nn ha na) (nn hb nb) (by rw [enew,upd_same]) (fun c o n e=>nn (hks c o n e) n) hR
  obtain ⟨f0,f1,f2,f3,f4,f5⟩:=hf c hc
  exact ⟨by rw [upd_ne (fpS c hc)];exact f0,f1,f2,f3,f4,f5⟩
def tDictZ (ta:TA):TE:=fun σ H Q=>ta σ H fun vs H1=>∃(a b:Addr) (ks:List Key) (ys:List V),vs=[.ref a,.ref b]∧H1 a=some (.lst (ks.map kV))∧H1 b=some (.lst ys)∧ks.length≤1000∧
 ∀(l:Addr) (H' :Hp),Same H1 H' →H1 l=none→H' l=some (.dK (mergeK [] (ks.zip ys)))→Q (.ref l) H'
theorem boot_dict:bootBuiltins "dict"=some (.type "dict"):=by decide+kernel
theorem pe_dictZ {e1 e2:Expr}{ta:TA}{p pos p' pos' :Pos}(hc:X.calm=true)(hgl:Gl X "dict")(hml:X.mg "dict"=none)(hg:Gl X "zip")(hm:X.mg "zip"=none)(ha:PA X [e1,e2] ta)(hs:starEach [e1,e2] X.env=[(false,eval e1 X.env),(false,eval e2 X.env)]:=by rfl)(hs2:starEach [e2] X.env=[(false,eval e2 X.env)]:=by rfl)
  (hs3:starEach [(.Call (.Name "zip" p) [e1,e2] [] pos:Expr)] X.env=[(false,eval (.Call (.Name "zip" p) [e1,e2] [] pos) X.env)]:=by rfl):
  PE X (.Call (.Name "dict" p') [.Call (.Name "zip" p) [e1,e2] [] pos] [] pos') (tDictZ ta):=by
 intro pins s σ H Q I h
 refine Call_ (ld_blt I hgl hml boot_dict (PyProof.Rows.callWith_type1 ?_ hs3 rfl))
 rw [hs3]
 show wpAny _ _ (spliced ((false,eval (.Call (.Name "zip" p) [e1,e2] [] pos) X.env)::[])) _ _ s
 refine Calls.spliced_cons ?_
 refine Call_ (ld_blt I hg hm boot_zip (PyProof.Rows.callWith_type1 (thn (ha pos pins s σ H _ I h) fun us s1 ⟨vs,H1,I1,r1,q1⟩=> ?_) (by rw [hs,hs2]) (by rw [hs2];rfl)))
 obtain ⟨a,b,ks,ys,e,hx,hy,hkl,q⟩:=q1
 subst e
 cases r1 with
 | cons r rr=>
  cases rr with
  | cons r' rr=>
   cases rr
   cases r
   cases r'
   obtain ⟨z1,its,n1,r1,l1,e1⟩:=I1.lstM hx
   obtain ⟨z2,jts,n2,r2,l2,e2⟩:=I1.lstM hy
   have lt1:a < s1.heap.objs.size:=Heap.lt_size e1
   have lt2:b < s1.heap.objs.size:=Heap.lt_size e2
   refine call_zip_2 ⟨_,e1,rfl,_,rfl⟩ ⟨_,e2,rfl,_,rfl⟩ fun h' hz hTI hTO hi1 hi2 hsz hk=>Calls.spliced_nil ?_
   have I2:Inv X pins σ H1 {s1 with heap:=h',toks:=s1.toks}:=I1.kept (t' :=s1.toks) hk
   have hS:=I2.hok.fresh (Nat.le_refl h'.objs.size)
   refine call_dict_zip (s:={s1 with heap:=h' }) (I1.ok.hd hc) hz fun h2 tk R k2 hS2 hR=> ?_
   have lt' :mainGlobals < h'.objs.size:=(I2.mod.glob.keeps I2.bk).lt
   have ns:(h'.objs.size==sysModules)=false:=beq_eq_false_iff_ne.mpr (Ne.symm (Nat.ne_of_lt (Nat.lt_trans (by decide) lt')))
   have I3:Inv X pins σ (upd H1 h'.objs.size (.dK [])) {s1 with heap:=h2,toks:=tk}:=I2.laid (t' :=tk) k2 (Nat.le_refl _) ⟨Nat.zero_le _,ns,[],.nil,_,_,_,hS2,⟨rfl,rfl,rfl⟩,rfl,fun _ he=>by simp at he,Pairs.nil,List.nodup_nil⟩
   have st:ZSt h2 (s1.heap.objs.size+4) (s1.heap.objs.size+2) (s1.heap.objs.size+3) s1.heap.objs.size (s1.heap.objs.size+1) a b h'.objs.size 0:=
    ⟨.inl (k2 _ _ hz),k2 _ _ hTI,⟨_,_,k2 _ _ hTO⟩,hi1.at fun o e=>k2 _ o e,hi2.at fun o e=>k2 _ o e⟩
   have na:a≠h'.objs.size:=ne_of_none hx hS
   have nb:b≠h'.objs.size:=ne_of_none hy hS
   have s13:=same_newF hS (.dK [])
   refine loopDZ (A' :=X.A.in1) (H0:=H1) (ks:=ks) (ys:=ys) (I1.ok.hd hc) ?_ na nb hkl (min ks.length ys.length) 0 _ _ (by omega) (Nat.zero_le _) I3 (fun c' hc' => ?_) st (s13 _ _ hx) (s13 _ _ hy) upd_same (fun b' o n e=>s13 _ _ e) fun s' H' I' ks' hS' =>hR s' ⟨.ref h'.objs.size,H',I',rfl,q _ H' (fun b' o e=>ks' b' o (ne_of_none e hS) e) hS hS'⟩
   ·constructor <;> (intro z;simp only [Addr] at*;omega)
   ·have hc2:c' =s1.heap.objs.size+4∨c' =s1.heap.objs.size+2∨c' =s1.heap.objs.size+3∨c' =s1.heap.objs.size∨c' =s1.heap.objs.size+1:=by simpa using hc'
    have hb:s1.heap.objs.size≤c' :=by
     simp only [Addr] at*
     omega
    have hb2:c' ≠h'.objs.size:=by
     rw [hsz]
     simp only [Addr] at*
     omega
    refine I1.fpOk hb ?_
    rw [upd_ne hb2]
    exact I1.hok.fresh hb
end
end Ty
set_option maxHeartbeats 4000000
namespace Ty
open PySem PySem.Spec PyProof.Rows L2
theorem NmsK.snoc {K:Frag}{H:Hp}{us:List V}{qs:List (Int×Int)}{v:V}{q:Int×Int}(h:NmsK K H us qs)(n:NmK K H v q):NmsK K H (us++[v]) (qs++[q]):=by
 refine ⟨by simp [h.1],fun i u q' e1 e2=> ?_⟩
 have l:=h.1
 by_cases c:i < us.length
 ·rw [List.getElem?_append_left c] at e1
  rw [List.getElem?_append_left (by omega)] at e2
  exact h.2 i u q' e1 e2
 ·rw [List.getElem?_append_right (by omega)] at e1 e2
  by_cases z:i - us.length=0
  ·rw [z] at e1
   rw [show i - qs.length=0 by omega] at e2
   cases e1
   cases e2
   exact n
  ·rw [List.getElem?_eq_none (by simp;omega)] at e1
   cases e1
theorem NmsK.sameT {K:Frag}{H H' :Hp}{us:List V}{qs:List (Int×Int)}(h:NmsK K H us qs)(s:SameT H H'):NmsK K H' us qs:=⟨h.1,fun i u q e1 e2=>(h.2 i u q e1 e2).sameT s⟩
end Ty
set_option maxHeartbeats 4000000
namespace Ty
open PySem PySem.Spec PyProof.Rows L2
variable {X:Cx}
end Ty
set_option maxHeartbeats 4000000
namespace Ty
open PySem PySem.Spec PyProof.Rows L2
section
variable {X:Cx}{pins:List (Addr×Obj)}{σ:L2.St}{H:Hp}{s:Shared}
theorem Inv.laidIn {a:Addr}{o:HO}(I:Inv X pins σ H s)(f:FpOk X pins H a)(new:ObjOk X.prog X.w (upd H a o) s.heap a o):Inv X pins σ (upd H a o) s:=by
 obtain ⟨f0,f1,f2,f3,f4,f5⟩:=f
 have nx:∀b u,H b=some u→upd H a o b=some u:=fun b u q=>by rw [upd_ne (fun z=>by rw [z,f0] at q;cases q)];exact q
 refine ⟨I.ok,I.os,I.bare,⟨I.base.keep,I.base.slot,fun b ob q z hx=> ?_,I.base.there,fun b xs q=>nx b _ (I.base.tups b xs q),fun b ob u' q=>nx b _ (I.base.frzs b ob u' q),fun b ps q=> ?_⟩,I.loc,I.cell,?_,fun x c q=> ?_,fun p hp=> ?_,?_,I.len⟩
 ·rw [upd_ne (fun e=> ?_)]
  ·exact I.base.free b ob q z hx
  ·rcases f3 with f3 | f3
   ·exact hx (e▸f3)
   ·exact absurd (Heap.lt_size q) (by rw [e];exact Nat.not_lt.mpr f3)
 ·obtain ⟨m,z⟩:=I.base.tbls b ps q
  exact ⟨m,nx b _ z⟩
 ·rw [upd_ne (Ne.symm f1)]
  exact I.free
 ·rw [upd_ne (f4 x c q)]
  exact I.freeC x c q
 ·obtain ⟨a1,a2,a3⟩:=I.pin p hp
  exact ⟨a1,by rw [upd_ne (f5 p hp)];exact a2,a3⟩
 ·intro b u q
  by_cases hb:b=a
  ·subst hb
   rw [upd_same] at q
   cases q
   exact new
  ·rw [upd_ne hb] at q
   exact (I.hok b u q).stay (fun _ _ _ z=>z) (fun c z=>nx c _ z) fun c xs z=>nx c _ z
theorem lay_pairs:∀(as:List Addr) (kvs:List (Key×V)) (H:Hp),Inv X pins σ H s→as.Pairwise (· < ·)→(∀a∈as,FpOk X pins H a)→as.length=kvs.length→
  (∀(j:Nat) (a:Addr) (kv:Key×V),as[j]? =some a→kvs[j]? =some kv→∃its,Vals [kV kv.1,kv.2] its∧IsTup s.heap a its.toArray)→
  ∃H',Inv X pins σ H' s∧(∀b,b∉as→H' b=H b)∧∀(j:Nat) (a:Addr) (kv:Key×V),as[j]? =some a→kvs[j]? =some kv→H' a=some (.tup [kV kv.1,kv.2])
 | [],kvs,H,I,_,_,_,_=>⟨H,I,fun _ _=>rfl,fun j a kv e=>by simp at e⟩
 | a::as,[],H,_,_,_,hl,_=>by simp at hl
 | a::as,kv::kvs,H,I,hr,hf,hl,hp=>by
  obtain ⟨r1,r2⟩:=List.pairwise_cons.mp hr
  obtain ⟨its,v,t⟩:=hp 0 a kv rfl rfl
  have I2:=Inv.laidIn (o:=.tup [kV kv.1,kv.2]) I (hf a List.mem_cons_self) ⟨by show 2≤sizeLine;decide,its,v,t⟩
  obtain ⟨H',I',k',t'⟩:=lay_pairs as kvs _ I2 r2 (fun b hb=>by
   obtain ⟨f0,f1⟩:=hf b (List.mem_cons_of_mem _ hb)
   exact ⟨by rw [upd_ne (Nat.ne_of_gt (r1 b hb))];exact f0,f1⟩) (by simpa using hl) (fun j b kv' e1 e2=>hp (j+1) b kv' (by simpa using e1) (by simpa using e2))
  have na:a∉as:=fun z=>Nat.lt_irrefl _ (r1 a z)
  refine ⟨H',I',fun b hb=> ?_,fun j b kv' e1 e2=> ?_⟩
  ·rw [k' b (fun z=>hb (List.mem_cons_of_mem _ z)),upd_ne (fun z=>hb (by rw [z];exact List.mem_cons_self))]
  ·cases j with
   | zero=>
    cases e1
    cases e2
    rw [k' a na,upd_same]
   | succ j=>exact t' j b kv' (by simpa using e1) (by simpa using e2)
inductive tListIs_ (Q:VK)(x:V)(H1:Hp):Prop where
 | mk (d kvs:_) (_:x=.ref d) (_:H1 d=some (.dK kvs)) (_:∀(l:Addr) (us:List V) (H' :Hp),Same H1 H' →H1 l=none→H' l=some (.lst us)→Paired (fun u (kv:Key×V)=>∃p,u=.ref p∧H' p=some (.tup [kV kv.1,kv.2])) us kvs→Q (.ref l) H'):tListIs_ Q x H1
def tListIs (te:TE):TE:=fun σ H Q=>te σ H fun x H1=>tListIs_ Q x H1
theorem pe_listIs {e:Expr}{te:TE}{apos cpos p pos:Pos}(hc:X.calm=true)(hg:Gl X "list")(hm:X.mg "list"=none)(ho:PE X e te)(hbase:attributeBase e "items" X.env (eval e X.env)=eval e X.env:=by rfl)(hline:(apos.endLine==cpos.line)=true:=by rfl)
  (hs:starEach [(.Call (.Attribute e "items" apos) [] [] cpos:Expr)] X.env=[(false,eval (.Call (.Attribute e "items" apos) [] [] cpos) X.env)]:=by rfl):
  PE X (.Call (.Name "list" p) [.Call (.Attribute e "items" apos) [] [] cpos] [] pos) (tListIs te):=by
 intro pins s σ H Q I h
 refine Call_ (ld_blt I hg hm boot_list (PyProof.Rows.callWith_type1 ?_ hs rfl))
 rw [hs]
 show wpAny _ _ (spliced ((false,eval (.Call (.Attribute e "items" apos) [] [] cpos) X.env)::[])) _ _ s
 refine Calls.spliced_cons ?_
 refine wpAny_Call_method0_late hbase hline (thn (ho pins s σ H _ I h) fun v s1 ⟨x,H1,I1,r1,q1⟩=> ?_)
 obtain ⟨d,kvs,rfl,e,q⟩:=q1
 cases r1
 obtain ⟨h1,h2,hd⟩:=isD_at I1 (.inl ⟨kvs,.inl e⟩)
 obtain ⟨z,hd',vs,rel,o,es1,ep,ho1,hx,hdat,hk,hp,hn⟩:=dk_of I1.hok e
 have da:s1.heap.DictAt (mixKind X.prog X.w) d vs ep:=⟨o,es1,ho1,hx,hdat,hk,hp,hn⟩
 have lv:=rel.length
 refine ⟨"dict","dict.items",F.plainAttrs_dict,F.slot_dict_items,F.type_dict_items,h1,h2,Calls.callWith_builtin rfl (PySem.evalArgs_none ?_)⟩
 refine call_meetsIn F.slot_dict_items h1 F.entry_dict_items (F.args_dict_items_1 _) (meets_dict_items (mixKind X.prog X.w) d hd) ⟨⟨vs,da.dictOf⟩,Calls.spliced_nil ?_⟩
 have da2:(s1.heap.push {cls:=.type "dict_items",data:=.fields #[.ref d]}).DictAt (mixKind X.prog X.w) d vs ep:=da.at' fun o e=>Heap.get?_push_of_some _ e
 have I2:Inv X pins σ H1 {s1 with heap:=s1.heap.push {cls:=.type "dict_items",data:=.fields #[.ref d]},toks:=s1.toks}:=I1.kept (t' :=s1.toks) fun b o e=>Heap.get?_push_of_some _ e
 refine PySem.W.kdx_call (s:={s1 with heap:=s1.heap.push {cls:=.type "dict_items",data:=.fields #[.ref d]}}) (knd:=mixKind X.prog X.w) (r:=s1.heap.objs.size) (kvs:=vs) (ep:=ep) (I1.ok.hd hc) ⟨_,Heap.get?_push_size _ rfl,rfl,rfl⟩ da2 (by omega) fun h' tk acc c as kk hS hl hG hacc=> ?_
 generalize hs2:(s1.heap.push {cls:=.type "dict_items",data:=.fields #[.ref d]})=h2' at*
 have hn' :=I2.hok.fresh (Nat.le_refl h2'.objs.size)
 have sz:as.length≤sizeLine:=by omega
 have I3:Inv X pins σ H1 {s1 with heap:=h',toks:=tk}:=I2.kept (t' :=tk) kk
 have fp:∀{b:Addr},h2'.objs.size≤b→FpOk X pins H1 b:=fun {b} hb=>I2.fpOk hb (I2.hok.fresh hb)
 have I4:=Inv.laidIn (o:=.lst (as.map V.ref)) I3 (fp (Nat.le_refl _)) ⟨by rw [List.length_map];exact sz,acc.toList,c,by
  rw [hacc]
  exact paired_of (by simp) fun i a b e1 e2=>by
   rw [List.getElem?_map] at e1 e2
   obtain ⟨x,ex,rfl⟩:=Option.map_eq_some_iff.mp e1
   rw [ex] at e2
   cases e2
   rfl,by simpa using hS⟩
 obtain ⟨H',I5,k5,t5⟩:=lay_pairs as kvs _ I4 hG.rise (fun a ha=>by
  obtain ⟨f0,f1⟩:=fp (Nat.le_of_lt (hG.above a ha))
  exact ⟨by rw [upd_ne (Nat.ne_of_gt (hG.above a ha))];exact f0,f1⟩) (by omega) (fun j a kv e1 e2=>by
  obtain ⟨key,k,x,g1,g2,g3⟩:=hG.pairs j a e1
  obtain ⟨q',eq,e3,e4⟩:=paired_get rel e2
  rw [eq] at g1
  cases g1
  exact ⟨[key,x],.cons (by rw [e3];exact key_rel g2) (.cons e4 .nil),⟨_,g3,rfl,_,rfl⟩⟩)
 have nS:h2'.objs.size∉as:=fun z=>Nat.lt_irrefl _ (hG.above _ z)
 refine ⟨.ref _,H',I5,rfl,q _ (as.map V.ref) H' (fun b o eb=> ?_) hn' (by rw [k5 _ nS,upd_same]) (paired_of (by rw [List.length_map];omega) fun i u kv e1 e2=> ?_)⟩
 ·have nb:∀{b' :Addr},h2'.objs.size≤b' →b≠b' :=fun {b'} hb z=>by rw [z,(fp hb).1] at eb;cases eb
  rw [k5 b (fun z=>nb (Nat.le_of_lt (hG.above b z)) rfl),upd_ne (nb (Nat.le_refl _))]
  exact eb
 ·rw [List.getElem?_map] at e1
  obtain ⟨a,ea,rfl⟩:=Option.map_eq_some_iff.mp e1
  exact ⟨a,rfl,t5 i a kv ea e2⟩
end
theorem comp_listF {K:Frag}{D:Addr}{te:TE}{tt:TT}{cap:L2.St}{H1:Hp}{Q:VK}{a:Addr}{α:Type}{xs:List V}{zs:List α}{Rl:V→α→Prop}(p:α→Bool)(hp:Paired Rl xs zs)(nD:H1 D=none)(hn:xs.length < sizeLine)(hS:∀H,Same H1 H→SqL K H a xs)
  (ht:∀x z H (R:Bool→Hp→Prop),Rl x z→z∈zs→Same H1 H→(∀H',Same H H' →R (p z) H')→tt (some x::cap) H R)
  (he:∀x z H (R:VK),Rl x z→Same H1 H→R x H→te (some x::cap) H R)
  (hd:∀ys H,Paired Rl ys (zs.filter p)→Same H1 H→H D=some (.lst ys)→Q (.ref D) H):
  tBlk D (gName 0) tt te (Itl K a) (none::cap) H1 Q:=by
 have lz:xs.length=zs.length:=Paired.length hp
 have ps:∀{l₁:List V} {l₂:List α} {a:V} {b:α},Paired Rl l₁ l₂→Rl a b→Paired Rl (l₁++[a]) (l₂++[b]):=fun {l₁ l₂ a b} h h' =>by
  induction h with
  | nil=>exact .cons h' .nil
  | cons x _ ih=>exact .cons x ih
 refine ⟨fun i m σ ys H=>m=xs.length - i∧i≤xs.length∧(∃o,σ=o::cap)∧Same H1 H∧H D=some (.lst ys)∧Paired Rl ys ((zs.take i).filter p)∧ys.length≤i,⟨xs.length,by simp,Nat.zero_le _,⟨none,rfl⟩,fun b o e=>by rw [upd_ne (ne_of_none e nD)];exact e,upd_same,by simpa using Paired.nil,Nat.le_refl _⟩,?_⟩
 rintro i m σ ys H ⟨rfl,hi,⟨o,rfl⟩,s,hD,ey,ly⟩
 by_cases hlt:i < xs.length
 ·refine .inr ⟨⟨xs,xs[i],hS H s,gE hlt⟩,fun v H' y=> ?_⟩
  obtain ⟨rfl,y2⟩:=y
  have q1:=y2 xs (hS _ s)
  obtain ⟨z,ez,hz⟩:=paired_get hp q1
  have er:(zs.take (i+1)).filter p=(zs.take i).filter p++(if p z=true then [z] else []):=by
   rw [take_snoc ez,List.filter_append]
   by_cases c:p z=true
   ·rw [if_pos c,List.filter_cons_of_pos c]
    rfl
   ·rw [if_neg c,List.filter_cons_of_neg c]
    rfl
  unfold gName
  refine ht v z _ _ hz (List.mem_of_getElem? ez) s fun H2 s2=> ?_
  have s12:Same H1 H2:=fun b o e=>s2 _ _ (s _ _ e)
  have hD2:=s2 _ _ hD
  by_cases c:p z=true
  ·rw [if_pos c]
   rw [if_pos c] at er
   refine he v z _ _ hz s12 ⟨hD2,by omega,xs.length - (i+1),by omega,rfl,by omega,⟨_,rfl⟩,?_,upd_same,?_,by simp;omega⟩
   ·exact fun b o e=>by
     rw [upd_ne (ne_of_none e nD)]
     exact s12 _ _ e
   ·rw [er]
    exact ps ey hz
  ·rw [if_neg c]
   rw [if_neg c,List.append_nil] at er
   exact ⟨xs.length - (i+1),by omega,rfl,by omega,⟨_,rfl⟩,s12,hD2,by rw [er];exact ey,by omega⟩
 ·have e:i=xs.length:=by omega
  subst e
  refine .inl ⟨⟨xs,hS _ s,Nat.le_refl _⟩,hd ys H ?_ s hD⟩
  rw [lz,List.take_length] at ey
  exact ey
end Ty
set_option maxHeartbeats 4000000
namespace Ty
open PySem PySem.Spec PyProof.Rows L2
section
variable {X:Cx}{o e:Expr}{es:List Expr}{to:TE}{t:TA}{name:Str}{apos cpos:Pos}{T id:String}{r:V→List V→Hp→VK→Prop}
theorem pe_bmK {K:Frag}(hK:X.K=K)(pa:PlainAttrs T)(slot:Slot T name id)(hty:typeOf (.builtin id)=pure (.type "method_descriptor"))(hm:MtR X id r)(ho:PE X o to)(ha:PA X (e::es) t)
  (hbase:attributeBase o name X.env (eval o X.env)=eval o X.env:=by rfl)
  (hfew:((backTo cpos (starEach (e::es) X.env)).all (fun x=> !x.1) && (backToKw cpos (keywordEach [] X.env)).all (fun x=>x.1.isSome)
   && decide ((e::es).length+([]:List Keyword).length+(if ([]:List Keyword).isEmpty then 0 else 1) < 30))=true:=by rfl)
  (hline:(apos.endLine==cpos.line)=true:=by rfl) (hs:starEach (e::es) X.env=(false,eval e X.env)::starEach es X.env:=by rfl) (hplain:(backTo cpos (starEach es X.env)).any (·.1)=false:=by rfl):
  PE X (.Call (.Attribute o name apos) (e::es) [] cpos) (tBM K T r to t):=by
 subst hK
 exact pe_bm pa slot hty hm ho ha hbase hfew hline hs hplain
theorem op_notIn_seqK {K:Frag}(h:X.K=K):OpR X (compareOp .NotIn) (rIn K true):=by subst h;exact op_notIn_seq
end
end Ty
set_option maxHeartbeats 4000000
namespace T_k32
open PySem PySem.Spec PyProof.Rows L2 Ty
open Builtin.Int (intBits)
seal L2.PE L2.PS L2.PSs L2.PA
theorem sq {N P:List Str}{sc:Scope}(a:sc.kind=.function:=by exact rfl)(b:sc.isCoroutine=false:=by exact rfl)(c:sc.isGenerator=false:=by exact rfl)(d:N.Nodup:=by decide+kernel)(e:N.take P.length=P:=by exact rfl)(f:∀x∈P,sc.names.lookup x=some .local∨sc.names.lookup x=some .cell:=by decide+kernel)(g:∀y∈sc.names,y.2≠.free:=by decide+kernel):FnScope N P sc:=⟨a,b,c,d,e,f,g⟩
theorem pY (P:Program)(w:World){X:Cx}:Passes (CXr P w) X.nox E0:=passM CXr.mute
theorem pX {P:Program}{w:World}{X:Cx}:Passes (CXr P w) X.nox E0:=passM CXr.mute
theorem _root_.L2.Room.mo {j k:Nat}{A:Around}(r:L2.Room k A)(h:j≤k:=by decide):L2.Room j A:=r.mono h
theorem pe_tx {X:Cx}{a:Expr}{ta:TE}{i j p1 p2}(h:PE X a ta):PE X (.Subscript a (.Constant (.int i) j p1) p2) (tOp (rIxT X.K) ta (tC (.int i))):=pe_ix ix_tup h pe_int (fun _ _=>rfl)
theorem pe_lx {X:Cx}{a:Expr}{ta:TE}{i j p1 p2}(h:PE X a ta):PE X (.Subscript a (.Constant (.int i) j p1) p2) (tOp (rIxL X.K) ta (tC (.int i))):=pe_ix ix_list h pe_int (fun _ _=>rfl)
theorem _root_.L2.Fun.bnd {K:Frag}{x qual:Str}{st:Stmt}{f:Addr}{fd:FuncData}{ps:List Str}(F:L2.Fun K x qual st f fd)
 (h:∀(kV doc pm:Value) (an:Option Addr) (cdv ct:Value) (us:List Value),us.length=ps.length→bindArgs (fnOf x qual (defArgs st) (defBody st) (defScope st) .none kV doc pm an cdv ct) ⟨us,[]⟩=pure (ps.zip us):=by first | exact (fun _ _ _ _ _ _ us hl=>match us,hl with | [_],_=>rfl) | exact (fun _ _ _ _ _ _ us hl=>match us,hl with | [_,_],_=>rfl) | exact (fun _ _ _ _ _ _ us hl=>match us,hl with | [_,_,_],_=>rfl) | exact (fun _ _ _ _ _ _ us hl=>match us,hl with | [_,_,_,_],_=>rfl) | exact (fun _ _ _ _ _ _ us hl=>match us,hl with | [_,_,_,_,_],_=>rfl)):Binds K fd ps []:=F.binds h
theorem dof {K:Frag}{mg:Str→Option Value}{h:Heap}{x:Str}{st:Stmt}{ps:List Str}{f:Addr}{oc:Value}{od an:Option Addr}{osl:Array (Option Value)}{kV doc pm cdv ct:Value}(X:K.In h)(G:h.Ns mainGlobals mg)(l:K.lookup f=some ⟨oc,od,.func (fnOf x x (defArgs st) (defBody st) (defScope st) .none kV doc pm an cdv ct),osl⟩)(c:codeIn K cdv x=true)(k:keepIn K (.ref f)=true)(a:nsIn K mainGlobals x=some (some (.ref f)))
 (b:∀(kV doc pm:Value) (an:Option Addr) (cdv ct:Value) (us:List Value),us.length=ps.length→bindArgs (fnOf x x (defArgs st) (defBody st) (defScope st) .none kV doc pm an cdv ct) ⟨us,[]⟩=pure (ps.zip us):=by first | exact (fun _ _ _ _ _ _ us hl=>match us,hl with | [_],_=>rfl) | exact (fun _ _ _ _ _ _ us hl=>match us,hl with | [_,_],_=>rfl) | exact (fun _ _ _ _ _ _ us hl=>match us,hl with | [_,_,_],_=>rfl) | exact (fun _ _ _ _ _ _ us hl=>match us,hl with | [_,_,_,_],_=>rfl) | exact (fun _ _ _ _ _ _ us hl=>match us,hl with | [_,_,_,_,_],_=>rfl)):Def K mg x st ps:=Def.of (fun_mk l c k) ((fun_mk l c k).binds b) (mg_of X G a)
def top (i:Nat):Stmt:=PySem.Challenge.pw_trussyard_k32_no_such_pin.main.body.getD i (.Pass ⟨0,0,0,0⟩)
abbrev s_a8:Stmt:=top 15
abbrev s_ac:Stmt:=top 16
abbrev s_a3:Stmt:=top 17
abbrev s_af:Stmt:=top 20
abbrev s_a4:Stmt:=top 21
abbrev s_bi:Stmt:=top 23
abbrev s_bj:Stmt:=top 24
abbrev s_bt:Stmt:=top 25
abbrev s_b6:Stmt:=top 26
abbrev s_a2:Stmt:=top 27
abbrev s_ag:Stmt:=top 28
abbrev s_aq:Stmt:=top 30
abbrev s_bx:Stmt:=top 31
abbrev s_b5:Stmt:=top 32
abbrev s_ae:Stmt:=top 33
abbrev s_bs:Stmt:=top 34
abbrev s_a1:Stmt:=top 35
abbrev s_br:Stmt:=top 36
abbrev s_bq:Stmt:=top 37
abbrev s_bu:Stmt:=top 39
abbrev s_ad:Stmt:=top 49
abbrev s_ay:Stmt:=top 50
abbrev s_am:Stmt:=top 51
abbrev s_bp:Stmt:=top 52
abbrev s_be:Stmt:=top 55
abbrev s_bf:Stmt:=top 56
abbrev s_bg:Stmt:=top 57
abbrev s_bh:Stmt:=top 58
abbrev s_bl:Stmt:=top 59
abbrev s_b0:Stmt:=top 60
abbrev s_ak:Stmt:=top 61
abbrev s_bm:Stmt:=top 62
abbrev s_al:Stmt:=top 63
abbrev s_a0:Stmt:=top 64
abbrev s_law:Stmt:=top 65
abbrev s_ax:Stmt:=inClass (top 6) 0
abbrev s_ar:Stmt:=inClass (top 43) 0
abbrev s_a9:Stmt:=inClass (top 43) 1
abbrev s_aa:Stmt:=inClass (top 43) 2
abbrev s_a6:Stmt:=inClass (top 43) 3
abbrev s_a5:Stmt:=inClass (top 43) 4
abbrev s_as:Stmt:=inClass (top 43) 7
abbrev s_at:Stmt:=inClass (top 43) 8
abbrev s_ah:Stmt:=inClass (top 43) 9
abbrev s_au:Stmt:=inClass (top 43) 10
abbrev s_av:Stmt:=inClass (top 43) 11
abbrev s_b7:Stmt:=inClass (top 45) 0
abbrev s_ai:Stmt:=inClass (top 46) 0
abbrev s_aj:Stmt:=inClass (top 46) 1
abbrev s_aw:Stmt:=inClass (top 47) 0
section
variable {P:Program}{w:World}{K:Frag}{mg:Str→Option Value}{base:Heap}{CX:CXT}
def Nm (H:Hp)(v:V)(q:Int×Int):Prop:=∃p,v=.ref p∧H p=some (.tup [.int q.1,.int q.2])
structure Okn (k:Nat)(q:Int×Int):Prop where
 pos:0 < q.2
 top:intBits q.1≤k
 bot:intBits q.2≤k
theorem same_new {H:Hp}{p:Addr}(h:H p=none)(o:HO):Same H (upd H p o):=fun b u q=>by rw [upd_ne (ne_of_none q h)];exact q
theorem nw {H H' :Hp}{l:Addr}{o:HO}(n:H l=none)(e:upd H l o=H'):Same H H' ∧H' l=some o:=by subst e;exact ⟨same_new n o,upd_same⟩
def gives (H:Hp)(Q:VK)(q:Int×Int):Prop:=∀(p:Addr) (H' :Hp),Same H H' →H' p=some (.tup [.int q.1,.int q.2])→Q (.ref p) H'
inductive spShared (vs:List V)(H:Hp)(Q:VK)(E_:XK):Prop where
 | mk (a b:Int) (_:vs=[.int a,.int b]) (_:Q (.int (gz a b)) H):spShared vs H Q E_
def subQ (x y:Int×Int):Int×Int:=low (x.1*y.2 - y.1*x.2) (x.2*y.2)
theorem pos_mul {x y:Int×Int}{k l:Nat}(hx:Okn k x)(hy:Okn l y):x.2*y.2≠0:=Int.ne_of_gt (Int.mul_pos hx.pos hy.pos)
theorem at0 {a b:V}:atI [a,b] 0=some a:=rfl
theorem at1 {a b:V}:atI [a,b] 1=some b:=rfl
theorem Nm.kept {H H' :Hp}{D:Addr}{ys:List V}{v:V}{q:Int×Int}(h:Nm H v q)(hD:H D=some (.lst ys))(k:KSame D H H'):Nm H' v q:=by
 obtain ⟨p,e,z⟩:=h
 exact ⟨p,e,k p _ (fun e=>by rw [e,hD] at z;cases z) z⟩
inductive Ln (H:Hp)(v:V)(l:List Int):Prop where
 | mk (p:_) (_:v=.ref p) (_:H p=some (.lst (l.map V.int))):Ln H v l
theorem Ln.same {H H' :Hp}{v:V}{l:List Int}(h:Ln H v l)(s:Same H H'):Ln H' v l:=by
 obtain ⟨p,e,k⟩:=h
 exact ⟨p,e,s _ _ k⟩
def Lns (H:Hp)(us:List V)(ls:List (List Int)):Prop:=us.length=ls.length∧∀(i:Nat) (u:V) (l:List Int),us[i]? =some u→ls[i]? =some l→Ln H u l
theorem Lns.same {H H' :Hp}{us:List V}{ls:List (List Int)}(h:Lns H us ls)(s:Same H H'):Lns H' us ls:=⟨h.1,fun i u l e1 e2=>(h.2 i u l e1 e2).same s⟩
theorem ln_at {l:List Int}{j:Nat}(h:j < l.length):atI (l.map V.int) (j:Int)=some (.int (l.getD j 0)):=atI_nat (by rw [List.getElem?_map,gE h,List.getD_eq_getElem?_getD,gE h];rfl)
theorem getD_mem {l:List Int}{j:Nat}{x:Int}(e:l[j]? =some x):l.getD j 0=x:=by rw [List.getD_eq_getElem?_getD,e];rfl
def Bd (b:Nat)(l:List Int):Prop:=∀j,(l.getD j 0).natAbs≤2^b
theorem Bd.mem {b:Nat}{l:List Int}(h:Bd b l){x:Int}(hx:x∈l):x.natAbs≤2^b:=by
 obtain ⟨i,hi⟩:=List.getElem?_of_mem hx
 rw [← getD_mem hi]
 exact h i
theorem Bd.up {b c:Nat}{l:List Int}(h:Bd b l)(hc:b≤c):Bd c l:=fun j=>pw_up (h j) hc
theorem sc_a3:FnScope ["one","other","left"] ["one","other"] (defScope s_a3):=sq
theorem ok_a3 (D:Def K mg "greatest_shared" s_a3 ["one","other"])(m_abs:mg "abs"=none):Fn P w K mg base CX 1 "greatest_shared" ["one","other"] spShared:=by
 refine D.ok sc_a3 (fun vs H Q E h=> ?_) (fun f cdv A outer s H vs Q E hr h=> ?_)
 ·obtain ⟨a,b,rfl,_⟩:=h
  rfl
 obtain ⟨a,b,rfl,q⟩:=h
 refine ⟨_,(pss_cons (ps_while PassesOwn.never (pt_cmpR op_ne (pv 1) pe_int (nomark _)) (pss_cons (ps_set (i:=2) sc_a3.nd rfl (Or.inl rfl) (pe_op op_modB (pv 0) (pv 1)))
   (pss_cons (ps_set (i:=0) sc_a3.nd rfl (Or.inl rfl) (pv 1))
   (pss_one (ps_set (i:=1) sc_a3.nd rfl (Or.inl rfl) (pv 2))))))
  (pss_one (ps_ret (pe_callB call_abs rfl m_abs b_abs (pac (pv 0) pa_nil))))),?_⟩
 refine while_by (fun σ H' =>∃(x y:Int) (l:Option V),σ=[some (.int x),some (.int y),l]∧H' =H∧Int.gcd x y=Int.gcd a b) (fun σ _=>match σ with | [_,some (.int y),_]=>y.natAbs | _=>0) ⟨a,b,none,rfl,rfl,rfl⟩ ?_ ?_
 ·rintro σ H' ⟨x,y,l,rfl,rfl,g⟩
  refine ⟨_,rfl,rfl,_,rfl,?_⟩
  refine ite2 (fun c=> ?_) (fun c=> ?_)
  ·have hy:y≠0:=by
    intro z
    subst z
    simp at c
   refine ⟨_,rfl,_,rfl,_,_,rfl,rfl,hy,?_⟩
   refine ⟨_,rfl,_,rfl,?_⟩
   exact ⟨⟨_,_,_,rfl,rfl,by rw [gcd_step];exact g⟩,fmod_less hy⟩
  ·have hy:y=0:=by
    have:=Bool.eq_false_iff.mpr c
    simp at this
    exact this
   subst hy
   refine ⟨_,rfl,x,rfl,?_⟩
   have e:(if x < 0 then -x else x)=gz a b:=by
    rw [Int.gcd_zero_right] at g
    unfold gz
    rw [← g]
    split <;> omega
   rw [e]
   exact q
 ·rintro σ H' Q1 Q2 h ⟨v,e1,e2,k,ek,z⟩
  exact ⟨v,e1,e2,k,ek,h _ _ z⟩
inductive spLowestU (vs:List V)(H:Hp)(Q:VK)(E_:XK):Prop where
 | mk (t b:Int) (_:vs=[.int t,.int b]) (_:b≠0) (_:gives H Q (low t b)):spLowestU vs H Q E_
theorem sc_ac:FnScope ["top","bottom","shared"] ["top","bottom"] (defScope s_ac):=sq
theorem ok_ac (ht:P.given.tree=none)(D:Def K mg "lowest_terms" s_ac ["top","bottom"])(G_a3:Fn P w K mg base (CXr P w) 1 "greatest_shared" ["one","other"] spShared):Fn P w K mg base (CXr P w) 33 "lowest_terms" ["top","bottom"] spLowestU:=by
 refine D.ok sc_ac (fun vs H Q E h=> ?_) (fun f cdv A outer s H vs Q E hr h=> ?_)
 ·obtain ⟨t,b,rfl,_⟩:=h
  rfl
 obtain ⟨t,b,rfl,hb,q⟩:=h
 have tail2:∃tt,PSs (cxOf (CXr P w) P w K mg base ["top","bottom","shared"] "lowest_terms" (defScope s_ac) f cdv A outer s H E).nox ((defBody s_ac).drop 2) tt∧∀g:Int,g=sg t b→tt {nx:=fun _ H' =>Q .non H',rt:=Q} [some (.int t),some (.int b),some (.int g)] H:=by
  refine ⟨_,(pss_one (ps_ret (pe_tup (pac (pe_op (op_fdivU ht (Ty.Room.py hr (by decide)) rfl rfl rfl rfl rfl) (pv 0) (pv 2)) (pac (pe_op (op_fdivU ht (Ty.Room.py hr (by decide)) rfl rfl rfl rfl rfl) (pv 1) (pv 2)) pa_nil))))),?_⟩
  rintro g rfl
  have c:=sg_ne (t:=t) hb
  refine ⟨_,rfl,_,rfl,_,_,rfl,rfl,c,_,rfl,_,rfl,_,_,rfl,rfl,c,(by show 2≤sizeLine;decide),fun p hp=> ?_⟩
  exact q p _ (same_new hp _) upd_same
 obtain ⟨t2,p2,q2⟩:=tail2
 refine ⟨_,(pss_cons (ps_set (i:=2) sc_ac.nd rfl (Or.inl rfl) (pe_fn G_a3 hr.mo pX (pac (pv 0) (pac (pv 1) pa_nil)))) (pss_cons (ps_if (pt_cmpR op_lt (pv 1) pe_int (nomark _)) (pss_one (ps_set (i:=2) sc_ac.nd rfl (Or.inl rfl) (pe_un un_neg (pv 2)))) pss_nil) p2)),?_⟩
 refine ⟨_,rfl,_,rfl,t,b,rfl,?_⟩
 refine ⟨_,rfl,_,_,rfl,rfl,_,rfl,?_⟩
 refine ite2 (fun c=> ?_) (fun c=> ?_)
 ·refine ⟨_,rfl,_,rfl,q2 _ ?_⟩
  have c' :b < 0:=of_decide_eq_true c
  unfold sg
  rw [if_pos c']
 ·refine q2 _ ?_
  have c' :¬ b < 0:=of_decide_eq_false (Bool.eq_false_iff.mpr c)
  unfold sg
  rw [if_neg c']
inductive spWR (K:Frag)(vs:List V)(H:Hp)(Q:VK)(E_:XK):Prop where
 | mk (a:Addr) (qs:List (Int×Int)) (T B:Nat) (_:vs=[.ref a]) (_:RowK K H a qs) (_:(∀q∈qs,Sm T B q)) (_:T≤20000) (_:B*qs.length≤8000) (_:B≤8000) (_:qs.length≤1000) (_:∀(p l:Addr) (ts:List Int) (b:Int) (H' :Hp),Same H H' →H l=none→H' p=some (.tup [.ref l,.int b])→H' l=some (.lst (ts.map V.int))→0 < b→b.natAbs≤2^(B*qs.length)→Whole ts qs b→(∀t∈ts,t.natAbs≤2^(T+B*qs.length))→Q (.ref p) H'):spWR K vs H Q E_
theorem sc_b5:FnScope ["row","bottom","number"] ["row"] (defScope s_b5):=sq
theorem ok_b5 (D:Def K mg "whole_row" s_b5 ["row"])(G_a3:Fn P w K mg base (CXr P w) 1 "greatest_shared" ["one","other"] spShared):Fn P w K mg base (CXr P w) 2 "whole_row" ["row"] (spWR K):=by
 refine D.ok sc_b5 (fun vs H Q E h=> ?_) (fun f cdv A outer s H vs Q E hr h=> ?_)
 ·obtain ⟨a,qs,T,B,rfl,_⟩:=h
  rfl
 obtain ⟨a,qs,T,B,rfl,⟨us,hS,hN⟩,sm,hT,hB,hB1,hl,q⟩:=h
 refine ⟨_,(pss_cons (ps_set (i:=1) sc_b5.nd rfl (Or.inr rfl) pe_int)
  (pss_cons (ps_for PassesOwn.never rfl (pi_list (pv 0)) (pg_name (i:=2) sc_b5.nd rfl (Or.inl rfl)) (pss_one (ps_set (i:=1) sc_b5.nd rfl (Or.inr rfl) (pe_op op_mulB (pe_op op_fdivB (pv 1) (pe_fn G_a3 hr.mo pX (pac (pv 1) (pac (pe_tx (pv 2)) pa_nil)))) (pe_tx (pv 2))))))
  (pss_one (ps_ret (pe_tup (pac (pe_comp (tn:=["number"]) (fr:=["bottom"]) (caps:=[1]) rfl ⟨rfl,by decide+kernel,rfl,by decide+kernel,by decide+kernel,rfl,⟨(by first | exact Or.inl rfl | exact Or.inr rfl),trivial⟩,⟨(by first | exact Or.inl rfl | exact Or.inr rfl),trivial⟩⟩ (pi_list (pv 0)) (fun _ _ _ _=>(pg_name (i:=0) (show (["number","bottom"]:List Str).Nodup from by decide+kernel) rfl (Or.inl rfl))) (fun _ _ _ _=>pf_nil) (fun _ _ _ _=>(pe_op op_mulB (pe_ix (ix_tupK (K:=K) rfl) (pv 0) pe_int (fun _ _=>rfl)) (pe_op op_fdivB (pv 1) (pe_ix (ix_tupK (K:=K) rfl) (pv 0) pe_int (fun _ _=>rfl)))))) (pac (pv 1) pa_nil))))))),?_⟩
 have hlu:=hN.1
 have qat:∀{i:Nat} {u:V},us[i]? =some u→∃q,qs[i]? =some q∧NmK K H u q∧Sm T B q:=fun {i u} e=>by
  have hi:i < us.length:=(List.getElem?_eq_some_iff.mp e).1
  have e2:qs[i]? =some (qs[i]'(by omega)):=gE (by omega)
  exact ⟨_,e2,hN.2 i u _ e e2,sm _ (List.getElem_mem _)⟩
 refine ⟨_,rfl,a,rfl,⟨_,hS⟩,for_list (K:=K) (a:=a) (xs:=us) (fun i σ H' =>∃(b:Int) (o:Option V),σ=[some (.ref a),some (.int b),o]∧H' =H∧0 < b∧b.natAbs≤2^(B*i)∧∀j,j < i→∀q,qs[j]? =some q→q.2 ∣ b) ⟨1,none,rfl,rfl,by decide,by simp,fun j h=>absurd h (Nat.not_lt_zero _)⟩ (fun i σ H' _ ⟨b,o,_,e,_⟩=>by rw [e];exact hS) ?_ ?_⟩
 ·rintro i u σ H' hu ⟨b,o,rfl,rfl,hb,hs,hd⟩
  obtain ⟨n,en,⟨p,rfl,hp⟩,sn⟩:=qat hu
  have hi:i < qs.length:=(List.getElem?_eq_some_iff.mp en).1
  have nb:n.2.natAbs≤2^B:=sn.bot
  obtain ⟨l1,l2,l3,l4⟩:=lcm_step hb sn.pos
  have gp:=gz_pos (t:=b) (b:=n.2) (by have:=sn.pos;omega)
  have gl:=gz_le (t:=b) (b:=n.2) (by have:=sn.pos;omega)
  have sz:(b.fdiv (gz b n.2)*n.2).natAbs≤2^(B*(i+1)):=by
   refine Nat.le_trans l4 ?_
   rw [Nat.mul_succ,Nat.pow_add]
   exact Nat.mul_le_mul hs nb
  have bi:B*i≤8000:=Nat.le_trans (Nat.mul_le_mul_left B (by omega)) hB
  have g1:gz b n.2 ∣ b:=Int.gcd_dvd_left ..
  refine ⟨_,rfl,_,rfl,_,rfl,p,_,_,_,rfl,rfl,hp,at1,b,n.2,rfl,?_⟩
  refine ⟨_,_,rfl,rfl,⟨by omega,Nat.le_trans (pw_bits (Nat.le_trans gl nb) (Nat.lt_succ_self B)) (by omega)⟩,?_⟩
  refine ⟨_,rfl,p,_,_,_,rfl,rfl,hp,at1,_,_,rfl,rfl,pw_cmul (Nat.le_trans (fdiv_size (by omega) g1) hs) nb (by omega) (by omega),?_⟩
  refine ⟨_,_,rfl,rfl,l1,sz,fun j hj q' e' => ?_⟩
  rcases Nat.lt_succ_iff_lt_or_eq.mp hj with z | z
  ·exact Int.dvd_trans (hd j z q' e') l2
  ·subst z
   rw [en] at e'
   cases e'
   exact l3
 ·rintro σ H' ⟨b,o,rfl,rfl,hb,hs,hd⟩
  rw [hlu] at hs hd
  refine ⟨_,rfl,a,rfl,⟨_,hS⟩,fun D nD=> ?_⟩
  refine comp_list (cap:=[some (.int b)]) (K:=K) (a:=a) (xs:=us) (fun i v _=>∃q,qs[i]? =some q∧v=.int (q.1*b.fdiv q.2)) nD (by rw [hlu];exact Nat.lt_of_le_of_lt hl (by decide)) (fun H2 s2=>s2.seq hS) (fun _ _ _ _ _ _ _ h=>h) ?_ ?_
  ·intro i u H2 R hu s2 k
   obtain ⟨n,en,⟨p,rfl,hp⟩,sn⟩:=qat hu
   have hp2:=Ty.Same.seqT s2 hp
   have dv:=hd i (List.getElem?_eq_some_iff.mp en).1 n en
   have n0:n.2≠0:=by have:=sn.pos;omega
   refine ⟨_,rfl,p,_,_,_,rfl,rfl,hp2,at0,?_⟩
   refine ⟨_,rfl,_,rfl,p,_,_,_,rfl,rfl,hp2,at1,_,_,rfl,rfl,⟨n0,Nat.le_trans (pw_bits sn.bot (Nat.lt_succ_self B)) (by omega)⟩,?_⟩
   exact ⟨_,_,rfl,rfl,pw_cmul sn.top (Nat.le_trans (fdiv_size n0 dv) hs) (by omega) (by omega),k _ _ (Same.refl _) ⟨n,en,rfl⟩⟩
  ·intro ys H2 hy hrel s2 hD
   have ey:ys=(qs.map fun n=>n.1*b.fdiv n.2).map V.int:=by
    refine List.ext_getElem? fun i=> ?_
    by_cases hi:i < ys.length
    ·have e1:ys[i]? =some ys[i]:=gE hi
     obtain ⟨n,en,ev⟩:=hrel i _ e1
     rw [e1,ev,List.getElem?_map,List.getElem?_map,en]
     rfl
    ·rw [List.getElem?_eq_none (by omega),List.getElem?_eq_none (by simp;omega)]
   refine ⟨_,rfl,(by show 2≤sizeLine;decide),fun p np=> ?_⟩
   have s3:=same_new np (.tup [.ref D,.int b])
   refine q p D (qs.map fun n=>n.1*b.fdiv n.2) b _ (s2.trans s3) nD upd_same (s3 _ _ (by rw [hD,ey])) hb hs ⟨by simp,fun i t n e1 e2=> ?_⟩ (fun t ht=> ?_)
   ·rw [List.getElem?_map,e2] at e1
    have e1' :n.1*b.fdiv n.2=t:=Option.some.inj e1
    rw [← e1']
    exact whole_one (sm n (List.mem_of_getElem? e2)).pos (hd i (List.getElem?_eq_some_iff.mp e2).1 n e2)
   ·obtain ⟨n,hn,rfl⟩:=List.mem_map.mp ht
    obtain ⟨i,hi⟩:=List.getElem?_of_mem hn
    have n0:n.2≠0:=by have:=(sm n hn).pos;omega
    exact pw_mul (sm n hn).top (Nat.le_trans (fdiv_size n0 (hd i (List.getElem?_eq_some_iff.mp hi).1 n hi)) hs)
structure Dv (l l' :List Int):Prop where
 len:l'.length=l.length
 fac:∃g:Int,g≠0∧∀j,g*l'.getD j 0=l.getD j 0
inductive spDivided (vs:List V)(H:Hp)(Q:VK)(E_:XK):Prop where
 | mk (v:V) (l:List Int) (_:vs=[v]) (_:Ln H v l) (_:l.length≤1000) (_:∀v' l' H',Same H H' →Ln H' v' l' →Dv l l' →(v' =v∨∃p,v' =.ref p∧H p=none)→Q v' H'):spDivided vs H Q E_
theorem dv_refl (l:List Int):Dv l l:=⟨rfl,1,by decide,fun j=>Int.one_mul _⟩
theorem sc_bq:FnScope ["line","shared","whole"] ["line"] (defScope s_bq):=sq
theorem ok_bq (ht:P.given.tree=none)(D:Def K mg "divided" s_bq ["line"])(G_a3:Fn P w K mg base (CXr P w) 1 "greatest_shared" ["one","other"] spShared):Fn P w K mg base (CXr P w) 33 "divided" ["line"] spDivided:=by
 refine D.ok sc_bq (fun vs H Q E h=> ?_) (fun f cdv A outer s H vs Q E hr h=> ?_)
 ·obtain ⟨v,l,rfl,_⟩:=h
  rfl
 obtain ⟨v,l,rfl,⟨a,rfl,ha⟩,hn,q⟩:=h
 have same:Q (.ref a) H:=q _ l H (Same.refl H) ⟨a,rfl,ha⟩ (dv_refl l) (.inl rfl)
 refine ⟨_,(pss_cons (ps_set (i:=1) sc_bq.nd rfl (Or.inr rfl) pe_int)
  (pss_cons (ps_for PassesOwn.never rfl (pi_list (pv 0)) (pg_name (i:=2) sc_bq.nd rfl (Or.inl rfl)) (pss_cons (ps_set (i:=1) sc_bq.nd rfl (Or.inr rfl) (pe_fn G_a3 hr.mo pX (pac (pv 2) (pac (pv 1) pa_nil))))
   (pss_one (ps_if (pt_cmpR op_eq (pv 1) pe_int (nomark _)) (pss_one (ps_ret (pv 0))) pss_nil))))
  (pss_one (ps_ret (pe_ifExp (pt_cmpR op_gt (pv 1) pe_int (nomark _)) (pe_comp (tn:=["whole"]) (fr:=["shared"]) (caps:=[1]) rfl ⟨rfl,by decide+kernel,rfl,by decide+kernel,by decide+kernel,rfl,⟨(by first | exact Or.inl rfl | exact Or.inr rfl),trivial⟩,⟨(by first | exact Or.inl rfl | exact Or.inr rfl),trivial⟩⟩ (pi_list (pv 0)) (fun _ _ _ _=>(pg_name (i:=0) (show (["whole","shared"]:List Str).Nodup from by decide+kernel) rfl (Or.inl rfl))) (fun _ _ _ _=>pf_nil) (fun _ _ _ _=>(pe_op (op_fdivU ht (Ty.Room.py hr (by decide)) rfl rfl rfl rfl rfl) (pv 0) (pv 1)))) (pv 0)))))),?_⟩
 refine ⟨_,rfl,a,rfl,⟨_,SqL.of ha⟩,for_list (K:=K) (a:=a) (xs:=l.map V.int) (fun i σ H' =>∃(g:Int) (o:Option V),σ=[some (.ref a),some (.int g),o]∧H' =H∧0≤g∧∀j,j < i→∀x,l[j]? =some x→g ∣ x) ⟨0,none,rfl,rfl,by decide,fun j h=>absurd h (Nat.not_lt_zero _)⟩ (fun i σ H' _ ⟨g,o,_,e,_⟩=>by rw [e];exact SqL.of ha) ?_ ?_⟩
 ·rintro i u σ H' hu ⟨g,o,rfl,rfl,g0,hg⟩
  rw [List.getElem?_map] at hu
  obtain ⟨x,ex,rfl⟩:=Option.map_eq_some_iff.mp hu
  have d1:gz x g ∣ x:=Int.gcd_dvd_left ..
  have d2:gz x g ∣ g:=Int.gcd_dvd_right ..
  have p0:0≤gz x g:=Int.natCast_nonneg _
  refine ⟨_,rfl,_,rfl,x,g,rfl,?_⟩
  refine ⟨_,rfl,rfl,_,rfl,?_⟩
  refine ite2 (fun _=>⟨_,rfl,same⟩) (fun _=> ?_)
  refine ⟨_,_,rfl,rfl,p0,fun j hj y ey=> ?_⟩
  rcases Nat.lt_succ_iff_lt_or_eq.mp hj with z | z
  ·exact Int.dvd_trans d2 (hg j z y ey)
  ·subst z
   rw [ex] at ey
   cases ey
   exact d1
 ·rintro σ H' ⟨g,o,rfl,rfl,g0,hg⟩
  rw [List.length_map] at hg
  refine ⟨_,rfl,_,_,rfl,rfl,_,rfl,?_⟩
  refine ite2 (fun c=> ?_) (fun _=>⟨_,rfl,same⟩)
  have g1:(1:Int) < g:=of_decide_eq_true c
  have gn:g≠0:=by omega
  refine ⟨_,rfl,a,rfl,⟨_,SqL.of ha⟩,fun D nD=> ?_⟩
  refine comp_list (cap:=[some (.int g)]) (K:=K) (a:=a) (xs:=l.map V.int) (fun i v _=>∃x,l[i]? =some x∧v=.int (x.fdiv g)) nD (by rw [List.length_map];exact Nat.lt_of_le_of_lt hn (by decide)) (fun H2 s2=>SqL.of (s2 _ _ ha)) (fun _ _ _ _ _ _ _ h=>h) ?_ ?_
  ·intro i u H2 R hu s2 k
   rw [List.getElem?_map] at hu
   obtain ⟨x,ex,rfl⟩:=Option.map_eq_some_iff.mp hu
   exact ⟨_,rfl,_,rfl,_,_,rfl,rfl,gn,k _ _ (Same.refl _) ⟨x,ex,rfl⟩⟩
  ·intro ys H2 hy hrel s2 hD
   rw [List.length_map] at hy
   have ey:ys=(l.map fun x=>x.fdiv g).map V.int:=by
    refine List.ext_getElem? fun i=> ?_
    by_cases hi:i < ys.length
    ·have e1:ys[i]? =some ys[i]:=gE hi
     obtain ⟨x,ex,ev⟩:=hrel i _ e1
     rw [e1,ev,List.getElem?_map,List.getElem?_map,ex]
     rfl
    ·rw [List.getElem?_eq_none (by omega),List.getElem?_eq_none (by simp;omega)]
   refine q _ (l.map fun x=>x.fdiv g) H2 s2 ⟨D,rfl,by rw [hD,ey]⟩ ⟨by simp,g,gn,fun j=> ?_⟩ (.inr ⟨D,rfl,nD⟩)
   by_cases hj:j < l.length
   ·have ej:l[j]? =some l[j]:=gE hj
    rw [getD_mem (l:=l.map fun x=>x.fdiv g) (x:=l[j].fdiv g) (by rw [List.getElem?_map,ej];rfl),getD_mem ej]
    exact (fdiv_of_dvd gn (hg j hj _ ej)).symm
   ·rw [List.getD_eq_getElem?_getD,List.getD_eq_getElem?_getD,List.getElem?_eq_none (by simp;omega),List.getElem?_eq_none (by omega)]
    simp
inductive spCleared (vs:List V)(H:Hp)(Q:VK)(E_:XK):Prop where
 | mk (u v:V) (l m:List Int) (c b1 b2:Nat) (_:vs=[u,v,.int (c:Int)]) (_:Ln H u l) (_:Ln H v m) (_:m.length=l.length) (_:c < l.length) (_:l.length≤1000) (_:m.getD c 0≠0) (_:Bd b1 l) (_:Bd b2 m) (_:b1≤29000000) (_:b2≤29000000) (_:∀v' l' H',Same H H' →Ln H' v' l' →Clr l m l' c→Bd (b1+b2+1) l' →(v' =u∨∃p,v' =.ref p∧H p=none)→Q v' H'):spCleared vs H Q E_
theorem fdiv_gz {a b:Int}(ha:a≠0):a=gz a b*a.fdiv (gz a b)∧b=gz a b*b.fdiv (gz a b)∧gz a b≠0∧a.fdiv (gz a b)≠0∧(a.fdiv (gz a b)).natAbs≤a.natAbs∧(b.fdiv (gz a b)).natAbs≤b.natAbs:=by
 have gn:gz a b≠0:=by
  intro z
  have z' :((Int.gcd a b:Nat):Int)=0:=z
  have:Int.gcd a b=0:=by omega
  exact ha (Int.gcd_eq_zero_iff.mp this).1
 have d1:gz a b ∣ a:=Int.gcd_dvd_left ..
 have d2:gz a b ∣ b:=Int.gcd_dvd_right ..
 have e1:=fdiv_of_dvd gn d1
 refine ⟨e1,fdiv_of_dvd gn d2,gn,fun z=> ?_,fdiv_size gn d1,fdiv_size gn d2⟩
 rw [z,Int.mul_zero] at e1
 exact ha e1
theorem zip_lin {l m:List Int}{t u:Int}{ys:List V}(hl:m.length=l.length)(hy:ys.length=l.length)(h:∀(i:Nat) (v:V),ys[i]? =some v→∃x y,l[i]? =some x∧m[i]? =some y∧v=.int (t*x - u*y)):ys=(List.zipWith (fun x y=>t*x - u*y) l m).map V.int:=by
 refine List.ext_getElem? fun i=> ?_
 by_cases hi:i < ys.length
 ·have e1:ys[i]? =some ys[i]:=gE hi
  obtain ⟨x,y,ex,ey,ev⟩:=h i _ e1
  rw [e1,ev,List.getElem?_map,List.getElem?_zipWith,ex,ey]
  rfl
 ·rw [List.getElem?_eq_none (by omega),List.getElem?_eq_none (by simp;omega)]
theorem lin_getD {l m:List Int}{t u:Int}(hl:m.length=l.length)(j:Nat):(List.zipWith (fun x y=>t*x - u*y) l m).getD j 0=t*l.getD j 0 - u*m.getD j 0:=by
 by_cases hj:j < l.length
 ·have e1:l[j]? =some l[j]:=gE hj
  have e2:m[j]? =some (m[j]'(by omega)):=gE (by omega)
  rw [getD_mem e1,getD_mem e2]
  exact getD_mem (by rw [List.getElem?_zipWith,e1,e2])
 ·rw [List.getD_eq_getElem?_getD,List.getD_eq_getElem?_getD,List.getD_eq_getElem?_getD,List.getElem?_eq_none (by simp;omega),List.getElem?_eq_none (by omega),List.getElem?_eq_none (by omega)]
  simp
theorem sc_br:FnScope ["line","lead","column","shared","times","less"] ["line","lead","column"] (defScope s_br):=sq
theorem ok_br (ht:P.given.tree=none)(D:Def K mg "cleared" s_br ["line","lead","column"])(m_zip:mg "zip"=none)(G_a3:Fn P w K mg base (CXr P w) 1 "greatest_shared" ["one","other"] spShared)(G_bq:Fn P w K mg base (CXr P w) 33 "divided" ["line"] spDivided):Fn P w K mg base (CXr P w) 34 "cleared" ["line","lead","column"] spCleared:=by
 refine D.ok sc_br (fun vs H Q E h=> ?_) (fun f cdv A outer s H vs Q E hr h=> ?_)
 ·obtain ⟨u,v,l,m,c,b1,b2,rfl,_⟩:=h
  rfl
 obtain ⟨u,v,l,m,c,b1,b2,rfl,⟨a,rfl,ha⟩,⟨a',rfl,ha'⟩,hl,hc,hn,hm,B1,B2,hb1,hb2,q⟩:=h
 refine ⟨_,(pss_cons (ps_if (pt_cmpR op_eq (pe_ix ix_list (pv 0) (pv 2) (fun _ _=>rfl)) pe_int (nomark _)) (pss_one (ps_ret (pv 0))) pss_nil)
  (pss_cons (ps_set (i:=3) sc_br.nd rfl (Or.inl rfl) (pe_fn G_a3 hr.mo pX (pac (pe_ix ix_list (pv 1) (pv 2) (fun _ _=>rfl)) (pac (pe_ix ix_list (pv 0) (pv 2) (fun _ _=>rfl)) pa_nil))))
  (pss_cons (ps_set (i:=4) sc_br.nd rfl (Or.inr rfl) (pe_op (op_fdivU ht (Ty.Room.py hr (by decide)) rfl rfl rfl rfl rfl) (pe_ix ix_list (pv 1) (pv 2) (fun _ _=>rfl)) (pv 3)))
  (pss_cons (ps_set (i:=5) sc_br.nd rfl (Or.inr rfl) (pe_op (op_fdivU ht (Ty.Room.py hr (by decide)) rfl rfl rfl rfl rfl) (pe_ix ix_list (pv 0) (pv 2) (fun _ _=>rfl)) (pv 3)))
  (pss_one (ps_ret (pe_fn G_bq hr.mo pX (pac (pe_comp (tn:=["whole","other"]) (fr:=["times","less"]) (caps:=[4,5]) rfl ⟨rfl,by decide+kernel,rfl,by decide+kernel,by decide+kernel,rfl,⟨(by first | exact Or.inl rfl | exact Or.inr rfl),⟨(by first | exact Or.inl rfl | exact Or.inr rfl),trivial⟩⟩,⟨(by first | exact Or.inl rfl | exact Or.inr rfl),⟨(by first | exact Or.inl rfl | exact Or.inr rfl),trivial⟩⟩⟩ (pi_zip rfl m_zip (pac (pv 0) (pac (pv 1) pa_nil))) (fun _ _ _ _=>(pg_tupK (K:=K) (n:=2) rfl rfl (pgs_cons (pg_name (i:=0) (show (["whole","other","times","less"]:List Str).Nodup from by decide+kernel) rfl (Or.inl rfl)) (pgs_cons (pg_name (i:=1) (show (["whole","other","times","less"]:List Str).Nodup from by decide+kernel) rfl (Or.inl rfl)) pgs_nil)))) (fun _ _ _ _=>pf_nil) (fun _ _ _ _=>(pe_op op_sub (pe_op op_mulB (pv 2) (pv 0)) (pe_op op_mulB (pv 3) (pv 1))))) pa_nil)))))))),?_⟩
 have ea:=ln_at (l:=l) hc
 have em:=ln_at (l:=m) (j:=c) (by omega)
 refine ⟨_,rfl,_,rfl,a,_,_,_,rfl,rfl,SqL.of ha,ea,rfl,_,rfl,?_⟩
 refine ite2 (fun z=> ?_) (fun z=> ?_)
 ·have z' :l.getD c 0=0:=by simpa using of_decide_eq_true z
  exact ⟨_,rfl,q _ l H (Same.refl H) ⟨a,rfl,ha⟩ ⟨rfl,z',1,1,0,by decide,by decide,fun j=>by omega⟩ (B1.up (by omega)) (.inl rfl)⟩
 ·obtain ⟨f1,f2,f3,f4,f5,f6⟩:=fdiv_gz (a:=m.getD c 0) (b:=l.getD c 0) hm
  refine ⟨_,rfl,_,rfl,a',_,_,_,rfl,rfl,SqL.of ha',em,_,rfl,_,rfl,a,_,_,_,rfl,rfl,SqL.of ha,ea,_,_,rfl,?_⟩
  refine ⟨_,rfl,_,rfl,a',_,_,_,rfl,rfl,SqL.of ha',em,_,rfl,_,_,rfl,rfl,f3,?_⟩
  refine ⟨_,rfl,_,rfl,a,_,_,_,rfl,rfl,SqL.of ha,ea,_,rfl,_,_,rfl,rfl,f3,?_⟩
  refine ⟨_,rfl,_,rfl,a,a',rfl,⟨_,SqL.of ha⟩,⟨_,SqL.of ha'⟩,fun D1 n1=> ?_⟩
  have st:((m.getD c 0).fdiv (gz (m.getD c 0) (l.getD c 0))).natAbs≤2^b2:=Nat.le_trans f5 (B2 c)
  have su:((l.getD c 0).fdiv (gz (m.getD c 0) (l.getD c 0))).natAbs≤2^b1:=Nat.le_trans f6 (B1 c)
  refine comp_zip (cap:=[some (.int ((m.getD c 0).fdiv (gz (m.getD c 0) (l.getD c 0)))),some (.int ((l.getD c 0).fdiv (gz (m.getD c 0) (l.getD c 0))))]) (K:=K) (xs:=l.map V.int) (ys:=m.map V.int) (fun i v _=>∃x y,l[i]? =some x∧m[i]? =some y∧v=.int ((m.getD c 0).fdiv (gz (m.getD c 0) (l.getD c 0))*x - (l.getD c 0).fdiv (gz (m.getD c 0) (l.getD c 0))*y)) n1 (by rw [List.length_map];exact Nat.lt_of_le_of_lt hn (by decide)) (by simpa using hl) (fun H2 s2=>SqL.of (s2 _ _ ha)) (fun H2 s2=>SqL.of (s2 _ _ ha')) (fun _ _ _ _ _ _ _ h=>h) ?_ ?_
  ·intro i x y H2 R ex ey s2 k
   rw [List.getElem?_map] at ex ey
   obtain ⟨x',ex',rfl⟩:=Option.map_eq_some_iff.mp ex
   obtain ⟨y',ey',rfl⟩:=Option.map_eq_some_iff.mp ey
   refine ⟨_,rfl,_,rfl,_,_,rfl,rfl,pw_cmul st (B1.mem (List.mem_of_getElem? ex')) (by omega) (by omega),?_⟩
   exact ⟨_,rfl,_,rfl,_,_,rfl,rfl,pw_cmul su (B2.mem (List.mem_of_getElem? ey')) (by omega) (by omega),_,_,rfl,rfl,k _ _ (Same.refl _) ⟨x',y',ex',ey',rfl⟩⟩
  ·intro ys H2 hy hrel s2 hD
   rw [List.length_map] at hy
   have ey:=zip_lin hl hy hrel
   refine ⟨_,_,rfl,⟨D1,rfl,by rw [hD,ey]⟩,by simp;omega,fun v' l' H3 s3 L3 dv fr=> ?_⟩
   obtain ⟨g,gn,hg⟩:=dv.fac
   have lin:∀j,g*l'.getD j 0=(m.getD c 0).fdiv (gz (m.getD c 0) (l.getD c 0))*l.getD j 0 - (l.getD c 0).fdiv (gz (m.getD c 0) (l.getD c 0))*m.getD j 0:=fun j=>by rw [hg j,lin_getD hl]
   refine q v' l' H3 (s2.trans s3) L3 ⟨by rw [dv.len];simp [hl],?_,g,_,_,gn,f4,lin⟩ (fun j=> ?_) ?_
   ·have e:=lin c
    have z2:(m.getD c 0).fdiv (gz (m.getD c 0) (l.getD c 0))*l.getD c 0 - (l.getD c 0).fdiv (gz (m.getD c 0) (l.getD c 0))*m.getD c 0=0:=by
     generalize gz (m.getD c 0) (l.getD c 0)=G at*
     generalize (m.getD c 0).fdiv G=t at*
     generalize (l.getD c 0).fdiv G=u at*
     rw [f1,f2]
     grind
    rw [z2] at e
    rcases Int.mul_eq_zero.mp e with y | y
    ·exact absurd y gn
    ·exact y
   ·have b:(g*l'.getD j 0).natAbs≤2^(b1+b2+1):=by
     rw [lin j,Int.sub_eq_add_neg]
     refine pw_add (pw_up (pw_mul st (B1 j)) (by omega)) ?_
     rw [Int.natAbs_neg]
     exact pw_mul su (B2 j)
    exact Nat.le_trans (natAbs_factor gn) b
   ·rcases fr with z | ⟨p,e,n⟩
    ·exact .inr ⟨D1,z,n1⟩
    ·exact .inr ⟨p,e,s2.free n⟩
inductive spFirst (K:Frag)(vs:List V)(H:Hp)(Q:VK)(E_:XK):Prop where
 | mk (a:Addr) (us:List V) (ls:List (List Int:_)) (c:Nat) (_:vs=[.ref a,.int (c:Int)]) (_:SqL K H a us) (_:Lns H us ls) (_:(∀l∈ls,c < l.length)) (_:(∀(i:Nat) (l:List Int) (H' :Hp),Same H H' →ls[i]? =some l→l.getD c 0≠0→Q (.int (i:Int)) H')) (_:((∀l∈ls,l.getD c 0=0)→∀H',Same H H' →Q .non H')):spFirst K vs H Q E_
theorem Lns.at {H:Hp}{us:List V}{ls:List (List Int)}(h:Lns H us ls){i:Nat}{u:V}(e:us[i]? =some u):∃l,ls[i]? =some l∧Ln H u l:=by
 have hi:i < us.length:=(List.getElem?_eq_some_iff.mp e).1
 have hl:=h.1
 have e2:ls[i]? =some (ls[i]'(by omega)):=gE (by omega)
 exact ⟨_,e2,h.2 i u _ e e2⟩
theorem Lns.at' {H:Hp}{us:List V}{ls:List (List Int)}(h:Lns H us ls){i:Nat}{l:List Int}(e:ls[i]? =some l):∃u,us[i]? =some u∧Ln H u l:=by
 have hi:i < ls.length:=(List.getElem?_eq_some_iff.mp e).1
 have hl:=h.1
 have e2:us[i]? =some (us[i]'(by omega)):=gE (by omega)
 exact ⟨_,e2,h.2 i _ l e2 e⟩
theorem sc_a1:FnScope ["lines","column","at","line"] ["lines","column"] (defScope s_a1):=sq
theorem ok_a1 (D:Def K mg "first_not_nought" s_a1 ["lines","column"])(m_enumerate:mg "enumerate"=none):Fn P w K mg base (CXr P w) 1 "first_not_nought" ["lines","column"] (spFirst K):=by
 refine D.ok sc_a1 (fun vs H Q E h=> ?_) (fun f cdv A outer s H vs Q E hr h=> ?_)
 ·obtain ⟨a,us,ls,c,rfl,_⟩:=h
  rfl
 obtain ⟨a,us,ls,c,rfl,hS,L,hc,q1,q2⟩:=h
 have lu:=L.1
 refine ⟨_,(pss_cons (ps_for PassesOwn.never rfl (pi_enum rfl m_enumerate (pac (pv 0) pa_nil)) (pg_tup rfl (pgs_cons (pg_name (i:=2) sc_a1.nd rfl (Or.inl rfl)) (pgs_cons (pg_name (i:=3) sc_a1.nd rfl (Or.inl rfl)) pgs_nil))) (pss_one (ps_if (pt_cmpR op_ne (pe_ix ix_list (pv 3) (pv 1) (fun _ _=>rfl)) pe_int (nomark _)) (pss_one (ps_ret (pv 2))) pss_nil)))
  (pss_one (ps_ret pe_non))),?_⟩
 refine ⟨_,rfl,a,rfl,⟨_,hS⟩,for_enum (K:=K) (a:=a) (xs:=us) (fun i σ H' =>∃o1 o2:Option V,σ=[some (.ref a),some (.int (c:Int)),o1,o2]∧Same H H' ∧∀j,j < i→∀l,ls[j]? =some l→l.getD c 0=0) ⟨none,none,rfl,Same.refl H,fun j h=>absurd h (Nat.not_lt_zero _)⟩ (fun i σ H' _ ⟨o1,o2,_,s1,_⟩=>s1.seq hS) ?_ ?_⟩
 ·rintro i u σ H' p hu ⟨o1,o2,rfl,s1,z⟩ np
  obtain ⟨l,el,b,rfl,hb⟩:=L.at hu
  have s2:=s1.trans (same_new np (.tup [.int (i:Int),.ref b]))
  have hcl:=hc l (List.mem_of_getElem? el)
  refine ⟨p,_,rfl,SqT.of upd_same,rfl,_,_,rfl,_,_,rfl,rfl,?_⟩
  refine ⟨_,rfl,_,rfl,b,_,_,_,rfl,rfl,SqL.of (s2 _ _ hb),ln_at hcl,rfl,_,rfl,?_⟩
  refine ite2 (fun y=> ?_) (fun y=> ?_)
  ·have y' :l.getD c 0≠0:=by simpa using y
   exact ⟨_,rfl,q1 i l _ s2 el y'⟩
  ·have y' :l.getD c 0=0:=by simpa using y
   refine ⟨_,_,rfl,s2,fun j hj l' e' => ?_⟩
   rcases Nat.lt_succ_iff_lt_or_eq.mp hj with w | w
   ·exact z j w l' e'
   ·subst w
    rw [el] at e'
    cases e'
    exact y'
 ·rintro σ H' ⟨o1,o2,rfl,s1,z⟩
  refine q2 (fun l hl=> ?_) H' s1
  obtain ⟨j,hj⟩:=List.getElem?_of_mem hl
  exact z j (by have:=(List.getElem?_eq_some_iff.mp hj).1;omega) l hj
structure Red (os:List (List Int))(L c b:Nat)(nd:List (Nat×List Int))(lv:List (List Int)):Prop where
 lenN:∀x∈nd,x.2.length=L
 lenL:∀l∈lv,l.length=L
 cols:∀x∈nd,x.1 < c
 asc:(nd.map (·.1)).Pairwise (· < ·)
 here:∀x∈nd,x.2.getD x.1 0≠0
 off:∀x∈nd,∀y∈nd,x.1≠y.1→x.2.getD y.1 0=0
 low:∀x∈nd,∀j,j < x.1→x.2.getD j 0=0
 zero:∀l∈lv,∀j,j < c→l.getD j 0=0
 combN:∀x∈nd,Comb os x.2
 combL:∀l∈lv,Comb os l
 sol:∀z,((∀x∈nd,ev x.2 z=0)∧(∀l∈lv,ev l z=0)) ↔ ∀o∈os,ev o z=0
 bdN:∀x∈nd,Bd b x.2
 bdL:∀l∈lv,Bd b l
 cnt:nd.length+lv.length=os.length
theorem Red.start {os:List (List Int)}{L b:Nat}(hL:∀o∈os,o.length=L)(hb:∀o∈os,Bd b o):Red os L 0 b [] os where
 lenN:=by simp
 lenL:=hL
 cols:=by simp
 asc:=by simp
 here:=by simp
 off:=by simp
 low:=by simp
 zero:=fun _ _ j h=>absurd h (Nat.not_lt_zero _)
 combN:=by simp
 combL:=fun l h=>comb_mem h
 sol:=fun z=>by simp
 bdN:=by simp
 bdL:=hb
 cnt:=by simp
theorem Red.skip {os:List (List Int)}{L c b:Nat}{nd:List (Nat×List Int)}{lv:List (List Int)}(h:Red os L c b nd lv)(hz:∀l∈lv,l.getD c 0=0):Red os L (c+1) b nd lv where
 lenN:=h.lenN
 lenL:=h.lenL
 cols:=fun x hx=>Nat.lt_succ_of_lt (h.cols x hx)
 asc:=h.asc
 here:=h.here
 off:=h.off
 low:=h.low
 zero:=fun l hl j hj=>by
  rcases Nat.lt_succ_iff_lt_or_eq.mp hj with z | z
  ·exact h.zero l hl j z
  ·subst z
   exact hz l hl
 combN:=h.combN
 combL:=h.combL
 sol:=h.sol
 bdN:=h.bdN
 bdL:=h.bdL
 cnt:=h.cnt
structure Made (os:List (List Int))(lead:List Int)(c b:Nat)(xs ys:List (List Int)):Prop where
 len:ys.length=xs.length
 to:∀(i:Nat) (x:List Int),xs[i]? =some x→∃y,ys[i]? =some y∧Clr x lead y c∧Bd b y
theorem Made.ex {os:List (List Int)}{lead:List Int}{c b:Nat}{xs ys:List (List Int)}(h:Made os lead c b xs ys){y:List Int}(hy:y∈ys):∃x∈xs,Clr x lead y c∧Bd b y:=by
 obtain ⟨i,hi⟩:=List.getElem?_of_mem hy
 have hl:=h.len
 have hlt:i < ys.length:=(List.getElem?_eq_some_iff.mp hi).1
 have e:xs[i]? =some (xs[i]'(by omega)):=gE (by omega)
 obtain ⟨y',e',r⟩:=h.to i _ e
 rw [hi] at e'
 cases e'
 exact ⟨_,List.mem_of_getElem? e,r⟩
theorem Made.all {os:List (List Int)}{lead:List Int}{c b:Nat}{xs ys:List (List Int)}(h:Made os lead c b xs ys){x:List Int}(hx:x∈xs):∃y∈ys,Clr x lead y c∧Bd b y:=by
 obtain ⟨i,hi⟩:=List.getElem?_of_mem hx
 obtain ⟨y,e,r⟩:=h.to i x hi
 exact ⟨y,List.mem_of_getElem? e,r⟩
theorem Red.step {os:List (List Int)}{L c b:Nat}{nd nd' :List (Nat×List Int)}{lv lv' rest:List (List Int)}{lead:List Int}(h:Red os L c b nd lv)(hlead:lead∈lv)(hrest:∀l∈rest,l∈lv)(hall:∀l∈lv,l=lead∨l∈rest)(hlen:rest.length+1=lv.length)
  (hc:lead.getD c 0≠0) (ML:Made os lead c (2*b+1) rest lv') (hk:nd'.map (·.1)=nd.map (·.1)) (MN:Made os lead c (2*b+1) (nd.map (·.2)) (nd'.map (·.2))):Red os L (c+1) (2*b+1) (nd' ++[(c,lead)]) lv' :=by
 have ll:=h.lenL lead hlead
 have lz:=h.zero lead hlead
 have hl' :nd'.length=nd.length:=by simpa using congrArg List.length hk
 have pairs:∀x' ∈nd',∃x∈nd,x.1=x'.1∧Clr x.2 lead x'.2 c∧Bd (2*b+1) x'.2:=by
  intro x' hx'
  obtain ⟨i,hi⟩:=List.getElem?_of_mem hx'
  have hlt:i < nd'.length:=(List.getElem?_eq_some_iff.mp hi).1
  have e:nd[i]? =some (nd[i]'(by omega)):=gE (by omega)
  have e1:(nd'.map (·.1))[i]? =(nd.map (·.1))[i]? :=by rw [hk]
  rw [List.getElem?_map,List.getElem?_map,hi,e] at e1
  obtain ⟨y,e2,r⟩:=MN.to i (nd[i]'(by omega)).2 (by rw [List.getElem?_map,e];rfl)
  rw [List.getElem?_map,hi] at e2
  simp at e1 e2
  subst e2
  exact ⟨_,List.mem_of_getElem? e,e1.symm,r⟩
 have back:∀x∈nd,∃x' ∈nd',x'.1=x.1∧Clr x.2 lead x'.2 c:=by
  intro x hx
  obtain ⟨i,hi⟩:=List.getElem?_of_mem hx
  have hlt:i < nd.length:=(List.getElem?_eq_some_iff.mp hi).1
  have e:nd'[i]? =some (nd'[i]'(by omega)):=gE (by omega)
  have e1:(nd'.map (·.1))[i]? =(nd.map (·.1))[i]? :=by rw [hk]
  rw [List.getElem?_map,List.getElem?_map,hi,e] at e1
  obtain ⟨y,e2,r⟩:=MN.to i x.2 (by rw [List.getElem?_map,hi];rfl)
  rw [List.getElem?_map,e] at e2
  simp at e1 e2
  exact ⟨_,List.mem_of_getElem? e,e1,by rw [e2];exact r.1⟩
 have spl:∀x∈nd' ++[(c,lead)],x∈nd' ∨x=(c,lead):=fun x hx=>by simpa using hx
 exact {
  lenN:=fun x hx=>by
   rcases spl x hx with z | z
   ·obtain ⟨y,hy,_,k,_⟩:=pairs x z
    rw [k.len]
    exact h.lenN y hy
   ·subst z
    exact ll
  lenL:=fun l hl=>by
   obtain ⟨x,hx,k,_⟩:=ML.ex hl
   rw [k.len]
   exact h.lenL x (hrest x hx)
  cols:=fun x hx=>by
   rcases spl x hx with z | z
   ·obtain ⟨y,hy,e,_⟩:=pairs x z
    rw [← e]
    exact Nat.lt_succ_of_lt (h.cols y hy)
   ·subst z
    exact Nat.lt_succ_self _
  asc:=by
   rw [List.map_append,hk,List.pairwise_append]
   refine ⟨h.asc,by simp,fun a ha b' hb' => ?_⟩
   obtain ⟨x,hx,rfl⟩:=List.mem_map.mp ha
   have:b' =c:=by simpa using hb'
   subst this
   exact h.cols x hx
  here:=fun x hx=>by
   rcases spl x hx with z | z
   ·obtain ⟨y,hy,e,k,_⟩:=pairs x z
    rw [← e]
    exact k.at (lz _ (h.cols y hy)) (h.here y hy)
   ·subst z
    exact hc
  off:=fun x hx y hy ne=>by
   rcases spl x hx with z | z <;> rcases spl y hy with u | u
   ·obtain ⟨x0,hx0,e0,k0,_⟩:=pairs x z
    obtain ⟨y0,hy0,e1,_⟩:=pairs y u
    rw [← e1]
    exact k0.zero (h.off x0 hx0 y0 hy0 (by rw [e0,e1];exact ne)) (lz _ (h.cols y0 hy0))
   ·subst u
    obtain ⟨x0,hx0,e0,k0,_⟩:=pairs x z
    exact k0.nought
   ·subst z
    obtain ⟨y0,hy0,e1,_⟩:=pairs y u
    rw [← e1]
    exact lz _ (h.cols y0 hy0)
   ·subst z
    subst u
    exact absurd rfl ne
  low:=fun x hx j hj=>by
   rcases spl x hx with z | z
   ·obtain ⟨y,hy,e,k,_⟩:=pairs x z
    rw [← e] at hj
    exact k.zero (h.low y hy j hj) (lz j (Nat.lt_trans hj (h.cols y hy)))
   ·subst z
    exact lz j hj
  zero:=fun l hl j hj=>by
   obtain ⟨x,hx,k,_⟩:=ML.ex hl
   rcases Nat.lt_succ_iff_lt_or_eq.mp hj with z | z
   ·exact k.zero (h.zero x (hrest x hx) j z) (lz j z)
   ·subst z
    exact k.nought
  combN:=fun x hx=>by
   rcases spl x hx with z | z
   ·obtain ⟨y,hy,_,k,_⟩:=pairs x z
    exact k.comb (h.combN y hy) (h.combL lead hlead)
   ·subst z
    exact h.combL lead hlead
  combL:=fun l hl=>by
   obtain ⟨x,hx,k,_⟩:=ML.ex hl
   exact k.comb (h.combL x (hrest x hx)) (h.combL lead hlead)
  sol:=fun z=>by
   rw [← h.sol z]
   constructor
   ·rintro ⟨a1,a2⟩
    have az:ev lead z=0:=a1 (c,lead) (by simp)
    refine ⟨fun x hx=> ?_,fun l hl=> ?_⟩
    ·obtain ⟨x',hx',_,k⟩:=back x hx
     exact (k.ev (by rw [ll,h.lenN x hx]) az).mp (a1 x' (by simp [hx']))
    ·rcases hall l hl with u | u
     ·rw [u]
      exact az
     ·obtain ⟨y,hy,k,_⟩:=ML.all u
      exact (k.ev (by rw [ll,h.lenL l hl]) az).mp (a2 y hy)
   ·rintro ⟨a1,a2⟩
    have az:=a2 lead hlead
    refine ⟨fun x hx=> ?_,fun l hl=> ?_⟩
    ·rcases spl x hx with u | u
     ·obtain ⟨y,hy,_,k,_⟩:=pairs x u
      exact (k.ev (by rw [ll,h.lenN y hy]) az).mpr (a1 y hy)
     ·subst u
      exact az
    ·obtain ⟨x,hx,k,_⟩:=ML.ex hl
     exact (k.ev (by rw [ll,h.lenL x (hrest x hx)]) az).mpr (a2 x (hrest x hx))
  bdN:=fun x hx=>by
   rcases spl x hx with z | z
   ·obtain ⟨y,hy,_,_,k⟩:=pairs x z
    exact k
   ·subst z
    exact (h.bdL lead hlead).up (by omega)
  bdL:=fun l hl=>by
   obtain ⟨x,hx,_,k⟩:=ML.ex hl
   exact k
  cnt:=by
   have a:=ML.len
   have b:=h.cnt
   rw [List.length_append,hl']
   simp
   omega}
def NdR (H:Hp)(kvs:List (Key×V))(nd:List (Nat×List Int)):Prop:=kvs.length=nd.length∧∀(i:Nat) (kv:Key×V) (x:Nat×List Int),kvs[i]? =some kv→nd[i]? =some x→kv.1=.inl (x.1:Int)∧Ln H kv.2 x.2
theorem NdR.same {H H' :Hp}{kvs:List (Key×V)}{nd:List (Nat×List Int)}(h:NdR H kvs nd)(s:Same H H'):NdR H' kvs nd:=⟨h.1,fun i kv x e1 e2=>⟨(h.2 i kv x e1 e2).1,(h.2 i kv x e1 e2).2.same s⟩⟩
theorem Ln.put {H:Hp}{v:V}{l:List Int}{d:Addr}{kvs:List (Key×V)}{o:HO}(h:Ln H v l)(e:H d=some (.dK kvs)):Ln (upd H d o) v l:=by
 obtain ⟨p,e1,k⟩:=h
 exact ⟨p,e1,by rw [upd_ne (fun z=>by rw [z,e] at k;cases k)];exact k⟩
theorem Lns.put {H:Hp}{us:List V}{ls:List (List Int)}{d:Addr}{kvs:List (Key×V)}{o:HO}(h:Lns H us ls)(e:H d=some (.dK kvs)):Lns (upd H d o) us ls:=⟨h.1,fun i u l e1 e2=>(h.2 i u l e1 e2).put e⟩
theorem NdR.put {H:Hp}{kvs kv2:List (Key×V)}{nd:List (Nat×List Int)}{d:Addr}{o:HO}(h:NdR H kvs nd)(e:H d=some (.dK kv2)):NdR (upd H d o) kvs nd:=⟨h.1,fun i kv x e1 e2=>⟨(h.2 i kv x e1 e2).1,(h.2 i kv x e1 e2).2.put e⟩⟩
theorem same_put {H H' :Hp}{d:Addr}{o:HO}(s:Same H H')(n:H d=none):Same H (upd H' d o):=fun b o' e=>by
 rw [upd_ne (fun z=>by rw [z,n] at e;cases e)]
 exact s _ _ e
theorem NdR.at {H:Hp}{kvs:List (Key×V)}{nd:List (Nat×List Int)}(h:NdR H kvs nd){i:Nat}{x:Nat×List Int}(e:nd[i]? =some x):∃v,kvs[i]? =some (.inl (x.1:Int),v)∧Ln H v x.2:=by
 have hi:i < nd.length:=(List.getElem?_eq_some_iff.mp e).1
 have hl:=h.1
 have e2:kvs[i]? =some (kvs[i]'(by omega)):=gE (by omega)
 obtain ⟨a,b⟩:=h.2 i _ x e2 e
 exact ⟨(kvs[i]'(by omega)).2,by rw [e2, ← a],b⟩
theorem NdR.keys {H:Hp}{kvs:List (Key×V)}{nd:List (Nat×List Int)}(h:NdR H kvs nd):kvs.map (·.1)=nd.map (fun x=>(Sum.inl (x.1:Int):Key)):=by
 refine List.ext_getElem? fun i=> ?_
 have hl:=h.1
 rw [List.getElem?_map,List.getElem?_map]
 by_cases hi:i < nd.length
 ·have e:nd[i]? =some nd[i]:=gE hi
  obtain ⟨v,e2,_⟩:=h.at e
  rw [e,e2]
  rfl
 ·rw [List.getElem?_eq_none (by omega),List.getElem?_eq_none (by omega)]
  rfl
theorem valV_at {k:Key}{v:V}:∀{kvs:List (Key×V)} {i:Nat},(kvs.map (·.1)).Nodup→kvs[i]? =some (k,v)→valV kvs k=some v
 | [],_,_,e=>by simp at e
 | p::r,0,_,e=>by
  cases e
  exact valV_pos (p:=(k,v)) rfl
 | p::r,i+1,n,e=>by
  rw [List.map_cons,List.nodup_cons] at n
  have e' :r[i]? =some (k,v):=by simpa using e
  have ne:¬ p.1=k:=fun z=>n.1 (by rw [z];exact List.mem_map.mpr ⟨(k,v),List.mem_of_getElem? e',rfl⟩)
  rw [valV_neg ne]
  exact valV_at n.2 e'
theorem valV_no {k:Key}:∀{kvs:List (Key×V)},k∉kvs.map (·.1)→valV kvs k=none
 | [],_=>rfl
 | p::r,h=>by
  have h' :k≠p.1∧k∉r.map (·.1):=by simpa using h
  rw [valV_neg (fun z=>h'.1 z.symm)]
  exact valV_no h'.2
theorem map_put {k:Key}{v v' :V}:∀{kvs:List (Key×V)} {i:Nat},(kvs.map (·.1)).Nodup→kvs[i]? =some (k,v)→kvs.map (fun kv=>if kv.1=k then (kv.1,v') else kv)=kvs.set i (k,v')
 | [],_,_,e=>by simp at e
 | p::r,0,n,e=>by
  rw [List.map_cons,List.nodup_cons] at n
  cases e
  have hr:r.map (fun kv=>if kv.1=k then (kv.1,v') else kv)=r:=by
   refine (List.map_congr_left (fun q hq=> ?_)).trans (List.map_id r)
   have ne:¬ q.1=k:=fun z=>n.1 (by show k∈_;rw [← z];exact List.mem_map.mpr ⟨q,hq,rfl⟩)
   rw [if_neg ne]
   rfl
  rw [List.map_cons,hr,if_pos rfl,List.set_cons_zero]
 | p::r,i+1,n,e=>by
  rw [List.map_cons,List.nodup_cons] at n
  have e' :r[i]? =some (k,v):=by simpa using e
  have ne:¬ p.1=k:=fun z=>n.1 (by rw [z];exact List.mem_map.mpr ⟨(k,v),List.mem_of_getElem? e',rfl⟩)
  rw [List.map_cons,if_neg ne,map_put n.2 e',List.set_cons_succ]
theorem putK_at {k:Key}{v v' :V}{kvs:List (Key×V)}{i:Nat}(n:(kvs.map (·.1)).Nodup)(e:kvs[i]? =some (k,v)):putK kvs k v' =kvs.set i (k,v'):=by
 unfold putK
 rw [valV_any,valV_at n e]
 exact map_put n e
theorem NdR.set {H:Hp}{kvs:List (Key×V)}{nd:List (Nat×List Int)}(h:NdR H kvs nd){i c:Nat}{v:V}{l:List Int}(hv:Ln H v l):NdR H (kvs.set i (.inl (c:Int),v)) (nd.set i (c,l)):=by
 have hl:=h.1
 refine ⟨by simp [hl],fun j kv x e1 e2=> ?_⟩
 rw [List.getElem?_set] at e1 e2
 by_cases z:i=j
 ·subst z
  rw [if_pos rfl] at e1 e2
  by_cases hi:i < kvs.length
  ·rw [if_pos hi] at e1
   rw [if_pos (by omega)] at e2
   cases e1
   cases e2
   exact ⟨rfl,hv⟩
  ·rw [if_neg hi] at e1
   cases e1
 ·rw [if_neg z] at e1 e2
  exact h.2 j kv x e1 e2
theorem NdR.snoc {H:Hp}{kvs:List (Key×V)}{nd:List (Nat×List Int)}(h:NdR H kvs nd){c:Nat}{v:V}{l:List Int}(hv:Ln H v l):NdR H (kvs++[(.inl (c:Int),v)]) (nd++[(c,l)]):=by
 have hl:=h.1
 refine ⟨by simp [hl],fun j kv x e1 e2=> ?_⟩
 by_cases z:j < kvs.length
 ·rw [List.getElem?_append_left z] at e1
  rw [List.getElem?_append_left (by omega)] at e2
  exact h.2 j kv x e1 e2
 ·rw [List.getElem?_append_right (by omega)] at e1 e2
  rw [← hl] at e2
  by_cases y:j - kvs.length=0
  ·rw [y] at e1 e2
   cases e1
   cases e2
   exact ⟨rfl,hv⟩
  ·rw [List.getElem?_eq_none (by simp;omega)] at e1
   cases e1
theorem keys_nodup:∀{nd:List (Nat×List Int)},(nd.map (·.1)).Pairwise (· < ·)→(nd.map (fun x=>(Sum.inl (x.1:Int):Key))).Nodup
 | [],_=>by simp
 | x::r,h=>by
  rw [List.map_cons,List.pairwise_cons] at h
  rw [List.map_cons,List.nodup_cons]
  refine ⟨fun z=> ?_,keys_nodup h.2⟩
  obtain ⟨y,hy,e⟩:=List.mem_map.mp z
  have e' :(y.1:Int)=x.1:=Sum.inl.inj e
  have:=h.1 y.1 (List.mem_map.mpr ⟨y,hy,rfl⟩)
  omega
def bb (b:Nat):Nat→Nat
 | 0=>b
 | k+1=>2*bb b k+1
theorem bb_eq (b:Nat):∀k,bb b k+1=2^k*(b+1)
 | 0=>by simp [bb]
 | k+1=>by
  have:=bb_eq b k
  show 2*bb b k+1+1=_
  rw [Nat.pow_succ,Nat.mul_right_comm, ← this]
  omega
theorem bb_mono (b:Nat){k m:Nat}(h:k≤m):bb b k≤bb b m:=by
 have e1:=bb_eq b k
 have e2:=bb_eq b m
 have:2^k*(b+1)≤2^m*(b+1):=Nat.mul_le_mul_right _ (Nat.pow_le_pow_right (by decide) h)
 omega
theorem cutV_to {xs:List V}{i:Nat}(h:i≤xs.length):cutV xs none (some (i:Int))=xs.take i:=by
 unfold cutV
 rw [HT.sIx_nat,HT.sIx_none,Nat.min_eq_left h]
 rfl
theorem cutV_from {xs:List V}{i:Nat}(h:i≤xs.length):cutV xs (some (i:Int)) none=xs.drop i:=by
 unfold cutV
 rw [HT.sIx_nat,HT.sIx_none,Nat.min_eq_left h]
 exact List.take_of_length_le (by simp)
theorem Red.up {os:List (List Int)}{L c b b' :Nat}{nd:List (Nat×List Int)}{lv:List (List Int)}(h:Red os L c b nd lv)(hb:b≤b'):Red os L c b' nd lv:={h with bdN:=fun x hx=>(h.bdN x hx).up hb,bdL:=fun x hx=>(h.bdL x hx).up hb}
theorem Lns.erase {H:Hp}{us:List V}{ls:List (List Int)}(h:Lns H us ls)(j:Nat):Lns H (us.eraseIdx j) (ls.eraseIdx j):=by
 have hl:=h.1
 refine ⟨by rw [List.length_eraseIdx,List.length_eraseIdx,hl],fun i u l e1 e2=> ?_⟩
 rw [List.getElem?_eraseIdx] at e1 e2
 by_cases z:i < j
 ·rw [if_pos z] at e1 e2
  exact h.2 _ _ _ e1 e2
 ·rw [if_neg z] at e1 e2
  exact h.2 _ _ _ e1 e2
theorem list_pick {α β:Type}{P:Nat→α→β→Prop}:∀(xs:List α),(∀i x,xs[i]? =some x→∃y,P i x y)→∃ys:List β,ys.length=xs.length∧∀i x y,xs[i]? =some x→ys[i]? =some y→P i x y
 | [],_=>⟨[],rfl,fun i x y e=>by simp at e⟩
 | x::xs,h=>by
  obtain ⟨y,hy⟩:=h 0 x rfl
  obtain ⟨ys,hl,hp⟩:=list_pick (P:=fun i=>P (i+1)) xs (fun i x e=>h (i+1) x (by simpa using e))
  refine ⟨y::ys,by simp [hl],fun i x' y' e1 e2=> ?_⟩
  cases i with
  | zero=>
   cases e1
   cases e2
   exact hy
  | succ i=>exact hp i x' y' (by simpa using e1) (by simpa using e2)
inductive spReduced (K:Frag)(vs:List V)(H:Hp)(Q:VK)(E_:XK):Prop where
 | mk (a:Addr) (us:List V) (os:List (List Int:_)) (L m b:Nat) (_:vs=[.ref a,.int (m:Int)]) (_:SqL K H a us) (_:Lns H us os) (_:(∀o∈os,o.length=L)) (_:m≤L) (_:L≤1000) (_:os.length≤1000) (_:(∀o∈os,Bd b o)) (_:bb b (min m os.length)≤29000000) (_:∀(p d a' :Addr) (kvs:List (Key×V)) (us' :List V) (nd:List (Nat×List Int)) (lv:List (List Int)) (H' :Hp),Same H H' →H d=none→H p=none→H' p=some (.tup [.ref d,.ref a'])→H' d=some (.dK kvs)→SqL K H' a' us' →NdR H' kvs nd→Lns H' us' lv→Red os L m (bb b (min m os.length)) nd lv→Q (.ref p) H'):spReduced K vs H Q E_
theorem sc_bs:FnScope ["lines","many","needed","left","column","at","lead","place"] ["lines","many"] (defScope s_bs):=sq
theorem ok_bs (D:Def K mg "reduced" s_bs ["lines","many"])(m_range:mg "range"=none)(m_list:mg "list"=none)(G_a1:Fn P w K mg base (CXr P w) 1 "first_not_nought" ["lines","column"] (spFirst K))(G_br:Fn P w K mg base (CXr P w) 34 "cleared" ["line","lead","column"] spCleared):Fn P w K mg base (CXr P w) 35 "reduced" ["lines","many"] (spReduced K):=by
 refine D.ok sc_bs (fun vs H Q E h=> ?_) (fun f cdv A outer s H vs Q E hr h=> ?_)
 ·obtain ⟨a,us,os,L,m,b,rfl,_⟩:=h
  rfl
 obtain ⟨a,us,os,L,m,b,rfl,hS,hL,hlen,hm,hL1,ho,hB,hb,q⟩:=h
 refine ⟨_,(pss_cons (ps_set (i:=2) sc_bs.nd rfl (Or.inl rfl) pe_dnewK)
  (pss_cons (ps_set (i:=3) sc_bs.nd rfl (Or.inl rfl) (pv 0))
  (pss_cons (ps_for PassesOwn.never rfl (pi_range1 rfl m_range (pac (pv 1) pa_nil)) (pg_name (i:=4) sc_bs.nd rfl (Or.inr rfl)) (pss_cons (ps_set (i:=5) sc_bs.nd rfl (Or.inl rfl) (pe_fn G_a1 hr.mo pX (pac (pv 3) (pac (pv 4) pa_nil))))
   (pss_cons (ps_if (pt_cmpR op_isN (pv 5) pe_non (nomark _)) (pss_one ps_continue) pss_nil)
   (pss_cons (ps_set (i:=6) sc_bs.nd rfl (Or.inr rfl) (pe_ix ix_list (pv 3) (pv 5) (fun _ _=>rfl)))
   (pss_cons (ps_setC (i:=3) sc_bs.nd rfl (Or.inl rfl) (tn:=["line"]) (fr:=["lead","column"]) (caps:=[6,4]) rfl ⟨rfl,by decide+kernel,rfl,by decide+kernel,by decide+kernel,rfl,⟨(by first | exact Or.inl rfl | exact Or.inr rfl),⟨(by first | exact Or.inl rfl | exact Or.inr rfl),trivial⟩⟩,⟨(by first | exact Or.inl rfl | exact Or.inr rfl),⟨(by first | exact Or.inl rfl | exact Or.inr rfl),trivial⟩⟩⟩ (pi_list (pe_op op_cat (pe_slice sl_list (pv 3) po_none (po_some (pv 5))) (pe_slice sl_list (pv 3) (po_some (pe_op op_add (pv 5) pe_int)) po_none))) (fun _ _ _ _=>(pg_name (i:=0) (show (["line","lead","column"]:List Str).Nodup from by decide+kernel) rfl (Or.inl rfl))) (fun _ _ _ _=>pf_nil) (fun _ _ _ _=>(pe_fn G_br hr.mo (passB (by first | assumption | exact CXr.mute) rfl) (pac (pv 0) (pac (pv 1) (pac (pv 2) pa_nil))))))
   (pss_cons (ps_for PassesOwn.never rfl (pi_list (pe_callTy (call_listD rfl) rfl m_list b_list (pac (pv 2) pa_nil))) (pg_name (i:=7) sc_bs.nd rfl (Or.inl rfl)) (pss_one (ps_dput (hu_of hr) (pv 2) (pv 7) (pe_fn G_br hr.mo pX (pac (pe_dget (hu_of hr) (pv 2) (pv 7) (fun _ _=>rfl)) (pac (pv 6) (pac (pv 4) pa_nil)))) rfl)))
   (pss_one (ps_dput (hu_of hr) (pv 2) (pv 4) (pv 6) rfl))))))))
  (pss_one (ps_ret (pe_tup (pac (pv 2) (pac (pv 3) pa_nil)))))))),?_⟩
 refine fun d nd0=> ?_
 have s0:Same H (upd H d (.dK [])):=same_new nd0 _
 refine ⟨_,rfl,_,rfl,_,rfl,by omega,by omega,?_⟩
 refine for_range (lo:=0) (n:=m) (fun i σ H' =>∃(al:Addr) (us1:List V) (kvs:List (Key×V)) (nd:List (Nat×List Int)) (lv:List (List Int)) (o4 o5 o6 o7:Option V),σ=[some (.ref a),some (.int (m:Int)),some (.ref d),some (.ref al),o4,o5,o6,o7]∧Same H H' ∧H' d=some (.dK kvs)∧SqL K H' al us1∧Lns H' us1 lv∧NdR H' kvs nd∧nd.length≤i∧Red os L i (bb b nd.length) nd lv)
  ⟨a,us,[],[],os,none,none,none,none,rfl,s0,upd_same,s0.seq hS,hL.same s0,⟨rfl,by simp⟩,Nat.le_refl _,Red.start hlen hB⟩ ?_ ?_
 ·rintro i σ H1 hi ⟨al,us1,kvs,nd,lv,o4,o5,o6,o7,rfl,s1,hd,hS1,hL1',hN,hni,R⟩
  refine ⟨_,rfl,_,rfl,al,us1,lv,i,by rw [Int.zero_add];rfl,hS1,hL1',fun l hl=>by rw [R.lenL l hl];omega,fun j lead H2 s2 ej hj=> ?_,fun hz H2 s2=> ?_⟩
  ·have hjl:j < lv.length:=(List.getElem?_eq_some_iff.mp ej).1
   have hul:=hL1'.1
   have cnt:=R.cnt
   have hbk:bb b nd.length≤29000000:=Nat.le_trans (bb_mono b (by omega)) hb
   have hd2:=s2 _ _ hd
   have hS2:=s2.seq hS1
   have hL2:=hL1'.same s2
   have hN2:=hN.same s2
   obtain ⟨u,eu,hu⟩:=hL2.at' ej
   have hlead:lead∈lv:=List.mem_of_getElem? ej
   refine ⟨_,rfl,rfl,_,rfl,?_⟩
   refine ite2 (fun z=>by simp at z) (fun _=> ?_)
   refine ⟨_,rfl,_,rfl,al,_,_,_,rfl,rfl,hS2,atI_nat eu,?_⟩
   refine ⟨_,rfl,_,rfl,_,rfl,al,us1,rfl,hS2,fun p1 n1=> ?_⟩
   have t1:=same_new n1 (.lst (cutV us1 none (some (j:Int))))
   refine ⟨_,rfl,_,rfl,_,_,rfl,rfl,_,rfl,al,us1,rfl,t1.seq hS2,fun p2 n2=> ?_⟩
   have t2:=same_new n2 (.lst (cutV us1 (some ((j:Int)+1)) none))
   have ecut:cutV us1 none (some (j:Int))++cutV us1 (some ((j:Int)+1)) none=us1.eraseIdx j:=by
    rw [cutV_to (by omega),show ((j:Int)+1)=((j+1:Nat):Int) from by omega,cutV_from (by omega),List.eraseIdx_eq_take_drop_succ]
   have lcut:(cutV us1 none (some (j:Int))).length+(cutV us1 (some ((j:Int)+1)) none).length≤sizeLine:=by
    rw [← List.length_append,ecut]
    exact Nat.le_trans (Nat.le_trans (List.length_eraseIdx_le ..) (show us1.length≤1000 by omega)) (by decide)
   refine ⟨p1,p2,_,_,rfl,rfl,t2 _ _ upd_same,upd_same,lcut,fun p3 n3=> ?_⟩
   have t3:=same_new n3 (.lst (cutV us1 none (some (j:Int))++cutV us1 (some ((j:Int)+1)) none))
   refine ⟨p3,rfl,⟨_,SqL.of upd_same⟩,fun D nD=> ?_⟩
   have tt:=(t1.trans t2).trans t3
   have hE:=(hL2.same tt).erase j
   have hu3:=hu.same tt
   have er:(us1.eraseIdx j).length≤1000:=Nat.le_trans (List.length_eraseIdx_le ..) (show us1.length≤1000 by omega)
   refine comp_listD (cap:=[some u,some (.int ((0:Int)+i))]) (K:=K) (a:=p3) (xs:=us1.eraseIdx j) (fun k v H=>∃x y p,(lv.eraseIdx j)[k]? =some x∧v=.ref p∧p≠D∧H p=some (.lst (y.map V.int))∧Clr x lead y i∧Bd (2*bb b nd.length+1) y) nD (Nat.lt_of_le_of_lt er (by decide)) (fun H3 s3=>SqL.of (s3 _ _ (by rw [upd_same,ecut]))) ?_ ?_ ?_
   ·rintro k v H3 H4 ys hD3 ks ⟨x,y,p,e1,e2,e3,e4,e5⟩
    exact ⟨x,y,p,e1,e2,e3,ks _ _ e3 e4,e5⟩
   ·rintro k x H3 RR ex s3 ⟨ys0,hys0⟩ kk
    obtain ⟨l,el,hl⟩:=hE.at ex
    have hmem:l∈lv:=List.mem_of_mem_eraseIdx (List.mem_of_getElem? el)
    have hll:=R.lenL l hmem
    have hld:=R.lenL lead hlead
    refine ⟨_,rfl,_,rfl,_,rfl,x,u,l,lead,i,bb b nd.length,bb b nd.length,by rw [Int.zero_add];rfl,hl.same s3,hu3.same s3,by rw [hll,hld],by omega,by omega,hj,R.bdL l hmem,R.bdL lead hlead,hbk,hbk,fun v' l' H4 s4 L4 cl bd fr=> ?_⟩
    obtain ⟨p,e1,e2⟩:=L4
    refine kk v' H4 s4 ⟨l,l',p,el,e1,?_,e2,cl,by rw [Nat.two_mul];exact bd⟩
    rcases fr with z | ⟨p',z,n⟩
    ·obtain ⟨px',z1,z2⟩:=hl
     rw [z1,e1] at z
     cases z
     exact ne_of_none z2 nD
    ·rw [e1] at z
     cases z
     exact fun y=>by rw [y,hys0] at n;cases n
   ·intro ys H3 hy hrel s3 hD
    obtain ⟨lv',hl',hp⟩:=list_pick (P:=fun k v y=>∃x p,(lv.eraseIdx j)[k]? =some x∧v=.ref p∧p≠D∧H3 p=some (.lst (y.map V.int))∧Clr x lead y i∧Bd (2*bb b nd.length+1) y) ys (fun k v e=>by
     obtain ⟨x,y,p,r⟩:=hrel k v e
     exact ⟨y,x,p,r⟩)
    have hLn:Lns H3 ys lv' :=⟨hl'.symm,fun k v y e1 e2=>by
     obtain ⟨x,p,_,e,_,r,_⟩:=hp k v y e1 e2
     exact ⟨p,e,r⟩⟩
    have les:(us1.eraseIdx j).length=(lv.eraseIdx j).length:=hE.1
    have ML:Made os lead i (2*bb b nd.length+1) (lv.eraseIdx j) lv' :=⟨by omega,fun k x e=>by
     have hk:k < (lv.eraseIdx j).length:=(List.getElem?_eq_some_iff.mp e).1
     have e1:ys[k]? =some (ys[k]'(by omega)):=gE (by omega)
     have e2:lv'[k]? =some (lv'[k]'(by omega)):=gE (by omega)
     obtain ⟨x',p,r1,_,_,_,r2⟩:=hp k _ _ e1 e2
     rw [e] at r1
     cases r1
     exact ⟨_,e2,r2⟩⟩
    have s13:=tt.trans s3
    have hd3:=s13 _ _ hd2
    have hN3:=hN2.same s13
    have hu4:=hu3.same s3
    refine ⟨_,rfl,d,kvs,rfl,Rd.of hd3,fun l3 n3=> ?_⟩
    have t4:=same_new n3 (.lst (kvs.map fun kv=>kV kv.1))
    refine ⟨l3,rfl,⟨_,SqL.of upd_same⟩,?_⟩
    have dl:d≠l3:=ne_of_none hd3 n3
    refine for_list (K:=K) (a:=l3) (xs:=kvs.map fun kv=>kV kv.1) (fun t σ H' =>∃(o7:Option V) (kvs' :List (Key×V)) (nd' :List (Nat×List Int)),σ=[some (.ref a),some (.int (m:Int)),some (.ref d),some (.ref D),some (.int ((0:Int)+i)),some (.int (j:Int)),some u,o7]∧Same H H' ∧H' d=some (.dK kvs')∧H' l3=some (.lst (kvs.map fun kv=>kV kv.1))∧H' D=some (.lst ys)∧Lns H' ys lv' ∧Ln H' u lead∧NdR H' kvs' nd' ∧nd'.map (·.1)=nd.map (·.1)∧
      ∀(k:Nat) (x:Nat×List Int),nd[k]? =some x→∃y,nd'[k]? =some (x.1,y)∧(t≤k→y=x.2)∧(k < t→Clr x.2 lead y i∧Bd (2*bb b nd.length+1) y))
     ⟨_,kvs,nd,rfl,((s1.trans s2).trans s13).trans t4,t4 _ _ hd3,upd_same,t4 _ _ hD,hLn.same t4,hu4.same t4,hN3.same t4,rfl,fun k x e=>⟨x.2,e,fun _=>rfl,fun z=>absurd z (Nat.not_lt_zero _)⟩⟩ (fun t σ H' _ h=>by
      obtain ⟨_,_,_,_,_,_,h,_⟩:=h
      exact SqL.of h) ?_ ?_
    ·rintro t u7 σ H4 hu7 ⟨o7,kvs',nd',rfl,s4,hd4,hl4,hD4,hL4,hu5,hN4,hk4,hx4⟩
     rw [List.getElem?_map] at hu7
     obtain ⟨kv,ekv,rfl⟩:=Option.map_eq_some_iff.mp hu7
     have htl:t < kvs.length:=(List.getElem?_eq_some_iff.mp ekv).1
     have hnl:=hN.1
     have ex:nd[t]? =some (nd[t]'(by omega)):=gE (by omega)
     obtain ⟨x,hx⟩:∃x,nd[t]? =some x:=⟨_,ex⟩
     obtain ⟨kx,hxm⟩:kv.1=.inl (x.1:Int)∧x∈nd:=⟨(hN3.2 t kv x ekv hx).1,List.mem_of_getElem? hx⟩
     obtain ⟨y,ey,y1,_⟩:=hx4 t x hx
     have y2:=y1 (Nat.le_refl _)
     subst y2
     obtain ⟨v,ev,hv⟩:=hN4.at ey
     have nk:(kvs'.map (·.1)).Nodup:=by
      rw [hN4.keys]
      exact keys_nodup (by rw [hk4];exact R.asc)
     have vat:=valV_at nk ev
     have hxl:=R.lenN x hxm
     have hld:=R.lenL lead hlead
     have dg:DGet H4 d (kV kv.1) (some v):=by
      rw [kx, ← vat]
      exact DGet.k hd4
     refine ⟨_,rfl,_,rfl,d,v,rfl,dg,_,rfl,_,rfl,v,u,x.2,lead,i,bb b nd.length,bb b nd.length,by rw [Int.zero_add];rfl,hv,hu5,by rw [hxl,hld],by omega,by omega,hj,R.bdN x hxm,R.bdL lead hlead,hbk,hbk,fun v' l' H5 s5 L5 cl bd fr=> ?_⟩
     have hd5:=s5 _ _ hd4
     have l4' :=hN4.1
     have l5' :nd'.length=nd.length:=by simpa using congrArg List.length hk4
     refine ⟨_,rfl,_,rfl,d,_,rfl,DPut.k hd5 (Nat.lt_of_le_of_lt (show kvs'.length≤1000 by omega) (by decide)),?_⟩
     rw [kx,putK_at nk ev]
     have dn:d≠D:=fun z=>by rw [z,hD4] at hd4;cases hd4
     refine ⟨_,kvs'.set t (.inl (x.1:Int),v'),nd'.set t (x.1,l'),rfl,same_put (s4.trans s5) nd0,upd_same,by rw [upd_ne (Ne.symm dl)];exact s5 _ _ hl4,by rw [upd_ne (Ne.symm dn)];exact s5 _ _ hD4,(hL4.same s5).put hd5,(hu5.same s5).put hd5,((hN4.same s5).set L5).put hd5,?_,fun k x' ek=> ?_⟩
     ·rw [List.map_set,hk4]
      refine List.ext_getElem? fun k=> ?_
      rw [List.getElem?_set]
      by_cases z:t=k
      ·subst z
       rw [if_pos rfl,if_pos (by simp;omega),List.getElem?_map,hx]
       rfl
      ·rw [if_neg z]
     ·obtain ⟨y',ey',a1,a2⟩:=hx4 k x' ek
      by_cases z:t=k
      ·subst z
       rw [hx] at ek
       cases ek
       refine ⟨l',by rw [List.getElem?_set,if_pos rfl,if_pos (by omega)],fun w=>by omega,fun _=>⟨cl,by rw [Nat.two_mul];exact bd⟩⟩
      ·exact ⟨y',by rw [List.getElem?_set,if_neg z];exact ey',fun w=>a1 (by omega),fun w=>a2 (by omega)⟩
    ·rintro σ H4 ⟨o7,kvs',nd',rfl,s4,hd4,hl4,hD4,hL4,hu5,hN4,hk4,hx4⟩
     have l4' :=hN4.1
     have l5' :nd'.length=nd.length:=by simpa using congrArg List.length hk4
     have hnl:=hN.1
     rw [List.length_map] at hx4
     have MN:Made os lead i (2*bb b nd.length+1) (nd.map (·.2)) (nd'.map (·.2)):=⟨by simp [l5'],fun k x e=>by
      rw [List.getElem?_map] at e
      obtain ⟨x0,e0,rfl⟩:=Option.map_eq_some_iff.mp e
      have hk:k < nd.length:=(List.getElem?_eq_some_iff.mp e0).1
      obtain ⟨y,ey,_,a2⟩:=hx4 k x0 e0
      exact ⟨y,by rw [List.getElem?_map,ey];rfl,a2 (by omega)⟩⟩
     have hno:valV kvs' (.inl ((0:Int)+i))=none:=valV_no (fun z=>by
      rw [hN4.keys] at z
      obtain ⟨x',hx',e⟩:=List.mem_map.mp z
      have e1:(x'.1:Int)=0+i:=Sum.inl.inj e
      have:x'.1∈nd.map (·.1):=by rw [← hk4];exact List.mem_map.mpr ⟨x',hx',rfl⟩
      obtain ⟨x,hx,e2⟩:=List.mem_map.mp this
      have:=R.cols x hx
      omega)
     refine ⟨_,rfl,_,rfl,_,rfl,d,_,rfl,DPut.k (k:=.inl ((0:Int)+i)) hd4 (Nat.lt_of_le_of_lt (show kvs'.length≤1000 by omega) (by decide)),?_⟩
     rw [putK_new u hno]
     have dn:d≠D:=fun z=>by rw [z,hD4] at hd4;cases hd4
     have mem1:∀l∈lv.eraseIdx j,l∈lv:=fun l h=>List.mem_of_mem_eraseIdx h
     have mem2:∀l∈lv,l=lead∨l∈lv.eraseIdx j:=fun l h=>by
      obtain ⟨k,ek⟩:=List.getElem?_of_mem h
      rcases Nat.lt_trichotomy k j with z | z | z
      ·exact .inr (List.mem_of_getElem? (i:=k) (by rw [List.getElem?_eraseIdx,if_pos z];exact ek))
      ·subst z
       rw [ej] at ek
       cases ek
       exact .inl rfl
      ·exact .inr (List.mem_of_getElem? (i:=k - 1) (by rw [List.getElem?_eraseIdx,if_neg (by omega),show k - 1+1=k by omega];exact ek))
     have lenE:(lv.eraseIdx j).length+1=lv.length:=by rw [List.length_eraseIdx,if_pos hjl];omega
     have R2:=R.step hlead mem1 mem2 lenE hj ML hk4 MN
     refine ⟨D,ys,_,nd' ++[(i,lead)],lv',_,_,_,_,rfl,same_put s4 nd0,upd_same,SqL.of (by rw [upd_ne (Ne.symm dn)];exact hD4),hL4.put hd4,(by rw [Int.zero_add];exact (hN4.snoc hu5).put hd4),by simp;omega,?_⟩
     rw [List.length_append,l5']
     exact R2
  ·refine ⟨_,rfl,rfl,_,rfl,?_⟩
   refine ite2 (fun _=> ?_) (fun z=>by simp at z)
   exact ⟨al,us1,kvs,nd,lv,_,_,_,_,rfl,s1.trans s2,s2 _ _ hd,s2.seq hS1,hL1'.same s2,hN.same s2,by omega,R.skip hz⟩
 ·rintro σ H1 ⟨al,us1,kvs,nd,lv,o4,o5,o6,o7,rfl,s1,hd,hS1,hL1',hN,hni,R⟩
  refine ⟨_,rfl,_,rfl,(by show 2≤sizeLine;decide),fun p np=> ?_⟩
  have sp:=same_new np (.tup [.ref d,.ref al])
  have cnt:=R.cnt
  exact q p d al kvs us1 nd lv _ (s1.trans sp) nd0 (s1.free np) upd_same (sp _ _ hd) (sp.seq hS1) (hN.same sp) (hL1'.same sp) (R.up (bb_mono b (by omega)))
theorem sm_lowU {t b:Int}{T B:Nat}(hb:b≠0)(h1:t.natAbs≤2^T)(h2:b.natAbs≤2^B):Sm T B (low t b):=⟨low_pos hb,low_gcd hb,Nat.le_trans (low_top_le hb) h1,Nat.le_trans (low_bot_le hb) h2⟩
theorem getD_out {l:List Int}{j:Nat}(h:l.length≤j):l.getD j 0=0:=by
 rw [List.getD_eq_getElem?_getD,List.getElem?_eq_none h]
 rfl
def Fill (m t:Nat)(nd:List (Nat×List Int))(qs:List (Int×Int)):Prop:=qs.length=m∧(∀i,i < t→∀x,nd[i]? =some x→qs[x.1]? =some (low (x.2.getD m 0) (x.2.getD x.1 0)))∧∀j,j < m→(∀i,i < t→∀x,nd[i]? =some x→x.1≠j)→qs[j]? =some (0,1)
theorem Fill.sm {os:List (List Int)}{m b:Nat}{nd:List (Nat×List Int)}{lv:List (List Int)}{qs:List (Int×Int)}(R:Red os (m+1) m b nd lv)(F:Fill m nd.length nd qs):∀q∈qs,Sm b b q:=by
 intro q hq
 obtain ⟨j,hj⟩:=List.getElem?_of_mem hq
 have hjm:j < m:=by have:=(List.getElem?_eq_some_iff.mp hj).1;rw [← F.1];exact this
 by_cases c:∃(i:Nat) (x:Nat×List Int),nd[i]? =some x∧x.1=j
 ·obtain ⟨i,x,e,rfl⟩:=c
  have hi:i < nd.length:=(List.getElem?_eq_some_iff.mp e).1
  have h1:=F.2.1 i hi x e
  rw [hj] at h1
  cases h1
  have hm:=List.mem_of_getElem? e
  exact sm_lowU (R.here x hm) (R.bdN x hm m) (R.bdN x hm x.1)
 ·have h1:=F.2.2 j hjm (fun i _ x e z=>c ⟨i,x,e,z⟩)
  rw [hj] at h1
  cases h1
  exact ⟨by decide,by decide,Nat.zero_le _,Nat.one_le_two_pow⟩
theorem Fill.sol {os:List (List Int)}{m b:Nat}{nd:List (Nat×List Int)}{lv:List (List Int)}{qs:List (Int×Int)}(R:Red os (m+1) m b nd lv)(F:Fill m nd.length nd qs)(hz:∀l∈lv,l.getD m 0=0):∀o∈os,ev o (zOf (qs.map vl))=0:=by
 have ql:=F.1
 have zl:∀j q,qs[j]? =some q→zOf (qs.map vl) j=vl q:=fun j q e=>by
  have hj:j < qs.length:=(List.getElem?_eq_some_iff.mp e).1
  unfold zOf
  rw [if_pos (by rw [List.length_map];exact hj),List.getD_eq_getElem?_getD,List.getElem?_map,e]
  rfl
 have zm:zOf (qs.map vl) m= -1:=by
  unfold zOf
  rw [if_neg (by rw [List.length_map];omega)]
 refine (R.sol _).mp ⟨fun x hx=> ?_,fun l hl=> ?_⟩
 ·obtain ⟨i,e⟩:=List.getElem?_of_mem hx
  have hi:i < nd.length:=(List.getElem?_eq_some_iff.mp e).1
  have hc:=R.cols x hx
  have hh:=R.here x hx
  have h1:=F.2.1 i hi x e
  have zc:=zl _ _ h1
  rw [vl_low hh] at zc
  have other:∀j,j≠x.1→j≠m→((x.2.getD j 0:Int):Rat)*zOf (qs.map vl) j=0:=by
   intro j n1 n2
   by_cases hj:j < m
   ·by_cases c:∃(i:Nat) (x:Nat×List Int),nd[i]? =some x∧x.1=j
    ·obtain ⟨i',y,e',rfl⟩:=c
     rw [R.off x hx y (List.mem_of_getElem? e') (Ne.symm n1)]
     simp
    ·have h2:=F.2.2 j hj (fun i _ x e z=>c ⟨i,x,e,z⟩)
     rw [zl _ _ h2]
     unfold vl
     simp
     grind
   ·rw [getD_out (by rw [R.lenN x hx];omega)]
    simp
  have sp:zOf (qs.map vl)=fun i=>(if i=m then 0 else zOf (qs.map vl) i)+(if i=m then -1 else 0):=by
   funext i
   by_cases z:i=m
   ·rw [if_pos z,if_pos z,z,zm]
    grind
   ·rw [if_neg z,if_neg z]
    grind
  rw [sp,ev_add]
  have a1:=ev_one x.2 (fun i=>if i=m then 0 else zOf (qs.map vl) i) x.1 (fun j hj=>by
   by_cases z:j=m
   ·simp [z]
   ·rw [if_neg z]
    exact other j hj z)
  have a2:=ev_one x.2 (fun i=>if i=m then (-1:Rat) else 0) m (fun j hj=>by rw [if_neg hj];simp)
  rw [a1,a2]
  rw [if_neg (by omega),if_pos rfl,zc]
  have hh' :=ratne hh
  grind
 ·refine ev_none l _ (fun j=> ?_)
  have:l.getD j 0=0:=by
   by_cases h1:j < m
   ·exact R.zero l hl j h1
   ·by_cases h2:j=m
    ·rw [h2]
     exact hz l hl
    ·exact getD_out (by rw [R.lenL l hl];omega)
  rw [this]
  simp
theorem Fill.put {m t b:Nat}{os:List (List Int)}{nd:List (Nat×List Int)}{lv:List (List Int)}{qs:List (Int×Int)}{x:Nat×List Int}(R:Red os (m+1) m b nd lv)(F:Fill m t nd qs)(e:nd[t]? =some x):Fill m (t+1) nd (qs.set x.1 (low (x.2.getD m 0) (x.2.getD x.1 0))):=by
 have ql:=F.1
 have hx:=R.cols x (List.mem_of_getElem? e)
 have dis:∀i y,i < t→nd[i]? =some y→y.1≠x.1:=fun i y hi ey=>by
  have a:=List.pairwise_iff_getElem.mp R.asc i t (by rw [List.length_map];exact (List.getElem?_eq_some_iff.mp ey).1) (by rw [List.length_map];exact (List.getElem?_eq_some_iff.mp e).1) hi
  simp only [List.getElem_map] at a
  have e1:=(List.getElem?_eq_some_iff.mp ey).2
  have e2:=(List.getElem?_eq_some_iff.mp e).2
  rw [e1,e2] at a
  omega
 refine ⟨by simp [ql],fun i hi y ey=> ?_,fun j hj h=> ?_⟩
 ·rcases Nat.lt_succ_iff_lt_or_eq.mp hi with z | z
  ·rw [List.getElem?_set,if_neg (Ne.symm (dis i y z ey))]
   exact F.2.1 i z y ey
  ·subst z
   rw [e] at ey
   cases ey
   rw [List.getElem?_set,if_pos rfl,if_pos (by omega)]
 ·rw [List.getElem?_set,if_neg (h t (Nat.lt_succ_self _) x e)]
  exact F.2.2 j hj (fun i hi y ey=>h i (Nat.lt_succ_of_lt hi) y ey)
theorem ixN_at {n j:Nat}(h:j < n):ixN n (j:Int)=some j:=by
 unfold ixN
 simp
 omega
theorem SqT.putL {K:Frag}{H:Hp}{a d:Addr}{xs ys:List V}{o:HO}(h:SqT K H a xs)(e:H d=some (.lst ys)):SqT K (upd H d o) a xs:=by
 rcases h with (h | ⟨o',h⟩) | h
 ·exact .inl (.inl (by rw [upd_ne (fun z=>by rw [z,e] at h;cases h)];exact h))
 ·exact .inl (.inr ⟨o',by rw [upd_ne (fun z=>by rw [z,e] at h;cases h)];exact h⟩)
 ·exact .inr h
inductive spSolution (K:Frag)(vs:List V)(H:Hp)(Q:VK)(E_:XK):Prop where
 | mk (a:Addr) (us:List V) (os:List (List Int:_)) (m b:Nat) (_:vs=[.ref a,.int (m:Int)]) (_:SqL K H a us) (_:Lns H us os) (_:(∀o∈os,o.length=m+1)) (_:m≤900) (_:os.length≤900) (_:(∀o∈os,Bd b o)) (_:bb b (min m os.length)≤29000000) (_:(∀(l:List Int) (H' :Hp),Same H H' →l.length=m+1→Comb os l→(∀j,j < m→l.getD j 0=0)→l.getD m 0≠0→Q .non H')) (_:(∀(x:Addr) (us' :List V) (qs:List (Int×Int)) (H' :Hp),Same H H' →H x=none→H' x=some (.lst us')→NmsK K H' us' qs→qs.length=m→(∀q∈qs,Sm (bb b (min m os.length)) (bb b (min m os.length)) q)→(∀o∈os,ev o (zOf (qs.map vl))=0)→Q (.ref x) H')):spSolution K vs H Q E_
theorem sc_ae:FnScope ["lines","many","told","x","column","line"] ["lines","many"] (defScope s_ae):=sq
theorem ok_ae {aN:Addr}(hN:∀H:Hp,SqT K H aN [.int 0,.int 1])(m_by:mg "NOUGHT"=some (.ref aN))(D:Def K mg "solution_of" s_ae ["lines","many"])(m_any:mg "any"=none)(G_bs:Fn P w K mg base (CXr P w) 35 "reduced" ["lines","many"] (spReduced K))(G_ac:Fn P w K mg base (CXr P w) 33 "lowest_terms" ["top","bottom"] spLowestU):Fn P w K mg base (CXr P w) 36 "solution_of" ["lines","many"] (spSolution K):=by
 refine D.ok sc_ae (fun vs H Q E h=> ?_) (fun f cdv A outer s H vs Q E hr h=> ?_)
 ·obtain ⟨a,us,os,m,b,rfl,_⟩:=h
  rfl
 obtain ⟨a,us,os,m,b,rfl,hS,hL,hlen,hm,ho,hB,hb,q1,q2⟩:=h
 refine ⟨_,(pss_cons (ps_set (i:=2) sc_ae.nd rfl (Or.inl rfl) (pe_fn G_bs hr.mo pX (pac (pv 0) (pac (pv 1) pa_nil))))
  (pss_cons (ps_if (pt_val (pe_callB (call_anyB rfl) rfl m_any b_any (pac (pe_comp (tn:=["line"]) (fr:=["many"]) (caps:=[1]) rfl ⟨rfl,by decide+kernel,rfl,by decide+kernel,by decide+kernel,rfl,⟨(by first | exact Or.inl rfl | exact Or.inr rfl),trivial⟩,⟨(by first | exact Or.inl rfl | exact Or.inr rfl),trivial⟩⟩ (pi_list (pe_tx (pv 2))) (fun _ _ _ _=>(pg_name (i:=0) (show (["line","many"]:List Str).Nodup from by decide+kernel) rfl (Or.inl rfl))) (fun _ _ _ _=>pf_nil) (fun _ _ _ _=>(pe_cmpR op_ne (pe_ix (ix_listK (K:=K) rfl) (pv 0) (pv 1) (fun _ _=>rfl)) pe_int (nomark _)))) pa_nil))) (pss_one (ps_ret pe_non)) pss_nil)
  (pss_cons (ps_set (i:=3) sc_ae.nd rfl (Or.inl rfl) (pe_op op_rep (pe_lst (pac (pe_glob (v:=.ref aN) rfl m_by rfl) pa_nil)) (pv 1)))
  (pss_cons (ps_for PassesOwn.never rfl (pi_items (pe_tx (pv 2))) (pg_tup rfl (pgs_cons (pg_name (i:=4) sc_ae.nd rfl (Or.inl rfl)) (pgs_cons (pg_name (i:=5) sc_ae.nd rfl (Or.inl rfl)) pgs_nil))) (pss_one (ps_asg (pe_fn G_ac hr.mo pX (pac (pe_ix ix_list (pv 5) (pv 1) (fun _ _=>rfl)) (pac (pe_ix ix_list (pv 5) (pv 4) (fun _ _=>rfl)) pa_nil))) (pg_sub (pv 3) (pv 4) set_list))))
  (pss_one (ps_ret (pv 3))))))),?_⟩
 refine ⟨_,rfl,_,rfl,a,us,os,m+1,m,b,rfl,hS,hL,hlen,by omega,by omega,by omega,hB,hb,fun p d a' kvs us' nd lv H1 s1 nd0 np hp hd hS1 hN1 hL1 R=> ?_⟩
 have lu:=hL1.1
 have cnt:=R.cnt
 refine ⟨_,rfl,p,_,_,_,rfl,rfl,SqT.of hp,at1,a',rfl,⟨_,hS1⟩,fun D1 n1=> ?_⟩
 refine comp_list (cap:=[some (.int (m:Int))]) (K:=K) (a:=a') (xs:=us') (fun k v _=>∃l,lv[k]? =some l∧v=.bl (decide (l.getD m 0≠0))) n1 (Nat.lt_of_le_of_lt (show us'.length≤1000 by omega) (by decide)) (fun H2 s2=>s2.seq hS1) (fun _ _ _ _ _ _ _ h=>h) ?_ ?_
 ·intro k x H2 RR ex s2 kk
  obtain ⟨l,el,b',rfl,hb'⟩:=hL1.at ex
  have hll:=R.lenL l (List.mem_of_getElem? el)
  refine ⟨_,rfl,_,rfl,b',_,_,_,rfl,rfl,SqL.of (s2 _ _ hb'),ln_at (by omega),rfl,?_⟩
  refine kk _ _ (Same.refl _) ⟨l,el,?_⟩
  simp
 ·intro ys H2 hy hrel s2 hD
  have ey:ys=(lv.map fun l=>decide (l.getD m 0≠0)).map V.bl:=by
   refine List.ext_getElem? fun i=> ?_
   by_cases hi:i < ys.length
   ·have e1:ys[i]? =some ys[i]:=gE hi
    obtain ⟨l,el,e⟩:=hrel i _ e1
    rw [e1,e,List.getElem?_map,List.getElem?_map,el]
    rfl
   ·rw [List.getElem?_eq_none (by omega),List.getElem?_eq_none (by simp;omega)]
  subst ey
  refine ⟨D1,_,rfl,SqL.of hD,_,rfl,?_⟩
  have s12:=s1.trans s2
  refine ite2 (fun c=> ?_) (fun c=> ?_)
  ·obtain ⟨b',hb',hb1⟩:=List.any_eq_true.mp c
   obtain ⟨l,hl,rfl⟩:=List.mem_map.mp hb'
   have hn:l.getD m 0≠0:=of_decide_eq_true hb1
   exact q1 l H2 s12 (R.lenL l hl) (R.combL l hl) (R.zero l hl) hn
  ·have hz:∀l∈lv,l.getD m 0=0:=fun l hl=>by
    by_cases z:l.getD m 0=0
    ·exact z
    ·exact absurd (List.any_eq_true.mpr ⟨true,List.mem_map.mpr ⟨l,hl,decide_eq_true z⟩,rfl⟩) c
   refine ⟨(by show 1≤sizeLine;decide),fun p3 n3=> ?_⟩
   have s3:=same_new n3 (.lst [V.ref aN])
   refine ⟨_,rfl,p3,_,_,rfl,rfl,upd_same,by omega,by omega,Nat.le_trans (show 1*(m:Int).toNat≤1000 by omega) (by decide),fun x n4=> ?_⟩
   have s4:=same_new n4 (.lst (List.replicate (m:Int).toNat [V.ref aN]).flatten)
   have s14:=(s12.trans s3).trans s4
   have nx:H x=none:=(s12.trans s3).free n4
   have er:(List.replicate (m:Int).toNat [V.ref aN]).flatten=List.replicate m (V.ref aN):=by simp
   have hp4:=s4 _ _ (s3 _ _ (s2 _ _ hp))
   have hd4:=s4 _ _ (s3 _ _ (s2 _ _ hd))
   have hN4:=((hN1.same s2).same s3).same s4
   have dx:d≠x:=ne_of_none (s3 _ _ (s2 _ _ hd)) n4
   refine ⟨_,rfl,p,_,_,_,rfl,rfl,SqT.of hp4,at0,d,kvs,rfl,hd4,fun o=> ?_⟩
   refine for_items (d:=d) (o:=o) (kvs:=kvs) (fun t σ H' =>∃(o4 o5:Option V) (us2:List V) (qs:List (Int×Int)),σ=[some (.ref a),some (.int (m:Int)),some (.ref p),some (.ref x),o4,o5]∧Same H H' ∧H' d=some (.frz o (.dK kvs))∧H' x=some (.lst us2)∧NmsK K H' us2 qs∧NdR H' kvs nd∧Fill m t nd qs)
    ⟨none,none,List.replicate m (V.ref aN),List.replicate m (0,1),rfl,same_put s14 nd0,upd_same,by rw [upd_ne (Ne.symm dx),upd_same,er],⟨by simp,fun i u q' e1 e2=> ?_⟩,hN4.put hd4,⟨by simp,fun i hi=>absurd hi (Nat.not_lt_zero _),fun j hj _=>by rw [List.getElem?_replicate,if_pos hj]⟩⟩ (fun t σ H' _ h=>by
     obtain ⟨_,_,_,_,_,_,h,_⟩:=h
     exact h) ?_ ?_
   ·rw [List.getElem?_replicate] at e1 e2
    by_cases z:i < m
    ·rw [if_pos z] at e1 e2
     cases e1
     cases e2
     exact ⟨aN,rfl,hN _⟩
    ·rw [if_neg z] at e1
     cases e1
   ·rintro t k v σ H5 p7 ekv ⟨o4,o5,us2,qs,rfl,s5,hd5,hx5,hn5,hN5,F⟩ n7
    have ht:t < kvs.length:=(List.getElem?_eq_some_iff.mp ekv).1
    have hl5:=hN5.1
    obtain ⟨c,ec⟩:∃c,nd[t]? =some c:=⟨_,gE (by omega)⟩
    obtain ⟨k1,k2⟩:=hN5.2 t _ c ekv ec
    have k1' :k=.inl (c.1:Int):=k1
    subst k1'
    obtain ⟨b',eb,hb'⟩:=k2
    have eb' :v=.ref b' :=eb
    subst eb'
    have hcm:=List.mem_of_getElem? ec
    have hcl:=R.lenN c hcm
    have hcc:=R.cols c hcm
    have s7:=same_new n7 (.tup [kV (.inl (c.1:Int)),.ref b'])
    have hb7:=s7 _ _ hb'
    refine ⟨p7,_,rfl,SqT.of upd_same,rfl,_,_,rfl,_,_,rfl,rfl,?_⟩
    refine ⟨_,rfl,_,rfl,b',_,_,_,rfl,rfl,SqL.of hb7,ln_at (by omega),_,rfl,_,rfl,b',_,_,_,rfl,rfl,SqL.of hb7,ln_at (by omega),?_⟩
    refine ⟨_,_,rfl,R.here c hcm,fun p8 H8 s8 e8=> ?_⟩
    have s78:=s7.trans s8
    have hx8:=s78 _ _ hx5
    have l2:=hn5.1
    have xn:∀{b0:Addr} {o0:HO},H b0=some o0→b0≠x:=fun e=>ne_of_none e nx
    have dx8:=s78 _ _ hd5
    refine ⟨_,rfl,_,rfl,x,us2,_,c.1,rfl,rfl,hx8,ixN_at (by rw [l2,F.1];exact hcc),?_⟩
    refine ⟨_,_,us2.set c.1 (.ref p8),qs.set c.1 (low (c.2.getD m 0) (c.2.getD c.1 0)),rfl,same_put (s5.trans s78) nx,by rw [upd_ne dx];exact dx8,upd_same,?_,?_,F.put R ec⟩
    ·have base:NmsK K H8 (us2.set c.1 (.ref p8)) (qs.set c.1 (low (c.2.getD m 0) (c.2.getD c.1 0))):=(hn5.same s78).set ⟨p8,rfl,SqT.of e8⟩
     refine ⟨base.1,fun i u q' e1 e2=> ?_⟩
     obtain ⟨p9,e9,h9⟩:=base.2 i u q' e1 e2
     exact ⟨p9,e9,SqT.putL h9 hx8⟩
    ·have base:=hN5.same s78
     refine ⟨base.1,fun i kv y e1 e2=>⟨(base.2 i kv y e1 e2).1,?_⟩⟩
     obtain ⟨p9,e9,h9⟩:=hN1.2 i kv y e1 e2 |>.2
     refine ⟨p9,e9,?_⟩
     have px9:p9≠x:=fun z=>by
      have:=(s3 _ _ (s2 _ _ h9))
      rw [z,n4] at this
      cases this
     rw [upd_ne px9]
     obtain ⟨p10,e10,h10⟩:=(base.2 i kv y e1 e2).2
     rw [e9] at e10
     cases e10
     exact h10
   ·rintro σ H5 ⟨o4,o5,us2,qs,rfl,s5,hd5,hx5,hn5,hN5,F⟩
    have hl5:=hN5.1
    rw [hl5] at F
    exact ⟨_,rfl,q2 x us2 qs H5 s5 nx hx5 hn5 F.1 (F.sm R) (F.sol R hz)⟩
def MatV (H:Hp)(r:Addr)(ls:List Addr)(vss:List (List V)):Prop:=H r=some (.lst (ls.map V.ref))∧ls.length=vss.length∧∀(i:Nat) (l:Addr) (vs:List V),ls[i]? =some l→vss[i]? =some vs→H l=some (.lst vs)
theorem MatV.same {H H' :Hp}{r:Addr}{ls:List Addr}{vss:List (List V)}(h:MatV H r ls vss)(s:Same H H'):MatV H' r ls vss:=⟨s _ _ h.1,h.2.1,fun i l vs e1 e2=>s _ _ (h.2.2 i l vs e1 e2)⟩
def Shape (T B m:Nat)(qss:List (List (Int×Int))):Prop:=∀qs∈qss,qs.length=m∧∀q∈qs,Sm T B q
def NumssK (K:Frag)(H:Hp)(vss:List (List V))(qss:List (List (Int×Int))):Prop:=vss.length=qss.length∧∀(i:Nat) (vs:List V) (qs:List (Int×Int)),vss[i]? =some vs→qss[i]? =some qs→NmsK K H vs qs
theorem NumssK.same {H H' :Hp}{vss:List (List V)}{qss:List (List (Int×Int))}(h:NumssK K H vss qss)(s:Same H H'):NumssK K H' vss qss:=⟨h.1,fun i vs qs e1 e2=>(h.2 i vs qs e1 e2).same s⟩
theorem two_of {α:Type}{xs:List α}{x y:α}{j:Nat}(e:(xs++[x])[j]? =some y):(j < xs.length∧xs[j]? =some y)∨(j=xs.length∧x=y):=by
 by_cases c:j < xs.length
 ·rw [List.getElem?_append_left c] at e
  exact .inl ⟨c,e⟩
 ·rw [List.getElem?_append_right (by omega)] at e
  by_cases z:j - xs.length=0
  ·rw [z] at e
   exact .inr ⟨by omega,Option.some.inj e⟩
  ·rw [List.getElem?_eq_none (by simp;omega)] at e
   cases e
theorem MatV.snoc {H:Hp}{r D:Addr}{ls:List Addr}{vss:List (List V)}{us:List V}(h:MatV H r ls vss)(nr:r∉ls)(hD:H D=some (.lst us))(nD:D≠r):MatV (upd H r (.lst (ls.map V.ref++[.ref D]))) r (ls++[D]) (vss++[us]):=by
 obtain ⟨m1,m2,m3⟩:=h
 refine ⟨by rw [upd_same,List.map_append];rfl,by simp [m2],fun j l vs e1 e2=> ?_⟩
 rcases two_of e1 with ⟨c1,d1⟩ | ⟨c1,d1⟩ <;> rcases two_of e2 with ⟨c2,d2⟩ | ⟨c2,d2⟩
 ·have ne:l≠r:=fun z=>nr (by rw [← z];exact List.mem_of_getElem? d1)
  rw [upd_ne ne]
  exact m3 j l vs d1 d2
 ·omega
 ·omega
 ·subst d1 d2
  rw [upd_ne nD]
  exact hD
theorem MatV.row {H:Hp}{r:Addr}{ls:List Addr}{vss:List (List V)}(h:MatV H r ls vss){i:Nat}{vs:List V}(e:vss[i]? =some vs):∃l,ls[i]? =some l∧H l=some (.lst vs):=by
 have hi:i < vss.length:=(List.getElem?_eq_some_iff.mp e).1
 have l1:=h.2.1
 have e1:ls[i]? =some (ls[i]'(by omega)):=gE (by omega)
 exact ⟨_,e1,h.2.2 i _ _ e1 e⟩
def colV (vss:List (List V))(j:Nat):List V:=vss.map fun vs=>vs.getD j .non
def colsV (vss:List (List V))(m:Nat):List (List V):=(List.range m).map fun j=>colV vss j
inductive spTurned (vs:List V)(H:Hp)(Q:VK)(E_:XK):Prop where
 | mk (r:Addr) (ls:List Addr) (vss:List (List V:_)) (m:Int) (_:vs=[.ref r,.int m]) (_:MatV H r ls vss) (_:0≤m) (_:m≤1000) (_:ls.length≤1000) (_:(∀vs∈vss,m≤(vs.length:Int))) (_:∀c cs H',Same H H' →MatV H' c cs (colsV vss m.toNat)→Q (.ref c) H'):spTurned vs H Q E_
theorem sc_bx:FnScope ["rows","many","columns","column"] ["rows","many"] (defScope s_bx):=sq
theorem ok_bx (D:Def K mg "turned" s_bx ["rows","many"])(m_range:mg "range"=none):Fn P w K mg base (CXr P w) 1 "turned" ["rows","many"] spTurned:=by
 refine D.ok sc_bx (fun vs H Q E h=> ?_) (fun f cdv A outer s H vs Q E hr h=> ?_)
 ·obtain ⟨r,ls,vss,m,rfl,_⟩:=h
  rfl
 obtain ⟨r,ls,vss,m,rfl,M,m0,m1,hn,hv,q⟩:=h
 refine ⟨_,(pss_cons (ps_set (i:=2) sc_bx.nd rfl (Or.inl rfl) (pe_lst pa_nil))
  (pss_cons (ps_for PassesOwn.never rfl (pi_range1 rfl m_range (pac (pv 1) pa_nil)) (pg_name (i:=3) sc_bx.nd rfl (Or.inr rfl)) (pss_one (ps_expr (pe_bm PySem.F.plainAttrs_list PySem.F.slot_list_append PySem.F.type_list_append mt_append (pv 2) (pac (pe_comp (tn:=["row"]) (fr:=["column"]) (caps:=[3]) rfl ⟨rfl,by decide+kernel,rfl,by decide+kernel,by decide+kernel,rfl,⟨(by first | exact Or.inl rfl | exact Or.inr rfl),trivial⟩,⟨(by first | exact Or.inl rfl | exact Or.inr rfl),trivial⟩⟩ (pi_list (pv 0)) (fun _ _ _ _=>(pg_name (i:=0) (show (["row","column"]:List Str).Nodup from by decide+kernel) rfl (Or.inl rfl))) (fun _ _ _ _=>pf_nil) (fun _ _ _ _=>(pe_ix (ix_listK (K:=K) rfl) (pv 0) (pv 1) (fun _ _=>rfl)))) pa_nil)))))
  (pss_one (ps_ret (pv 2))))),?_⟩
 have l1:=M.2.1
 refine ⟨(by show 0≤sizeLine;decide),fun c nc=> ?_⟩
 refine ⟨_,rfl,_,rfl,by omega,by omega,?_⟩
 refine for_range (lo:=0) (n:=m.toNat) (fun i σ H' =>∃(o:Option V) (cs:List Addr),σ=[some (.ref r),some (.int m),some (.ref c),o]∧Same H H' ∧MatV H' c cs (colsV vss i)∧c∉cs) ⟨none,[],rfl,same_new nc _,⟨upd_same,rfl,fun i l vs e=>by simp at e⟩,by simp⟩ ?_ ?_
 ·rintro i σ H' hi ⟨o,cs,rfl,s1,C,ncs⟩
  have M' :=M.same s1
  refine ⟨_,rfl,.inl ⟨rfl,_,SqL.of C.1⟩,?_⟩
  refine ⟨_,rfl,r,rfl,⟨_,SqL.of M'.1⟩,fun D nD=> ?_⟩
  refine comp_list (cap:=[some (.int ((0:Int)+i))]) (K:=K) (a:=r) (xs:=ls.map V.ref) (fun k v _=>∃vs,vss[k]? =some vs∧v=vs.getD i .non) nD (by rw [List.length_map];exact Nat.lt_of_le_of_lt hn (by decide)) (fun H2 s2=>SqL.of (s2 _ _ M'.1)) (fun _ _ _ _ _ _ _ h=>h) ?_ ?_
  ·intro k u H2 R hu s2 kk
   rw [List.getElem?_map] at hu
   obtain ⟨l,el,rfl⟩:=Option.map_eq_some_iff.mp hu
   have hk:k < ls.length:=(List.getElem?_eq_some_iff.mp el).1
   have ev:vss[k]? =some (vss[k]'(by omega)):=gE (by omega)
   have hl:=M'.2.2 k l _ el ev
   have hi' :i < (vss[k]'(by omega)).length:=by
    have:=hv _ (List.mem_of_getElem? ev)
    omega
   have ea:atI (vss[k]'(by omega)) ((0:Int)+(i:Int))=some ((vss[k]'(by omega)).getD i .non):=by
    rw [Int.zero_add]
    exact atI_nat (by rw [gE hi',List.getD_eq_getElem?_getD,gE hi'];rfl)
   exact ⟨_,rfl,_,rfl,l,_,_,_,rfl,rfl,SqL.of (s2 _ _ hl),ea,kk _ _ (Same.refl _) ⟨_,ev,rfl⟩⟩
  ·intro ys H2 hy hrel s2 hD
   rw [List.length_map] at hy
   have ey:ys=colV vss i:=by
    refine List.ext_getElem? fun k=> ?_
    unfold colV
    by_cases hk:k < ys.length
    ·have e1:ys[k]? =some ys[k]:=gE hk
     obtain ⟨vs,ev,e2⟩:=hrel k _ e1
     rw [e1,e2,List.getElem?_map,ev]
     rfl
    ·rw [List.getElem?_eq_none (by omega),List.getElem?_eq_none (by simp;omega)]
   subst ey
   have lc:cs.length=i:=by have:=C.2.1;simpa [colsV] using this
   have nDc:D≠c:=fun z=>by rw [z,C.1] at nD;cases nD
   have fc:∀b o,H b=some o→b≠c:=fun b o e=>ne_of_none e nc
   refine ⟨c,_,_,rfl,rfl,s2 _ _ C.1,by rw [List.length_map,lc];exact Nat.lt_of_le_of_lt (show i≤1000 by omega) (by decide),?_⟩
   refine ⟨_,cs++[D],rfl,fun b o e=> ?_,?_,fun z=> ?_⟩
   ·rw [upd_ne (fc b o e)]
    exact s2 _ _ (s1 _ _ e)
   ·have e:colsV vss (i+1)=colsV vss i++[colV vss i]:=by simp [colsV,List.range_succ]
    rw [e]
    exact (C.same s2).snoc ncs hD nDc
   ·rcases List.mem_append.mp z with y | y
    ·exact ncs y
    ·exact nDc (List.mem_singleton.mp y).symm
 ·rintro σ H' ⟨o,cs,rfl,s1,C,ncs⟩
  exact ⟨_,rfl,q c cs H' s1 C⟩
def colQ (qss:List (List (Int×Int)))(j:Nat):List (Int×Int):=qss.map fun qs=>qs.getD j (0,1)
theorem Bd.of {b:Nat}{l:List Int}(h:∀t∈l,t.natAbs≤2^b):Bd b l:=fun j=>by
 by_cases hj:j < l.length
 ·have e:l[j]? =some l[j]:=gE hj
  rw [getD_mem e]
  exact h _ (List.getElem_mem hj)
 ·rw [getD_out (by omega)]
  exact Nat.zero_le _
abbrev Wl:=List Int×Int×Addr×Addr
def WlP (T B m:Nat)(qs:List (Int×Int))(d:Int×Int)(w:Wl):Prop:=Whole w.1 (qs++[d]) w.2.1∧0 < w.2.1∧w.2.1.natAbs≤2^(B*(m+1))∧∀t∈w.1,t.natAbs≤2^(T+B*(m+1))
theorem col_ints {lns:List (List Int)}{j n:Nat}(h:∀l∈lns,l.length=n)(hj:j < n):colV (lns.map fun l=>l.map V.int) j=(lns.map fun l=>l.getD j 0).map V.int:=by
 unfold colV
 rw [List.map_map,List.map_map]
 refine List.map_congr_left fun l hl=> ?_
 have hlen:=h l hl
 have e:l[j]? =some (l[j]'(by omega)):=gE (by omega)
 show (l.map V.int).getD j .non=.int (l.getD j 0)
 rw [getD_mem e,List.getD_eq_getElem?_getD,List.getElem?_map,e]
 rfl
theorem dot_csum (j:Nat):∀{ws:List Wl} {ss ys:List (Int×Int)} {cs:List (Int×Int)},ss.length=ws.length→ys.length=ws.length→cs.length=ws.length→
  (∀(i:Nat) (w:Wl) (s y:Int×Int),ws[i]? =some w→ss[i]? =some s→ys[i]? =some y→vl y=vl s*w.2.1)→(∀(i:Nat) (w:Wl) (c:Int×Int),ws[i]? =some w→cs[i]? =some c→((w.1.getD j 0:Int):Rat)=vl c*w.2.1)→dotQ ys cs=csum (ss.map vl) (ws.map (·.1)) j
 | [],[],[],[],_,_,_,_,_=>by simp [dotQ,csum]
 | w::ws,s::ss,y::ys,c::cs,h1,h2,h3,h4,h5=>by
  have ih:=dot_csum j (ws:=ws) (ss:=ss) (ys:=ys) (cs:=cs) (by simpa using h1) (by simpa using h2) (by simpa using h3) (fun i w s y e1 e2 e3=>h4 (i+1) w s y (by simpa using e1) (by simpa using e2) (by simpa using e3)) (fun i w c e1 e2=>h5 (i+1) w c (by simpa using e1) (by simpa using e2))
  have a:=h4 0 w s y rfl rfl rfl
  have b:=h5 0 w c rfl rfl
  have ed:dotQ (y::ys) (c::cs)=vl y*vl c+dotQ ys cs:=by simp [dotQ]
  simp only [List.map_cons,csum]
  rw [ed,ih,a,b]
  grind
 | [],_::_,_,_,h,_,_,_,_=>by simp at h
 | [],[],_::_,_,_,h,_,_,_=>by simp at h
 | [],[],[],_::_,_,_,h,_,_=>by simp at h
 | _::_,[],_,_,h,_,_,_,_=>by simp at h
 | _::_,_::_,[],_,_,h,_,_,_=>by simp at h
 | _::_,_::_,_::_,[],_,_,h,_,_=>by simp at h
def pps (m:Nat)(lns:List (List Int)):List (List Int):=(List.range m).map (fun j=>(lns.map fun l=>l.getD j 0)++[0])++[(lns.map fun l=>l.getD m 0)++[1]]
theorem pps_mem {m:Nat}{lns:List (List Int)}{o:List Int}(h:o∈pps m lns):∃k,k < m+1∧o=(lns.map fun l=>l.getD k 0)++[if k=m then 1 else 0]∧True:=by
 unfold pps at h
 rcases List.mem_append.mp h with z | z
 ·obtain ⟨j,hj,rfl⟩:=List.mem_map.mp z
  have hj' :j < m:=List.mem_range.mp hj
  exact ⟨j,by omega,by rw [if_neg (by omega)],trivial⟩
 ·exact ⟨m,by omega,by rw [if_pos rfl];exact List.mem_singleton.mp z,trivial⟩
theorem pps_at {m k:Nat}{lns:List (List Int)}(h:k < m+1):(lns.map fun l=>l.getD k 0)++[if k=m then 1 else 0]∈pps m lns:=by
 unfold pps
 by_cases z:k=m
 ·subst z
  rw [if_pos rfl]
  simp
 ·rw [if_neg z]
  exact List.mem_append.mpr (.inl (List.mem_map.mpr ⟨k,List.mem_range.mpr (by omega),rfl⟩))
theorem paper_sure {m n:Nat}{l0 l1:List Int}{ws:List Wl}(hlen:∀l∈ws.map (·.1),l.length=m+1)(hn:ws.length=n)(c0:Comb (ws.map (·.1)) l0)(h0:∀j,j < m→l0.getD j 0=0)(h0m:l0.getD m 0≠0)(c1:Comb (pps m (ws.map (·.1))) l1)(l1l:l1.length=n+1)(h1:∀j,j < n→l1.getD j 0=0)(hp:∀o∈pps m (ws.map (·.1)),o.length=n+1):l1.getD n 0=0:=by
 obtain ⟨y0,ly,ey⟩:=c0
 have h0m' :=ratne h0m
 have ly' :(y0.map fun a=>a*(1 / ((l0.getD m 0:Int):Rat))).length=(ws.map (·.1)).length:=by simp [ly]
 have all:∀o∈pps m (ws.map (·.1)),ev o (zOf (y0.map fun a=>a*(1 / ((l0.getD m 0:Int):Rat))))=0:=by
  intro o ho
  obtain ⟨k,hk,rfl,_⟩:=pps_mem ho
  rw [ev_col k _ (ws.map (·.1)) _ ly',csum_scale, ← ey k]
  by_cases z:k=m
  ·subst z
   rw [if_pos rfl]
   have e' :((1:Int):Rat)=1:=by simp
   rw [e']
   grind
  ·rw [if_neg z,h0 k (by omega)]
   simp
   grind
 have e:=ev_comb (n:=n+1) c1 (by omega) (fun o ho=>by rw [hp o ho];exact Nat.le_refl _) all
 rw [ev_one l1 _ n (fun j hj=>by
  by_cases z:j < n
  ·rw [h1 j z]
   simp
  ·rw [getD_out (by omega)]
   simp)] at e
 have zn:zOf (y0.map fun a=>a*(1 / ((l0.getD m 0:Int):Rat))) n= -1:=by
  unfold zOf
  rw [if_neg (by rw [ly',List.length_map];omega)]
 rw [zn] at e
 have:((l1.getD n 0:Int):Rat)=0:=by grind
 exact_mod_cast this
theorem whole_col {ts:List Int}{qs:List (Int×Int)}{d:Int×Int}{b:Int}{j:Nat}(h:Whole ts (qs++[d]) b)(hj:j < qs.length):((ts.getD j 0:Int):Rat)=vl (qs.getD j (0,1))*b:=by
 have l:=h.1
 rw [List.length_append] at l
 simp at l
 have e1:ts[j]? =some (ts[j]'(by omega)):=gE (by omega)
 have e2:qs[j]? =some qs[j]:=gE hj
 have:=h.2 j _ _ e1 (by rw [List.getElem?_append_left hj];exact e2)
 rw [getD_mem e1,List.getD_eq_getElem?_getD,e2]
 exact this
theorem whole_last {ts:List Int}{qs:List (Int×Int)}{d:Int×Int}{b:Int}{m:Nat}(h:Whole ts (qs++[d]) b)(hm:qs.length=m):((ts.getD m 0:Int):Rat)=vl d*b:=by
 have l:=h.1
 rw [List.length_append] at l
 simp at l
 have e1:ts[m]? =some (ts[m]'(by omega)):=gE (by omega)
 have:=h.2 m _ d e1 (by rw [List.getElem?_append_right (by omega),hm];simp)
 rw [getD_mem e1]
 exact this
inductive spSolve (K:Frag)(vs:List V)(H:Hp)(Q:VK)(E_:XK):Prop where
 | mk (r dl:Addr) (m:Nat) (ls:List Addr) (vss:List (List V:_)) (qss:List (List (Int×Int))) (dus:List V) (ds:List (Int×Int)) (T B Z:Nat) (_:vs=[.ref r,.ref dl,.int (m:Int)]) (_:MatV H r ls vss) (_:NumssK K H vss qss) (_:H dl=some (.lst dus)) (_:NmsK K H dus ds) (_:ds.length=qss.length) (_:Shape T B m qss) (_:(∀d∈ds,Sm T B d)) (_:m≤100) (_:qss.length≤100) (_:T≤20000) (_:B*(m+1)≤8000) (_:bb (T+B*(m+1)) (min (m+1) qss.length)≤Z) (_:Z≤29000000) (_:(∀(p x:Addr) (us:List V) (xs:List (Int×Int)) (H' :Hp),Same H H' →H' p=some (.tup [.str "solved",.ref x])→H' x=some (.lst us)→NmsK K H' us xs→xs.length=m→(∀q∈xs,Sm Z Z q)→(∀(i:Nat) (qs:List (Int×Int)) (d:Int×Int),qss[i]? =some qs→ds[i]? =some d→dotQ qs xs=vl d)→Q (.ref p) H')) (_:(∀(p y:Addr) (us:List V) (ys:List (Int×Int)) (H' :Hp),Same H H' →H' p=some (.tup [.str "paper",.ref y])→H' y=some (.lst us)→NmsK K H' us ys→ys.length=qss.length→(∀q∈ys,Sm (Z+B*(m+1)) Z q)→(∀j,j < m→dotQ ys (colQ qss j)=0)→dotQ ys ds=1→Q (.ref p) H')):spSolve K vs H Q E_
theorem sc_aq:FnScope ["rows","due","many","wholes","lines","x","columns","papers","shares"] ["rows","due","many"] (defScope s_aq):=sq
theorem ok_aq (D:Def K mg "solve_rows" s_aq ["rows","due","many"])(m_zip:mg "zip"=none)(m_len:mg "len"=none)(G_b5:Fn P w K mg base (CXr P w) 2 "whole_row" ["row"] (spWR K))(G_ae:Fn P w K mg base (CXr P w) 36 "solution_of" ["lines","many"] (spSolution K))(G_bx:Fn P w K mg base (CXr P w) 1 "turned" ["rows","many"] spTurned)(G_ac:Fn P w K mg base (CXr P w) 33 "lowest_terms" ["top","bottom"] spLowestU):
  Fn P w K mg base (CXr P w) 37 "solve_rows" ["rows","due","many"] (spSolve K):=by
 refine D.ok sc_aq (fun vs H Q E h=> ?_) (fun f cdv A outer s H vs Q E hr h=> ?_)
 ·obtain ⟨r,dl,m,ls,vss,qss,dus,ds,T,B,Z,rfl,_⟩:=h
  rfl
 obtain ⟨r,dl,m,ls,vss,qss,dus,ds,T,B,Z,rfl,M,NN,hdl,ND,hds,sh,sd,hm,hn,hT,hB,hZ,hZ1,q1,q2⟩:=h
 refine ⟨_,(pss_cons (ps_setC (i:=3) sc_aq.nd rfl (Or.inl rfl) (tn:=["row","number"]) (fr:=[]) (caps:=[]) rfl ⟨rfl,by decide+kernel,rfl,by decide+kernel,by decide+kernel,rfl,trivial,trivial⟩ (pi_zip rfl m_zip (pac (pv 0) (pac (pv 1) pa_nil))) (fun _ _ _ _=>(pg_tupK (K:=K) (n:=2) rfl rfl (pgs_cons (pg_name (i:=0) (show (["row","number"]:List Str).Nodup from by decide+kernel) rfl (Or.inl rfl)) (pgs_cons (pg_name (i:=1) (show (["row","number"]:List Str).Nodup from by decide+kernel) rfl (Or.inl rfl)) pgs_nil)))) (fun _ _ _ _=>pf_nil) (fun _ _ _ _=>(pe_fn G_b5 hr.mo (passB (by first | assumption | exact CXr.mute) rfl) (pac (pe_op op_cat (pv 0) (pe_lst (pac (pv 1) pa_nil))) pa_nil))))
  (pss_cons (ps_setC (i:=4) sc_aq.nd rfl (Or.inl rfl) (tn:=["whole"]) (fr:=[]) (caps:=[]) rfl ⟨rfl,by decide+kernel,rfl,by decide+kernel,by decide+kernel,rfl,trivial,trivial⟩ (pi_list (pv 3)) (fun _ _ _ _=>(pg_name (i:=0) (show (["whole"]:List Str).Nodup from by decide+kernel) rfl (Or.inl rfl))) (fun _ _ _ _=>pf_nil) (fun _ _ _ _=>(pe_ix (ix_tupK (K:=K) rfl) (pv 0) pe_int (fun _ _=>rfl))))
  (pss_cons (ps_set (i:=5) sc_aq.nd rfl (Or.inl rfl) (pe_fn G_ae hr.mo pX (pac (pv 4) (pac (pv 2) pa_nil))))
  (pss_cons (ps_if (pt_cmpR op_notN (pv 5) pe_non (nomark _)) (pss_one (ps_ret (pe_tup (pac pe_str (pac (pv 5) pa_nil))))) pss_nil)
  (pss_cons (ps_set (i:=6) sc_aq.nd rfl (Or.inl rfl) (pe_fn G_bx hr.mo pX (pac (pv 4) (pac (pe_op op_add (pv 2) pe_int) pa_nil))))
  (pss_cons (ps_set (i:=7) sc_aq.nd rfl (Or.inl rfl) (pe_op op_cat (pe_comp (tn:=["column"]) (fr:=[]) (caps:=[]) rfl ⟨rfl,by decide+kernel,rfl,by decide+kernel,by decide+kernel,rfl,trivial,trivial⟩ (pi_list (pe_slice sl_list (pv 6) po_none (po_some (pv 2)))) (fun _ _ _ _=>(pg_name (i:=0) (show (["column"]:List Str).Nodup from by decide+kernel) rfl (Or.inl rfl))) (fun _ _ _ _=>pf_nil) (fun _ _ _ _=>(pe_op op_cat (pv 0) (pe_lst (pac pe_int pa_nil))))) (pe_lst (pac (pe_op op_cat (pe_ix ix_list (pv 6) (pv 2) (fun _ _=>rfl)) (pe_lst (pac pe_int pa_nil))) pa_nil))))
  (pss_cons (ps_set (i:=8) sc_aq.nd rfl (Or.inl rfl) (pe_fn G_ae hr.mo pX (pac (pv 7) (pac (pe_callB call_len_seq rfl m_len b_len (pac (pv 4) pa_nil)) pa_nil))))
  (pss_one (ps_ret (pe_tup (pac pe_str (pac (pe_comp (tn:=["share","whole"]) (fr:=[]) (caps:=[]) rfl ⟨rfl,by decide+kernel,rfl,by decide+kernel,by decide+kernel,rfl,trivial,trivial⟩ (pi_zip rfl m_zip (pac (pv 8) (pac (pv 3) pa_nil))) (fun _ _ _ _=>(pg_tupK (K:=K) (n:=2) rfl rfl (pgs_cons (pg_name (i:=0) (show (["share","whole"]:List Str).Nodup from by decide+kernel) rfl (Or.inl rfl)) (pgs_cons (pg_name (i:=1) (show (["share","whole"]:List Str).Nodup from by decide+kernel) rfl (Or.inl rfl)) pgs_nil)))) (fun _ _ _ _=>pf_nil) (fun _ _ _ _=>(pe_fn G_ac hr.mo (passB (by first | assumption | exact CXr.mute) rfl) (pac (pe_op op_mulZ (pe_ix (ix_tupK (K:=K) rfl) (pv 0) pe_int (fun _ _=>rfl)) (pe_ix (ix_tupK (K:=K) rfl) (pv 1) pe_int (fun _ _=>rfl))) (pac (pe_ix (ix_tupK (K:=K) rfl) (pv 0) pe_int (fun _ _=>rfl)) pa_nil))))) pa_nil)))))))))))),?_⟩
 have l1:=M.2.1
 have l2:=NN.1
 have l3:=ND.1
 have hB1:B≤8000:=Nat.le_trans (Nat.le_mul_of_pos_right B (Nat.succ_pos m)) hB
 refine ⟨_,rfl,_,rfl,r,dl,rfl,⟨_,SqL.of M.1⟩,⟨_,SqL.of hdl⟩,fun D1 n1=> ?_⟩
 refine comp_zipD (cap:=[]) (K:=K) (xs:=ls.map V.ref) (ys:=dus) (fun i v H=>∃w:Wl,v=.ref w.2.2.2∧w.2.2.1≠D1∧H w.2.2.2=some (.tup [.ref w.2.2.1,.int w.2.1])∧H w.2.2.1=some (.lst (w.1.map V.int))∧∀qs d,qss[i]? =some qs→ds[i]? =some d→WlP T B m qs d w) n1 (by rw [List.length_map];exact Nat.lt_of_le_of_lt (show ls.length≤1000 by omega) (by decide)) (by rw [List.length_map];omega) (fun H2 s2=>SqL.of (s2 _ _ M.1)) (fun H2 s2=>SqL.of (s2 _ _ hdl)) ?_ ?_ ?_
 ·rintro i v H2 H3 ys hD ks ⟨w,e1,e2,e3,e4,e5⟩
  exact ⟨w,e1,e2,ks _ _ (fun z=>by rw [z,hD] at e3;cases e3) e3,ks _ _ e2 e4,e5⟩
 ·rintro i x y H2 RR ex ey s2 ⟨ys0,hD0⟩ kk
  rw [List.getElem?_map] at ex
  obtain ⟨l,el,rfl⟩:=Option.map_eq_some_iff.mp ex
  have hi:i < ls.length:=(List.getElem?_eq_some_iff.mp el).1
  obtain ⟨qs,eq⟩:∃qs,qss[i]? =some qs:=⟨_,gE (by omega)⟩
  obtain ⟨vs,ev⟩:∃vs,vss[i]? =some vs:=⟨_,gE (by omega)⟩
  have hl:=M.2.2 i l vs el ev
  have hq:=NN.2 i vs qs ev eq
  obtain ⟨d,ed,nd⟩:=ND.at ey
  obtain ⟨lq,sq⟩:=sh qs (List.mem_of_getElem? eq)
  have lvs:=hq.1
  refine ⟨_,rfl,_,rfl,(by show 1≤sizeLine;decide),fun p1 np1=> ?_⟩
  have t1:=same_new np1 (.lst [y])
  refine ⟨l,p1,vs,_,rfl,rfl,t1 _ _ (s2 _ _ hl),upd_same,Nat.le_trans (show vs.length+1≤1000 by omega) (by decide),fun p2 np2=> ?_⟩
  have t2:=same_new np2 (.lst (vs++[y]))
  have t12:=t1.trans t2
  refine ⟨p2,qs++[d],T,B,rfl,⟨_,SqL.of upd_same,(NmsK.snoc ((hq.same s2).same t12) ((nd.same s2).same t12))⟩,fun q' hq' => ?_,hT,by rw [List.length_append,lq];exact hB,hB1,by rw [List.length_append,lq];show m+1≤1000;omega,fun p3 l3' ts b H3 s3 nl hp3 hl3 hb hbs wh hts=> ?_⟩
  ·rcases List.mem_append.mp hq' with z | z
   ·exact sq q' z
   ·rw [List.mem_singleton.mp z]
    exact sd d (List.mem_of_getElem? ed)
  ·refine kk _ _ (t12.trans s3) ⟨(ts,b,l3',p3),rfl,fun z=> ?_,hp3,hl3,fun qs' d' e1 e2=> ?_⟩
   ·have:=t12 _ _ hD0
    rw [show l3' =D1 from z,this] at nl
    cases nl
   ·rw [eq] at e1
    rw [ed] at e2
    cases e1
    cases e2
    rw [List.length_append,lq] at hbs hts
    exact ⟨wh,hb,hbs,hts⟩
 ·intro zs H2 hz hrel s2 hD1
  rw [List.length_map] at hz
  obtain ⟨ws,lw,hw⟩:=list_pick (P:=fun i v (w:Wl)=>v=.ref w.2.2.2∧w.2.2.1≠D1∧H2 w.2.2.2=some (.tup [.ref w.2.2.1,.int w.2.1])∧H2 w.2.2.1=some (.lst (w.1.map V.int))∧∀qs d,qss[i]? =some qs→ds[i]? =some d→WlP T B m qs d w) zs hrel
  have ez:zs=ws.map (fun w=>V.ref w.2.2.2):=by
   refine List.ext_getElem? fun i=> ?_
   rw [List.getElem?_map]
   by_cases hi:i < zs.length
   ·have e1:zs[i]? =some zs[i]:=gE hi
    have e2:ws[i]? =some (ws[i]'(by omega)):=gE (by omega)
    have h:=(hw i _ _ e1 e2).1
    rw [e1,e2,h]
    rfl
   ·rw [List.getElem?_eq_none (by omega),List.getElem?_eq_none (by omega)]
    rfl
  subst ez
  have lwn:ws.length=qss.length:=by omega
  have wat:∀(i:Nat) (w:Wl),ws[i]? =some w→H2 w.2.2.2=some (.tup [.ref w.2.2.1,.int w.2.1])∧H2 w.2.2.1=some (.lst (w.1.map V.int))∧∀qs d,qss[i]? =some qs→ds[i]? =some d→WlP T B m qs d w:=fun i w e=>(hw i _ w (by rw [List.getElem?_map,e];rfl) e).2.2
  have wp:∀(i:Nat) (w:Wl),ws[i]? =some w→∃qs d,qss[i]? =some qs∧ds[i]? =some d∧WlP T B m qs d w:=fun i w e=>by
   have hi:i < ws.length:=(List.getElem?_eq_some_iff.mp e).1
   obtain ⟨qs,eq⟩:∃qs,qss[i]? =some qs:=⟨_,gE (by omega)⟩
   obtain ⟨d,ed⟩:∃d,ds[i]? =some d:=⟨_,gE (by omega)⟩
   exact ⟨qs,d,eq,ed,(wat i w e).2.2 qs d eq ed⟩
  have wlen:∀l∈ws.map (·.1),l.length=m+1:=fun l hl=>by
   obtain ⟨w,hw',rfl⟩:=List.mem_map.mp hl
   obtain ⟨i,e⟩:=List.getElem?_of_mem hw'
   obtain ⟨qs,d,eq,_,wh,_⟩:=wp i w e
   have:=wh.1
   rw [List.length_append,(sh qs (List.mem_of_getElem? eq)).1] at this
   exact this
  have wbd:∀l∈ws.map (·.1),Bd (T+B*(m+1)) l:=fun l hl=>by
   obtain ⟨w,hw',rfl⟩:=List.mem_map.mp hl
   obtain ⟨i,e⟩:=List.getElem?_of_mem hw'
   obtain ⟨qs,d,eq,_,_,_,_,h⟩:=wp i w e
   exact Bd.of h
  have hlm:(ws.map (·.1)).length=qss.length:=by rw [List.length_map];exact lwn
  refine ⟨_,rfl,D1,rfl,⟨_,SqL.of hD1⟩,fun D2 n2=> ?_⟩
  refine comp_list (cap:=[]) (K:=K) (a:=D1) (xs:=ws.map (fun w=>V.ref w.2.2.2)) (fun k v _=>∃w,ws[k]? =some w∧v=.ref w.2.2.1) n2 (by rw [List.length_map];exact Nat.lt_of_le_of_lt (show ws.length≤1000 by omega) (by decide)) (fun H3 s3=>SqL.of (s3 _ _ hD1)) (fun _ _ _ _ _ _ _ h=>h) ?_ ?_
  ·intro k x H3 RR ex s3 kk
   rw [List.getElem?_map] at ex
   obtain ⟨w,ew,rfl⟩:=Option.map_eq_some_iff.mp ex
   exact ⟨_,rfl,w.2.2.2,_,_,_,rfl,rfl,SqT.of (s3 _ _ (wat k w ew).1),at0,kk _ _ (Same.refl _) ⟨w,ew,rfl⟩⟩
  intro ys H3 hy hrel3 s3 hD2
  have ey:ys=(ws.map (fun w=>w.2.2.1)).map V.ref:=by
   refine List.ext_getElem? fun i=> ?_
   rw [List.length_map] at hy
   by_cases hi:i < ys.length
   ·have e1:ys[i]? =some ys[i]:=gE hi
    obtain ⟨w,e2,e3⟩:=hrel3 i _ e1
    rw [e1,e3,List.getElem?_map,List.getElem?_map,e2]
    rfl
   ·rw [List.getElem?_eq_none (by omega),List.getElem?_eq_none (by simp;omega)]
  subst ey
  have hLl:Lns H3 ((ws.map (fun w=>w.2.2.1)).map V.ref) (ws.map (·.1)):=⟨by simp,fun i u l e1 e2=>by
   rw [List.getElem?_map,List.getElem?_map] at e1
   rw [List.getElem?_map] at e2
   cases e:ws[i]? with
   | none=>rw [e] at e2;cases e2
   | some w=>
    rw [e] at e1 e2
    cases e1
    cases e2
    exact ⟨w.2.2.1,rfl,s3 _ _ (wat i w e).2.1⟩⟩
  have hMm:MatV H3 D2 (ws.map (fun w=>w.2.2.1)) ((ws.map (·.1)).map fun l=>l.map V.int):=⟨hD2,by simp,fun i l vs e1 e2=>by
   rw [List.getElem?_map] at e1
   rw [List.getElem?_map,List.getElem?_map] at e2
   cases e:ws[i]? with
   | none=>rw [e] at e2;cases e2
   | some w=>
    rw [e] at e1 e2
    cases e1
    cases e2
    exact s3 _ _ (wat i w e).2.1⟩
  have mn:bb (T+B*(m+1)) (min m (ws.map (·.1)).length)≤Z:=Nat.le_trans (bb_mono _ (by rw [hlm];omega)) hZ
  have s23:=s2.trans s3
  refine ⟨_,rfl,_,rfl,D2,_,ws.map (·.1),m,T+B*(m+1),rfl,SqL.of hD2,hLl,wlen,by omega,by omega,wbd,Nat.le_trans mn hZ1,fun l0 H4 s4 l0l cm l00 l0m=> ?_,fun x us' xs H4 s4 nx hx nxs lxs sxs sol=> ?_⟩
  ·refine ⟨_,rfl,rfl,_,rfl,?_⟩
   refine ite2 (fun z=>by simp at z) (fun _=> ?_)
   have M4:=hMm.same s4
   refine ⟨_,rfl,_,rfl,_,_,rfl,rfl,D2,ws.map (fun w=>w.2.2.1),_,(m:Int)+1,rfl,M4,by omega,by omega,by rw [List.length_map];omega,fun vs hvs=> ?_,fun c cs H5 s5 M5=> ?_⟩
   ·obtain ⟨l,hl,rfl⟩:=List.mem_map.mp hvs
    rw [List.length_map,wlen l hl]
    omega
   have lcs:cs.length=m+1:=by
    have:=M5.2.1
    unfold colsV at this
    simp at this
    omega
   have col:∀k,k < m+1→∃l,cs[k]? =some l∧H5 l=some (.lst (((ws.map (·.1)).map fun l=>l.getD k 0).map V.int)):=fun k hk=>by
    have e:(colsV ((ws.map (·.1)).map fun l=>l.map V.int) ((m:Int)+1).toNat)[k]? =some (((ws.map (·.1)).map fun l=>l.getD k 0).map V.int):=by
     rw [← col_ints wlen hk]
     unfold colsV
     rw [List.getElem?_map,List.getElem?_range (by omega)]
     rfl
    exact M5.row e
   refine ⟨_,rfl,_,rfl,_,rfl,c,_,rfl,SqL.of M5.1,fun p6 n6=> ?_⟩
   have t6:=same_new n6 (.lst (cutV (cs.map V.ref) none (some (m:Int))))
   refine ⟨p6,rfl,⟨_,SqL.of upd_same⟩,fun D6 nD6=> ?_⟩
   have lcl:((ws.map (·.1)).map fun l=>l.getD 0 0).length≤100:=by simp;omega
   refine comp_listD (cap:=[]) (K:=K) (a:=p6) (xs:=(cs.map V.ref).take m) (fun k v H=>∃p,v=.ref p∧p≠D6∧H p=some (.lst ((List.map (fun l:List Int=>l.getD k 0) (ws.map (fun w:Wl=>w.1))++[(0:Int)]).map V.int))) nD6 (Nat.lt_of_le_of_lt (show ((cs.map V.ref).take m).length≤1000 by simp;omega) (by decide)) (fun H7 s7=>SqL.of (s7 _ _ (by rw [upd_same,cutV_to (by simp;omega)]))) ?_ ?_ ?_
   ·rintro k v H7 H8 ys hD ks ⟨p,e1,e2,e3⟩
    exact ⟨p,e1,e2,ks _ _ e2 e3⟩
   ·rintro k x H7 RR ex s7 ⟨ys0,hy0⟩ kk
    have hk:k < m:=by have:=(List.getElem?_eq_some_iff.mp ex).1;simp at this;omega
    obtain ⟨l,el,hl⟩:=col k (by omega)
    rw [List.getElem?_take,if_pos hk,List.getElem?_map,el] at ex
    cases ex
    refine ⟨_,rfl,(by show 1≤sizeLine;decide),fun pz nz=> ?_⟩
    have tz:=same_new nz (.lst [.int 0])
    refine ⟨l,pz,_,_,rfl,rfl,tz _ _ (s7 _ _ (t6 _ _ hl)),upd_same,Nat.le_trans (show _≤1000 by simp;omega) (by decide),fun pn nn=> ?_⟩
    have tn:=same_new nn (.lst (((ws.map (·.1)).map fun l=>l.getD k 0).map V.int++[.int 0]))
    refine kk _ _ (tz.trans tn) ⟨pn,rfl,fun z=> ?_,by rw [upd_same,List.map_append];rfl⟩
    have:=tz _ _ hy0
    rw [z,this] at nn
    cases nn
   intro ys6 H7 hy6 hrel6 s7 hD6
   have ly6:ys6.length=m:=by rw [hy6];simp;omega
   have t67:=t6.trans s7
   obtain ⟨lm,elm,hlm'⟩:=col m (by omega)
   refine ⟨_,rfl,_,rfl,c,_,_,_,rfl,rfl,SqL.of (t67 _ _ M5.1),atI_nat (by rw [List.getElem?_map,elm];rfl),(by show 1≤sizeLine;decide),fun pz nz=> ?_⟩
   have tz:=same_new nz (.lst [.int 1])
   refine ⟨lm,pz,_,_,rfl,rfl,tz _ _ (t67 _ _ hlm'),upd_same,Nat.le_trans (show _≤1000 by simp;omega) (by decide),fun pn nn=> ?_⟩
   have tn:=same_new nn (.lst (((ws.map (·.1)).map fun l=>l.getD m 0).map V.int++[.int 1]))
   refine ⟨(by show 1≤sizeLine;decide),fun pL nL=> ?_⟩
   have tL:=same_new nL (.lst [V.ref pn])
   have tzL:=(tz.trans tn).trans tL
   refine ⟨D6,pL,ys6,_,rfl,rfl,tzL _ _ hD6,upd_same,Nat.le_trans (show ys6.length+1≤1000 by omega) (by decide),fun pP nP=> ?_⟩
   have tP:=same_new nP (.lst (ys6++[V.ref pn]))
   have s7P:=tzL.trans tP
   have hpn:=tP _ _ (tL _ _ (upd_same (H:=upd H7 pz (.lst [.int 1])) (a:=pn) (o:=.lst (((ws.map (·.1)).map fun l=>l.getD m 0).map V.int++[.int 1]))))
   have eP:upd (upd (upd (upd H7 pz (.lst [.int 1])) pn (.lst (((ws.map (·.1)).map fun l=>l.getD m 0).map V.int++[.int 1]))) pL (.lst [V.ref pn])) pP (.lst (ys6++[V.ref pn])) pP=some (.lst (ys6++[V.ref pn])):=upd_same
   have rel6:∀(k:Nat) (v:V),ys6[k]? =some v→Ln H7 v (((ws.map (·.1)).map fun l=>l.getD k 0)++[0]):=fun k v e=>by
    obtain ⟨p,e1,_,e3⟩:=hrel6 k v e
    exact ⟨p,e1,e3⟩
   have s5P:=t67.trans s7P
   generalize upd (upd (upd (upd H7 pz (.lst [.int 1])) pn (.lst (((ws.map (·.1)).map fun l=>l.getD m 0).map V.int++[.int 1]))) pL (.lst [V.ref pn])) pP (.lst (ys6++[V.ref pn]))=H9 at*
   have hpps:Lns H9 (ys6++[V.ref pn]) (pps m (ws.map (·.1))):=by
    refine ⟨by simp [pps,ly6],fun k u l e1 e2=> ?_⟩
    unfold pps at e2
    by_cases hk:k < m
    ·rw [List.getElem?_append_left (by omega)] at e1
     rw [List.getElem?_append_left (by simpa using hk),List.getElem?_map,List.getElem?_range hk] at e2
     cases e2
     exact (rel6 k u e1).same s7P
    ·rw [List.getElem?_append_right (by omega)] at e1
     rw [List.getElem?_append_right (by simp;omega)] at e2
     by_cases hkm:k=m
     ·subst hkm
      rw [show k - ys6.length=0 by omega] at e1
      rw [show k - ((List.range k).map fun j=>((ws.map (·.1)).map fun l=>l.getD j 0)++[0]).length=0 by simp] at e2
      cases e1
      cases e2
      exact ⟨pn,rfl,by rw [hpn,List.map_append];rfl⟩
     ·rw [List.getElem?_eq_none (by simp;omega)] at e1
      cases e1
   have ppl:∀o∈pps m (ws.map (·.1)),o.length=qss.length+1:=fun o ho=>by
    rcases pps_mem ho with ⟨k,hk,e⟩
    rw [e.1]
    simp [lwn]
   have ppb:∀o∈pps m (ws.map (·.1)),Bd (T+B*(m+1)) o:=fun o ho=>by
    rcases pps_mem ho with ⟨k,hk,e,hc⟩
    rw [e]
    refine Bd.of fun t ht=> ?_
    rcases List.mem_append.mp ht with z | z
    ·obtain ⟨l,hl,rfl⟩:=List.mem_map.mp z
     exact wbd l hl k
    ·rw [List.mem_singleton.mp z]
     refine Nat.le_trans ?_ (Nat.one_le_two_pow (n:=T+B*(m+1)))
     split <;> decide
   have lpp:(pps m (ws.map (·.1))).length=m+1:=by simp [pps]
   have mn2:bb (T+B*(m+1)) (min qss.length (pps m (ws.map (·.1))).length)≤Z:=Nat.le_trans (bb_mono _ (by rw [lpp];omega)) hZ
   have s39:=(s4.trans s5).trans s5P
   refine ⟨_,rfl,_,rfl,D2,_,rfl,.inl (SqL.of (s39 _ _ hD2)),pP,_,pps m (ws.map (·.1)),qss.length,T+B*(m+1),by simp [lwn],SqL.of eP,hpps,ppl,by omega,by omega,ppb,Nat.le_trans mn2 hZ1,fun l1 H10 s10 l1l cm1 l10 l1m=> ?_,fun x2 us2 ss H10 s10 nx2 hx2 nss lss sss sol2=> ?_⟩
   ·exact absurd (paper_sure wlen lwn cm l00 l0m cm1 l1l l10 ppl) l1m
   have csm:∀k,k < m+1→csum (ss.map vl) (ws.map (·.1)) k=if k=m then 1 else 0:=fun k hk=>by
    have e:=sol2 _ (pps_at hk)
    rw [ev_col k _ (ws.map (·.1)) (ss.map vl) (by simp [lwn,lss])] at e
    by_cases z:k=m
    ·rw [if_pos z] at e ⊢
     have e' :((1:Int):Rat)=1:=by simp
     rw [e'] at e
     grind
    ·rw [if_neg z] at e ⊢
     have e' :((0:Int):Rat)=0:=by simp
     rw [e'] at e
     grind
   have s310:=s39.trans s10
   have hD10:=s310 _ _ (s3 _ _ hD1)
   have lns2:=nss.1
   refine ⟨_,rfl,_,rfl,x2,D1,rfl,⟨_,SqL.of hx2⟩,⟨_,SqL.of hD10⟩,fun D9 n9=> ?_⟩
   refine comp_zip (cap:=[]) (K:=K) (xs:=us2) (ys:=ws.map (fun w=>V.ref w.2.2.2)) (fun k v H=>∃w q,ws[k]? =some w∧ss[k]? =some q∧Nm H v (low (q.1*w.2.1) q.2)) n9 (Nat.lt_of_le_of_lt (show us2.length≤1000 by omega) (by decide)) (by rw [List.length_map];omega) (fun H11 s11=>SqL.of (s11 _ _ hx2)) (fun H11 s11=>SqL.of (s11 _ _ hD10)) ?_ ?_ ?_
   ·rintro k v H11 H12 ys hD ks ⟨w,q,e1,e2,e3⟩
    exact ⟨w,q,e1,e2,e3.kept hD ks⟩
   ·intro k x y H11 RR ex ey s11 kk
    obtain ⟨q,eq',ps,rfl,hps⟩:=nss.at ex
    rw [List.getElem?_map] at ey
    obtain ⟨w,ew,rfl⟩:=Option.map_eq_some_iff.mp ey
    obtain ⟨qs,d,eqs,eds,wh,wb,wbs,_⟩:=wp k w ew
    have sq:=sss q (List.mem_of_getElem? eq')
    have hw1:=s11 _ _ (s310 _ _ (s3 _ _ (wat k w ew).1))
    have hps1:=Ty.Same.seqT s11 hps
    refine ⟨_,rfl,ps,_,_,_,rfl,rfl,hps1,at0,_,rfl,w.2.2.2,_,_,_,rfl,rfl,SqT.of hw1,at1,_,_,rfl,rfl,pw_cmulS (pw_up sq.top mn2) wbs (by omega),_,rfl,ps,_,_,_,rfl,rfl,hps1,at1,?_⟩
    exact ⟨_,_,rfl,by have:=sq.pos;omega,fun p8 H8 s8 e8=>kk _ _ s8 ⟨w,q,ew,eq',p8,rfl,e8⟩⟩
   intro us9 H11 h9 hrel9 s11 hD9
   refine ⟨(by show 2≤sizeLine;decide),fun p12 n12=> ?_⟩
   have s12:=same_new n12 (.tup [.str "paper",.ref D9])
   have yat:∀(k:Nat) (w:Wl) (q:Int×Int),ws[k]? =some w→ss[k]? =some q→(List.zipWith (fun (w:Wl) (q:Int×Int)=>low (q.1*w.2.1) q.2) ws ss)[k]? =some (low (q.1*w.2.1) q.2):=fun k w q e1 e2=>by rw [List.getElem?_zipWith,e1,e2]
   have ylen:(List.zipWith (fun (w:Wl) (q:Int×Int)=>low (q.1*w.2.1) q.2) ws ss).length=qss.length:=by simp [lwn,lss]
   have vly:∀(k:Nat) (w:Wl) (q y:Int×Int),ws[k]? =some w→ss[k]? =some q→(List.zipWith (fun (w:Wl) (q:Int×Int)=>low (q.1*w.2.1) q.2) ws ss)[k]? =some y→vl y=vl q*w.2.1:=fun k w q y e1 e2 e3=>by
    rw [yat k w q e1 e2] at e3
    cases e3
    have sq:=sss q (List.mem_of_getElem? e2)
    rw [vl_low (by have:=sq.pos;omega)]
    unfold vl
    push_cast
    grind
   refine q2 p12 D9 us9 (List.zipWith (fun (w:Wl) (q:Int×Int)=>low (q.1*w.2.1) q.2) ws ss) _ (((s23.trans s310).trans s11).trans s12) upd_same (s12 _ _ hD9) ⟨by rw [h9,ylen];omega,fun k u y e1 e2=> ?_⟩ ylen (fun y hy=> ?_) (fun j hj=> ?_) ?_
   ·obtain ⟨w,q,ew,eq',p,e,hp⟩:=hrel9 k u e1
    rw [yat k w q ew eq'] at e2
    cases e2
    exact ⟨p,e,SqT.of (s12 _ _ hp)⟩
   ·obtain ⟨k,hk⟩:=List.getElem?_of_mem hy
    have hkl:k < qss.length:=by rw [← ylen];exact (List.getElem?_eq_some_iff.mp hk).1
    obtain ⟨w,ew⟩:∃w,ws[k]? =some w:=⟨_,gE (by omega)⟩
    obtain ⟨q,eq'⟩:∃q,ss[k]? =some q:=⟨_,gE (by omega)⟩
    rw [yat k w q ew eq'] at hk
    cases hk
    obtain ⟨qs,d,eqs,eds,wh,wb,wbs,_⟩:=wp k w ew
    have sq:=sss q (List.mem_of_getElem? eq')
    exact sm_lowU (by have:=sq.pos;omega) (pw_mul (pw_up sq.top mn2) wbs) (pw_up sq.bot mn2)
   ·rw [dot_csum j (ws:=ws) (ss:=ss) (by omega) (by rw [ylen,lwn]) (by simp [colQ,lwn]) vly ?_,csm j (by omega),if_neg (by omega)]
    intro k w cq ew ec
    obtain ⟨qs,d,eqs,eds,wh,_⟩:=wp k w ew
    unfold colQ at ec
    rw [List.getElem?_map,eqs] at ec
    cases ec
    exact whole_col wh (by rw [(sh qs (List.mem_of_getElem? eqs)).1];exact hj)
   ·rw [dot_csum m (ws:=ws) (ss:=ss) (by omega) (by rw [ylen,lwn]) (by omega) vly ?_,csm m (by omega),if_pos rfl]
    intro k w cq ew ec
    obtain ⟨qs,d,eqs,eds,wh,_⟩:=wp k w ew
    rw [ec] at eds
    cases eds
    exact whole_last wh (sh qs (List.mem_of_getElem? eqs)).1
  ·refine ⟨_,rfl,rfl,_,rfl,?_⟩
   refine ite2 (fun _=> ?_) (fun z=>by simp at z)
   refine ⟨_,rfl,(by show 2≤sizeLine;decide),fun p5 n5=> ?_⟩
   have s5:=same_new n5 (.tup [.str "solved",.ref x])
   refine q1 p5 x us' xs _ ((s23.trans s4).trans s5) upd_same (s5 _ _ hx) (nxs.same s5) lxs (fun q hq=>(sxs q hq).up mn mn) (fun i qs d eq ed=> ?_)
   have hi:i < qss.length:=(List.getElem?_eq_some_iff.mp eq).1
   obtain ⟨w,ew⟩:∃w,ws[i]? =some w:=⟨_,gE (by omega)⟩
   obtain ⟨wh,wb,_⟩:=(wat i w ew).2.2 qs d eq ed
   have e0:=sol w.1 (List.mem_map.mpr ⟨w,List.mem_of_getElem? ew,rfl⟩)
   rw [ev_whole wh (by rw [lxs,(sh qs (List.mem_of_getElem? eq)).1])] at e0
   have wb' :=ratne (b:=w.2.1) (by omega)
   grind
inductive spExcI (C:Addr)(f:Str)(vs:List V)(H:Hp)(Q:VK)(E_:XK):Prop where
 | mk (a:Addr) (v:V) (_:vs=[.ref a,v]) (_:H a=some (excN C a none)) (_:∀(d:Addr) (H' :Hp),(∀b o,b≠a→H b=some o→H' b=some o)→H d=none→H' d=some (xdO d [(f,v)])→H' a=some (excN C a (some d))→Q .non H'):spExcI C f vs H Q E_
def raisesF (H:Hp)(E:XK)(C:Addr)(f:Str)(v:V):Prop:=∀(d:Addr) (H' :Hp),Same H H' →H d=none→H' d=some (xdO d [(f,v)])→E (.ref C) (some d) H'
theorem raisesF.go {H:Hp}{E:XK}{C:Addr}{f:Str}{v:V}(h:raisesF H E C f v):∀e,H e=none→spExcI C f [.ref e,v] (upd H e (excN C e none)) (fun v' H2=>v' =.non∧∃dx,H2 e=some (excN C e dx)∧E (.ref C) dx (dropH H2 e)) E0:=fun e ne=>by
 refine ⟨e,v,rfl,upd_same,fun d H' k nd hd he=>⟨rfl,some d,he,?_⟩⟩
 have de:d≠e:=fun z=>by rw [z,upd_same] at nd;cases nd
 rw [upd_ne de] at nd
 refine h d (dropH H' e) (fun b o z=> ?_) nd ?_
 ·have be:b≠e:=ne_of_none z ne
  rw [dropH_ne be]
  exact k b o be (by rw [upd_ne be];exact z)
 ·rw [dropH_ne de]
  exact hd
theorem look1 (f:Str)(v:V):List.lookup f [(f,v)]=some v:=by simp [List.lookup]
theorem sc_ax:FnScope ["self","pin"] ["self","pin"] (defScope s_ax):=sq
theorem ok_ax {f:Addr}{fd:FuncData}{C Y:Addr}(F:Fun K "__init__" "NoPin.__init__" s_ax f fd)(hY:YardI K Y)(m_bb:mg "YardError"=some (.ref Y))(xf:TyExc.ExcF K C "pin")(hv:PySem.W.mroIn K C (.type "ValueError")=some true):FnOk P w K mg base (CXr P w) 1 f fd ["self","pin"] (spExcI C "pin"):=by
 refine fun_okF F sc_ax (fun vs H Q E h=> ?_) (fun cdv A outer s H vs Q E hr h=> ?_)
 ·obtain ⟨a,v,rfl,_⟩:=h
  rfl
 obtain ⟨a,v,rfl,ea,q⟩:=h
 refine ⟨_,(pss_cons (ps_expr (pe_excI hY m_bb (pac (pv 0) (pac (pv 1) pa_nil))))
  (pss_one (ps_excF (pv 0) (pv 1) rfl))),?_⟩
 refine ⟨_,rfl,_,rfl,a,C,none,[v],rfl,ea,xf.k,hv,(by show 1≤sizeLine;decide),?_⟩
 refine ⟨_,rfl,_,rfl,a,C,rfl,xf,.inl ⟨ea,fun d nd ne=> ?_⟩⟩
 refine q d _ (fun b o n e=>by rw [upd_ne n,upd_ne (ne_of_none e nd)];exact e) nd ?_ upd_same
 rw [upd_ne ne,upd_same]
inductive spBinK (K:Frag)(f:Int×Int→Int×Int→Int×Int)(vs:List V)(H:Hp)(Q:VK)(E_:XK):Prop where
 | mk (u v:V) (x y:Int×Int) (_:vs=[u,v]) (_:NmK K H u x) (_:NmK K H v y) (_:Okn 100000 x) (_:Okn 100000 y) (_:gives H Q (f x y)):spBinK K f vs H Q E_
theorem sc_a8:FnScope ["one","other"] ["one","other"] (defScope s_a8):=sq
theorem ok_a8 (hM:Mute CX)(D:Def K mg "difference_of" s_a8 ["one","other"])(G_ac:Fn P w K mg base CX 33 "lowest_terms" ["top","bottom"] spLowestU):Fn P w K mg base CX 34 "difference_of" ["one","other"] (spBinK K subQ):=by
 refine D.ok sc_a8 (fun vs H Q E h=> ?_) (fun f cdv A outer s H vs Q E hr h=> ?_)
 ·obtain ⟨u,v,x,y,rfl,_⟩:=h
  rfl
 obtain ⟨u,v,x,y,rfl,⟨p1,rfl,h1⟩,⟨p2,rfl,h2⟩,k1,k2,q⟩:=h
 have px:=passM (X:=cxOf CX P w K mg base ["one","other"] "difference_of" (defScope s_a8) f cdv A outer s H E) hM
 refine ⟨_,(pss_one (ps_ret (pe_fn G_ac hr.mo px (pac (pe_op op_sub (pe_op op_mulB (pe_tx (pv 0)) (pe_tx (pv 1))) (pe_op op_mulB (pe_tx (pv 1)) (pe_tx (pv 0)))) (pac (pe_op op_mulB (pe_tx (pv 0)) (pe_tx (pv 1))) pa_nil))))),?_⟩
 have b1:=k1.top
 have b2:=k1.bot
 have b3:=k2.top
 have b4:=k2.bot
 have c:∀{i j:Int},intBits i≤100000→intBits j≤100000→CMulB i j:=fun a b=>⟨Nat.le_trans a (by decide),Nat.le_trans b (by decide)⟩
 refine ⟨_,rfl,p1,_,_,_,rfl,rfl,h1,at0,_,rfl,p2,_,_,_,rfl,rfl,h2,at1,_,_,rfl,rfl,c b1 b4,?_⟩
 refine ⟨_,rfl,p2,_,_,_,rfl,rfl,h2,at0,_,rfl,p1,_,_,_,rfl,rfl,h1,at1,_,_,rfl,rfl,c b3 b2,?_⟩
 refine ⟨_,_,rfl,rfl,?_⟩
 refine ⟨_,rfl,p1,_,_,_,rfl,rfl,h1,at1,_,rfl,p2,_,_,_,rfl,rfl,h2,at1,_,_,rfl,rfl,c b2 b4,?_⟩
 exact ⟨_,_,rfl,pos_mul k1 k2,q⟩
inductive spBinR (K:Frag)(f:Rat→Rat→Rat)(vs:List V)(H:Hp)(Q:VK)(E_:XK):Prop where
 | mk (u v:V) (x y:Rat) (_:vs=[u,v]) (_:NmR K H u x) (_:NmR K H v y) (_:Sz 100000 x) (_:Sz 100000 y) (_:gives H Q (qr (f x y))):spBinR K f vs H Q E_
theorem okn_qr {k:Nat}{r:Rat}(h:Sz k r):Okn k (qr r):=⟨qr_pos r,h.top,h.bot⟩
theorem fn_sub {k:Nat}{x:Str}{ps:List Str}(F:Fn P w K mg base CX k x ps (spBinK K subQ)):Fn P w K mg base CX k x ps (spBinR K fun a b=>a - b):=by
 obtain ⟨f,fd,G,r⟩:=F.ex
 refine ⟨f,fd,G.imp fun vs H Q E h=> ?_,r⟩
 obtain ⟨u,v,a,b,e,h1,h2,k1,k2,q⟩:=h
 refine ⟨u,v,qr a,qr b,e,h1,h2,okn_qr k1,okn_qr k2,?_⟩
 unfold subQ
 rw [qr_sub]
 exact q
def givesP (K:Frag)(H:Hp)(Q:VK)(p:Rat×Rat):Prop:=∀(v:V) (H' :Hp),Same H H' →PtR K H' v p→Q v H'
inductive spPair (K:Frag)(f:Rat→Rat→Rat)(vs:List V)(H:Hp)(Q:VK)(E_:XK):Prop where
 | mk (u v:V) (x y:Rat×Rat) (_:vs=[u,v]) (_:PtR K H u x) (_:PtR K H v y) (_:Sz 100000 x.1) (_:Sz 100000 x.2) (_:Sz 100000 y.1) (_:Sz 100000 y.2) (_:givesP K H Q (f x.1 y.1,f x.2 y.2)):spPair K f vs H Q E_
theorem sc_a4:FnScope ["one","other"] ["one","other"] (defScope s_a4):=sq
theorem ok_a4 (hM:Mute CX)(D:Def K mg "pair_difference" s_a4 ["one","other"])(G_a8:Fn P w K mg base CX 34 "difference_of" ["one","other"] (spBinR K fun a b=>a - b)):Fn P w K mg base CX 35 "pair_difference" ["one","other"] (spPair K fun a b=>a - b):=by
 refine D.ok sc_a4 (fun vs H Q E h=> ?_) (fun f cdv A outer s H vs Q E hr h=> ?_)
 ·obtain ⟨u,v,x,y,rfl,_⟩:=h
  rfl
 obtain ⟨u,v,x,y,rfl,⟨p1,a1,a2,rfl,h1,n1,n2⟩,⟨p2,b1,b2,rfl,h2,m1,m2⟩,k1,k2,l1,l2,q⟩:=h
 have px:=passM (X:=(cxOf (CXr P w) P w K mg base ["one","other"] "pair_difference" (defScope s_a4) f cdv A outer s H E)) hM
 refine ⟨_,(pss_one (ps_ret (pe_tup (pac (pe_fn G_a8 hr.mo px (pac (pe_tx (pv 0)) (pac (pe_tx (pv 1)) pa_nil))) (pac (pe_fn G_a8 hr.mo px (pac (pe_tx (pv 0)) (pac (pe_tx (pv 1)) pa_nil))) pa_nil))))),?_⟩
 refine ⟨_,rfl,p1,_,_,_,rfl,rfl,h1,at0,_,rfl,p2,_,_,_,rfl,rfl,h2,at0,a1,b1,_,_,rfl,n1,m1,k1,l1,fun c1 H1 s1 e1=> ?_⟩
 refine ⟨_,rfl,p1,_,_,_,rfl,rfl,Ty.Same.seqT s1 h1,at1,_,rfl,p2,_,_,_,rfl,rfl,Ty.Same.seqT s1 h2,at1,a2,b2,_,_,rfl,n2.same s1,m2.same s1,k2,l2,fun c2 H2 s2 e2=> ?_⟩
 refine ⟨(by show 2≤sizeLine;decide),fun c3 n3=> ?_⟩
 have s3:=same_new n3 (.tup [.ref c1,.ref c2])
 exact q (.ref c3) _ (fun b o z=>s3 _ _ (s2 _ _ (s1 _ _ z))) ⟨c3,_,_,rfl,SqT.of upd_same,⟨c1,rfl,SqT.of (s3 _ _ (s2 _ _ e1))⟩,⟨c2,rfl,SqT.of (s3 _ _ e2)⟩⟩
inductive spFInit (K:Frag)(C:Addr)(vs:List V)(H:Hp)(Q:VK)(E_:XK):Prop where
 | mk (a dx:Addr) (_:vs=[.ref a]) (_:H a=some (.ins C dx [])) (_:∀(pP pW pB:Addr) (H' :Hp),KSame a H H' →H pP=none→H pW=none→H pB=none→FrR K H' C a dx pP pW pB [] [] [] [] []→Q .non H'):spFInit K C vs H Q E_
theorem putF_p1 {x:V}:putF "pin_places" x []=([("pin_places",x)]:List (Str×V)):=rfl
theorem putF_w1 {x y:V}:putF "pin_ways" y [("pin_places",x)]=([("pin_places",x),("pin_ways",y)]:List (Str×V)):=by
 simp only [putF]
 rw [if_neg (by decide)]
theorem putF_e1 {x y z:V}:putF "bar_ends" z [("pin_places",x),("pin_ways",y)]=([("pin_places",x),("pin_ways",y),("bar_ends",z)]:List (Str×V)):=by
 simp only [putF]
 rw [if_neg (by decide),if_neg (by decide)]
theorem sc_ar:FnScope ["self"] ["self"] (defScope s_ar):=sq
theorem ok_ar {f:Addr}{fd:FuncData}{C:Addr}(F:Fun K "__init__" "Frame.__init__" s_ar f fd)(fc:FrC K C):FnOk P w K mg base (CXr P w) 1 f fd ["self"] (spFInit K C):=by
 refine fun_okF F sc_ar (fun vs H Q E h=> ?_) (fun cdv A outer s H vs Q E hr h=> ?_)
 ·obtain ⟨a,dx,rfl,_⟩:=h
  rfl
 obtain ⟨a,dx,rfl,ha,q⟩:=h
 refine ⟨_,(pss_cons (ps_fld (pv 0) pe_dnewK rfl)
  (pss_cons (ps_fld (pv 0) pe_dnewK rfl)
  (pss_one (ps_fld (pv 0) pe_dnewK rfl)))),?_⟩
 intro pP nP
 have aP:a≠pP:=ne_of_none ha nP
 refine ⟨_,rfl,a,C,dx,_,rfl,(by rw [upd_ne aP];exact ha),fc.cls,fc.pl,(by show 0 < 1000;decide),?_⟩
 rw [putF_p1]
 generalize e1:upd (upd H pP (.dK [])) a (.ins C dx [("pin_places",.ref pP)])=H1
 have o1:H1 a=some (.ins C dx [("pin_places",.ref pP)]):=by rw [← e1,upd_same]
 have p1:H1 pP=some (.dK []):=by rw [← e1,upd_ne (Ne.symm aP),upd_same]
 have k1:∀b o,b≠a→H b=some o→H1 b=some o:=fun b o n e=>by rw [← e1,upd_ne n,upd_ne (ne_of_none e nP)];exact e
 intro pW nW
 have aW:a≠pW:=ne_of_none o1 nW
 refine ⟨_,rfl,a,C,dx,_,rfl,(by rw [upd_ne aW];exact o1),fc.cls,fc.wy,(by show 1 < 1000;decide),?_⟩
 rw [putF_w1]
 generalize e2:upd (upd H1 pW (.dK [])) a (.ins C dx [("pin_places",.ref pP),("pin_ways",.ref pW)])=H2
 have PW:pP≠pW:=ne_of_none p1 nW
 have o2:H2 a=some (.ins C dx [("pin_places",.ref pP),("pin_ways",.ref pW)]):=by rw [← e2,upd_same]
 have w2:H2 pW=some (.dK []):=by rw [← e2,upd_ne (Ne.symm aW),upd_same]
 have k2:∀b o,b≠a→H1 b=some o→H2 b=some o:=fun b o n e=>by rw [← e2,upd_ne n,upd_ne (ne_of_none e nW)];exact e
 intro pB nB
 have aB:a≠pB:=ne_of_none o2 nB
 have p2:=k2 _ _ (Ne.symm aP) p1
 refine ⟨_,rfl,a,C,dx,_,rfl,(by rw [upd_ne aB];exact o2),fc.cls,fc.br,(by show 2 < 1000;decide),?_⟩
 rw [putF_e1]
 have PB:pP≠pB:=ne_of_none p2 nB
 have WB:pW≠pB:=ne_of_none w2 nB
 have k3:∀b o,b≠a→H2 b=some o→(upd (upd H2 pB (.dK [])) a (.ins C dx [("pin_places",.ref pP),("pin_ways",.ref pW),("bar_ends",.ref pB)])) b=some o:=fun b o n e=>by rw [upd_ne n,upd_ne (ne_of_none e nB)];exact e
 have f1:∀b,b≠a→H1 b=none→H b=none:=fun b n e=>by
  cases z:H b with
  | none=>rfl
  | some o=>rw [k1 b o n z] at e;cases e
 have f2:∀b,b≠a→H2 b=none→H b=none:=fun b n e=>by
  cases z:H b with
  | none=>rfl
  | some o=>rw [k2 b o n (k1 b o n z)] at e;cases e
 refine q pP pW pB _ (fun b o n e=>k3 b o n (k2 b o n (k1 b o n e))) nP (f1 _ (Ne.symm aW) nW) (f2 _ (Ne.symm aB) nB) ⟨upd_same,k3 _ _ (Ne.symm aP) p2,k3 _ _ (Ne.symm aW) w2,?_,PW,PB,WB,.nil,.nil⟩
 rw [upd_ne (Ne.symm aB),upd_same]
inductive spBars (K:Frag)(C:Addr)(vs:List V)(H:Hp)(Q:VK)(E_:XK):Prop where
 | mk (a dx pP pW pB:Addr) (ps:List (Str×Pt)) (bs:List (Str×Str×Str)) (kP kW kB:List (Key×V)) (_:vs=[.ref a]) (_:FrR K H C a dx pP pW pB ps bs kP kW kB) (_:∀(l:Addr) (H' :Hp),Same H H' →H l=none→H' l=some (.lst ((bs.map (·.1)).map V.str))→Q (.ref l) H'):spBars K C vs H Q E_
theorem sc_at:FnScope ["self"] ["self"] (defScope s_at):=sq
theorem ok_at {f:Addr}{fd:FuncData}{C:Addr}(F:Fun K "bars" "Frame.bars" s_at f fd)(fc:FrC K C)(m_list:mg "list"=none):FnOk P w K mg base (CXr P w) 1 f fd ["self"] (spBars K C):=by
 refine fun_okF F sc_at (fun vs H Q E h=> ?_) (fun cdv A outer s H vs Q E hr h=> ?_)
 ·obtain ⟨a,dx,pP,pW,pB,ps,bs,kP,kW,kB,rfl,_⟩:=h
  rfl
 obtain ⟨a,dx,pP,pW,pB,ps,bs,kP,kW,kB,rfl,R,q⟩:=h
 refine ⟨_,(pss_one (ps_ret (pe_callTy (call_listD rfl) rfl m_list b_list (pac (pe_fld (pv 0) rfl) pa_nil)))),?_⟩
 refine ⟨_,rfl,a,C,dx,_,_,rfl,R.obj,fc.cls,fc.br,rfl,pB,kB,rfl,.inl R.br,fun l nl=> ?_⟩
 refine q l _ (same_new nl _) nl ?_
 rw [upd_same]
 have e:kB.map (fun kv=>kV kv.1)=(bs.map (·.1)).map V.str:=by
  have z:kB.map (fun kv=>kV kv.1)=(kB.map (·.1)).map kV:=by rw [List.map_map];rfl
  rw [z,R.keysB,List.map_map]
  rfl
 rw [e]
inductive spPins (K:Frag)(C:Addr)(vs:List V)(H:Hp)(Q:VK)(E_:XK):Prop where
 | mk (a dx pP pW pB:Addr) (ps:List (Str×Pt)) (bs:List (Str×Str×Str)) (kP kW kB:List (Key×V)) (_:vs=[.ref a]) (_:FrR K H C a dx pP pW pB ps bs kP kW kB) (_:∀(l:Addr) (H' :Hp),Same H H' →H l=none→H' l=some (.lst ((ps.map (·.1)).map V.str))→Q (.ref l) H'):spPins K C vs H Q E_
theorem sc_as:FnScope ["self"] ["self"] (defScope s_as):=sq
theorem ok_as {f:Addr}{fd:FuncData}{C:Addr}(F:Fun K "pins" "Frame.pins" s_as f fd)(fc:FrC K C)(m_list:mg "list"=none):FnOk P w K mg base (CXr P w) 1 f fd ["self"] (spPins K C):=by
 refine fun_okF F sc_as (fun vs H Q E h=> ?_) (fun cdv A outer s H vs Q E hr h=> ?_)
 ·obtain ⟨a,dx,pP,pW,pB,ps,bs,kP,kW,kB,rfl,_⟩:=h
  rfl
 obtain ⟨a,dx,pP,pW,pB,ps,bs,kP,kW,kB,rfl,R,q⟩:=h
 refine ⟨_,(pss_one (ps_ret (pe_callTy (call_listD rfl) rfl m_list b_list (pac (pe_fld (pv 0) rfl) pa_nil)))),?_⟩
 refine ⟨_,rfl,a,C,dx,_,_,rfl,R.obj,fc.cls,fc.pl,rfl,pP,kP,rfl,.inl R.pl,fun l nl=> ?_⟩
 refine q l _ (same_new nl _) nl ?_
 rw [upd_same]
 have e:kP.map (fun kv=>kV kv.1)=(ps.map (·.1)).map V.str:=by
  have z:kP.map (fun kv=>kV kv.1)=(kP.map (·.1)).map kV:=by rw [List.map_map];rfl
  rw [z,R.keysP,List.map_map]
  rfl
 rw [e]
inductive spCheckPin (K:Frag)(C:Addr)(vs:List V)(H:Hp)(Q:VK)(E_:XK):Prop where
 | mk (a dx pP pW pB:Addr) (ps:List (Str×Pt)) (bs:List (Str×Str×Str)) (kP kW kB:List (Key×V)) (x:Str) (_:vs=[.ref a,.str x]) (_:FrR K H C a dx pP pW pB ps bs kP kW kB) (_:x∈ps.map (·.1)) (_:Q .non H):spCheckPin K C vs H Q E_
theorem sc_a5:FnScope ["self","pin"] ["self","pin"] (defScope s_a5):=sq
theorem ok_a5 {f:Addr}{fd:FuncData}{C:Addr}(F:Fun K "check_pin" "Frame.check_pin" s_a5 f fd)(fc:FrC K C):FnOk P w K mg base (CXr P w) 1 f fd ["self","pin"] (spCheckPin K C):=by
 refine fun_okF F sc_a5 (fun vs H Q E h=> ?_) (fun cdv A outer s H vs Q E hr h=> ?_)
 ·obtain ⟨a,dx,pP,pW,pB,ps,bs,kP,kW,kB,x,rfl,_⟩:=h
  rfl
 obtain ⟨a,dx,pP,pW,pB,ps,bs,kP,kW,kB,x,rfl,R,hx,q⟩:=h
 refine ⟨_,(pss_one (ps_if (pt_cmp (pc_dnotin (hu_of hr) (pv 1) (pe_fld (pv 0) rfl))) (pss_one (ps_never)) pss_nil)),?_⟩
 refine ⟨_,rfl,_,rfl,a,C,dx,_,_,rfl,R.obj,fc.cls,fc.pl,rfl,pP,_,rfl,DGet.k (k:=.inr x) R.pl,_,rfl,?_⟩
 rw [R.pin x,decide_eq_true hx]
 exact q
inductive spPlace (K:Frag)(C:Addr)(vs:List V)(H:Hp)(Q:VK)(E_:XK):Prop where
 | mk (a dx pP pW pB:Addr) (ps:List (Str×Pt)) (bs:List (Str×Str×Str)) (kP kW kB:List (Key×V)) (x:Str) (p:Pt) (_:vs=[.ref a,.str x]) (_:FrR K H C a dx pP pW pB ps bs kP kW kB) (_:(ps.map (·.1)).Nodup) (_:(x,p)∈ps) (_:∀v,Spot K H v p→Q v H):spPlace K C vs H Q E_
theorem sc_ah:FnScope ["self","pin"] ["self","pin"] (defScope s_ah):=sq
theorem ok_ah {f:Addr}{fd:FuncData}{C:Addr}(F:Fun K "place" "Frame.place" s_ah f fd)(fc:FrC K C)(MC:MtdOk P w K mg base (CXr P w) 1 C "check_pin" ["self","pin"] (spCheckPin K C)):FnOk P w K mg base (CXr P w) 2 f fd ["self","pin"] (spPlace K C):=by
 refine fun_okF F sc_ah (fun vs H Q E h=> ?_) (fun cdv A outer s H vs Q E hr h=> ?_)
 ·obtain ⟨a,dx,pP,pW,pB,ps,bs,kP,kW,kB,x,p,rfl,_⟩:=h
  rfl
 obtain ⟨a,dx,pP,pW,pB,ps,bs,kP,kW,kB,x,p,rfl,R,nd,hx,q⟩:=h
 refine ⟨_,(pss_cons (ps_expr (pe_mtd (k:=1) (pv 0) hr.mo (pY P w) (pac (pv 1) pa_nil)))
  (pss_one (ps_ret (pe_dget (hu_of hr) (pe_fld (pv 0) rfl) (pv 1) (fun _ _=>rfl))))),?_⟩
 refine ⟨_,rfl,a,C,dx,_,_,_,rfl,R.obj,rfl,MC,_,rfl,a,dx,pP,pW,pB,ps,bs,kP,kW,kB,x,rfl,R,List.mem_map.mpr ⟨_,hx,rfl⟩,?_⟩
 obtain ⟨v,ev,hv⟩:=R.place nd hx
 exact ⟨_,rfl,a,C,dx,_,_,rfl,R.obj,fc.cls,fc.pl,rfl,_,rfl,pP,v,rfl,(by rw [← ev];exact DGet.k (k:=.inr x) R.pl),q v hv⟩
inductive spEnds (K:Frag)(C:Addr)(vs:List V)(H:Hp)(Q:VK)(E_:XK):Prop where
 | mk (a dx pP pW pB:Addr) (ps:List (Str×Pt)) (bs:List (Str×Str×Str)) (kP kW kB:List (Key×V)) (x one other:Str) (_:vs=[.ref a,.str x]) (_:FrR K H C a dx pP pW pB ps bs kP kW kB) (_:(bs.map (·.1)).Nodup) (_:(x,one,other)∈bs) (_:∀p,Rd H p (.tup [.str one,.str other])→Q (.ref p) H):spEnds K C vs H Q E_
theorem sc_av:FnScope ["self","bar"] ["self","bar"] (defScope s_av):=sq
theorem ok_av {f:Addr}{fd:FuncData}{C:Addr}(F:Fun K "ends" "Frame.ends" s_av f fd)(fc:FrC K C):FnOk P w K mg base (CXr P w) 1 f fd ["self","bar"] (spEnds K C):=by
 refine fun_okF F sc_av (fun vs H Q E h=> ?_) (fun cdv A outer s H vs Q E hr h=> ?_)
 ·obtain ⟨a,dx,pP,pW,pB,ps,bs,kP,kW,kB,x,one,other,rfl,_⟩:=h
  rfl
 obtain ⟨a,dx,pP,pW,pB,ps,bs,kP,kW,kB,x,one,other,rfl,R,nd,hx,q⟩:=h
 refine ⟨_,(pss_cons (ps_if (pt_cmp (pc_dnotin (hu_of hr) (pv 1) (pe_fld (pv 0) rfl))) (pss_one (ps_never)) pss_nil)
  (pss_one (ps_ret (pe_dget (hu_of hr) (pe_fld (pv 0) rfl) (pv 1) (fun _ _=>rfl))))),?_⟩
 have hm:x∈bs.map (·.1):=List.mem_map.mpr ⟨_,hx,rfl⟩
 refine ⟨_,rfl,_,rfl,a,C,dx,_,_,rfl,R.obj,fc.cls,fc.br,rfl,pB,_,rfl,DGet.k (k:=.inr x) R.br,_,rfl,?_⟩
 rw [R.bar x,decide_eq_true hm]
 obtain ⟨p,ev,hv⟩:=R.ends nd hx
 exact ⟨_,rfl,a,C,dx,_,_,rfl,R.obj,fc.cls,fc.br,rfl,_,rfl,pB,.ref p,rfl,(by rw [← ev];exact DGet.k (k:=.inr x) R.br),q p hv⟩
inductive spWays (K:Frag)(C:Addr)(vs:List V)(H:Hp)(Q:VK)(E_:XK):Prop where
 | mk (a dx pP pW pB:Addr) (ps:List (Str×Pt)) (bs:List (Str×Str×Str)) (kP kW kB:List (Key×V)) (pw:List (Str×List (Rat×Rat))) (x:Str) (ws:List (Rat×Rat)) (_:vs=[.ref a,.str x]) (_:FrR K H C a dx pP pW pB ps bs kP kW kB) (_:WyR K H pw kW) (_:(pw.map (·.1)).Nodup) (_:(x,ws)∈pw) (_:x∈ps.map (·.1)) (_:∀(l:Addr) (us:List V) (H' :Hp),Same H H' →H l=none→H' l=some (.lst us)→PtsR K H' us ws→Q (.ref l) H'):spWays K C vs H Q E_
theorem sc_au:FnScope ["self","pin"] ["self","pin"] (defScope s_au):=sq
theorem ok_au {f:Addr}{fd:FuncData}{C:Addr}(F:Fun K "ways" "Frame.ways" s_au f fd)(fc:FrC K C)(m_list:mg "list"=none)(MC:MtdOk P w K mg base (CXr P w) 1 C "check_pin" ["self","pin"] (spCheckPin K C)):FnOk P w K mg base (CXr P w) 2 f fd ["self","pin"] (spWays K C):=by
 refine fun_okF F sc_au (fun vs H Q E h=> ?_) (fun cdv A outer s H vs Q E hr h=> ?_)
 ·obtain ⟨a,dx,pP,pW,pB,ps,bs,kP,kW,kB,pw,x,ws,rfl,_⟩:=h
  rfl
 obtain ⟨a,dx,pP,pW,pB,ps,bs,kP,kW,kB,pw,x,ws,rfl,R,W,nd,hx,hp,q⟩:=h
 refine ⟨_,(pss_cons (ps_expr (pe_mtd (k:=1) (pv 0) hr.mo (pY P w) (pac (pv 1) pa_nil)))
  (pss_one (ps_ret (pe_callTy call_listL rfl m_list b_list (pac (pe_dget (hu_of hr) (pe_fld (pv 0) rfl) (pv 1) (fun _ _=>rfl)) pa_nil))))),?_⟩
 refine ⟨_,rfl,a,C,dx,_,_,_,rfl,R.obj,rfl,MC,_,rfl,a,dx,pP,pW,pB,ps,bs,kP,kW,kB,x,rfl,R,hp,?_⟩
 obtain ⟨v,ev,l,us,el,hl,pt⟩:=paired_val W nd hx
 have el' :v=.ref l:=el
 subst el'
 refine ⟨_,rfl,a,C,dx,_,_,rfl,R.obj,fc.cls,fc.wy,rfl,_,rfl,pW,.ref l,rfl,(by rw [← ev];exact DGet.k (k:=.inr x) R.wy),?_⟩
 exact ⟨l,us,rfl,SqL.of hl,fun l2 n2=>q l2 us _ (same_new n2 _) n2 upd_same (pt.same (same_new n2 _))⟩
def AnsR (K:Frag)(H:Hp)(Q:VK)(ws:List (Rat×Rat)):Prop:=∀(l:Addr) (us:List V) (H' :Hp),Same H H' →H l=none→H' l=some (.lst us)→PtsR K H' us ws→Q (.ref l) H'
theorem qr_zero {x:Rat}(h:(qr x).1=0):x=0:=by
 have:=vl_qr x
 unfold vl at this
 rw [h] at this
 have z:=ratz (r:=x)
 have e:((0:Int):Rat)=0:=by rfl
 rw [e] at this
 grind
inductive spRInit (K:Frag)(C:Addr)(vs:List V)(H:Hp)(Q:VK)(E_:XK):Prop where
 | mk (a dx:Addr) (ux uy:V) (x y:Rat) (_:vs=[.ref a,ux,uy]) (_:H a=some (.ins C dx [])) (_:NmR K H ux x) (_:NmR K H uy y) (_:¬ (x=0∧y=0)) (_:∀p,H p=none→Q .non (upd (upd H p (.tup [ux,uy])) a (.ins C dx [("way",.ref p)]))):spRInit K C vs H Q E_
theorem sc_ai:FnScope ["self","x","y"] ["self","x","y"] (defScope s_ai):=sq
theorem ok_ai {f:Addr}{fd:FuncData}{C:Addr}(F:Fun K "__init__" "Roller.__init__" s_ai f fd)(cl:Cls K C)(nw:NoAttr K C "way"):FnOk P w K mg base (CXr P w) 1 f fd ["self","x","y"] (spRInit K C):=by
 refine fun_okF F sc_ai (fun vs H Q E h=> ?_) (fun cdv A outer s H vs Q E hr h=> ?_)
 ·obtain ⟨a,dx,ux,uy,x,y,rfl,_⟩:=h
  rfl
 obtain ⟨a,dx,ux,uy,x,y,rfl,ha,⟨p1,rfl,h1⟩,⟨p2,rfl,h2⟩,nz,q⟩:=h
 have sz:(2:Nat)≤sizeLine:=by decide
 refine ⟨_,(pss_cons (ps_if (PW.pt (pw_and (pt_cmpR op_eq (pe_tx (pv 1)) pe_int (nomark _)) (pw_and1 (pt_cmpR op_eq (pe_tx (pv 2)) pe_int (nomark _))))) (pss_one (ps_never)) pss_nil)
  (pss_one (ps_fld (pv 0) (pe_tup (pac (pv 1) (pac (pv 2) pa_nil))) rfl))),?_⟩
 refine ⟨_,rfl,p1,_,_,_,rfl,rfl,h1,at0,rfl,_,rfl,?_⟩
 refine ite2 (fun c1=> ?_) (fun c1=> ?_)
 ·have e1:(qr x).1=0:=by simpa using of_decide_eq_true c1
  refine ⟨_,rfl,p2,_,_,_,rfl,rfl,h2,at0,rfl,_,rfl,?_⟩
  refine ite2 (fun c2=> ?_) (fun c2=> ?_)
  ·have e2:(qr y).1=0:=by simpa using of_decide_eq_true c2
   exact absurd ⟨qr_zero e1,qr_zero e2⟩ nz
  ·exact ⟨_,rfl,_,rfl,sz,fun p hp=>⟨_,rfl,a,C,dx,[],rfl,(by rw [upd_ne (ne_of_none ha hp)];exact ha),cl,nw,(by show 0 < 1000;decide),q p hp⟩⟩
 ·refine iteF ?_
  exact ⟨_,rfl,_,rfl,sz,fun p hp=>⟨_,rfl,a,C,dx,[],rfl,(by rw [upd_ne (ne_of_none ha hp)];exact ha),cl,nw,(by show 0 < 1000;decide),q p hp⟩⟩
inductive spRWays (K:Frag)(C:Addr)(vs:List V)(H:Hp)(Q:VK)(E_:XK):Prop where
 | mk (a dx p:Addr) (w:Rat×Rat) (_:vs=[.ref a]) (_:H a=some (.ins C dx [("way",.ref p)])) (_:PtR K H (.ref p) w) (_:AnsR K H Q [w]):spRWays K C vs H Q E_
theorem sc_aj:FnScope ["self"] ["self"] (defScope s_aj):=sq
theorem ok_aj {f:Addr}{fd:FuncData}{C:Addr}(F:Fun K "ways" "Roller.ways" s_aj f fd)(cl:Cls K C)(nw:NoAttr K C "way"):FnOk P w K mg base (CXr P w) 1 f fd ["self"] (spRWays K C):=by
 refine fun_okF F sc_aj (fun vs H Q E h=> ?_) (fun cdv A outer s H vs Q E hr h=> ?_)
 ·obtain ⟨a,dx,p,w,rfl,_⟩:=h
  rfl
 obtain ⟨a,dx,p,w,rfl,ha,hw,q⟩:=h
 refine ⟨_,(pss_one (ps_ret (pe_lst (pac (pe_fld (pv 0) rfl) pa_nil)))),?_⟩
 refine ⟨_,rfl,a,C,dx,_,.ref p,rfl,ha,cl,nw,(by simp),(by show 1≤sizeLine;decide),fun l hl=> ?_⟩
 exact q l [.ref p] _ (same_new hl _) hl upd_same (.cons (hw.same (same_new hl _)) .nil)
inductive spFixed (K:Frag)(vs:List V)(H:Hp)(Q:VK)(E_:XK):Prop where
 | mk (a:Addr) (_:vs=[.ref a]) (_:AnsR K H Q [(1,0),(0,1)]):spFixed K vs H Q E_
theorem qr_one:qr 1=(1,1):=by
 have:=qr_int 1
 simpa using this
theorem qr_nought:qr 0=(0,1):=by
 have:=qr_int 0
 simpa using this
theorem pt_mk {H:Hp}{p p1 p2:Addr}{a b:Rat}{x y:Int×Int}(ea:qr a=x)(eb:qr b=y)(h:H p=some (.tup [.ref p1,.ref p2]))(h1:H p1=some (.tup [.int x.1,.int x.2]))(h2:H p2=some (.tup [.int y.1,.int y.2])):PtR K H (.ref p) (a,b):=
 ⟨p,.ref p1,.ref p2,rfl,SqT.of h,⟨p1,rfl,by rw [ea];exact SqT.of h1⟩,⟨p2,rfl,by rw [eb];exact SqT.of h2⟩⟩
theorem sc_aw:FnScope ["self"] ["self"] (defScope s_aw):=sq
theorem ok_aw {f:Addr}{fd:FuncData}(F:Fun K "ways" "Fixed.ways" s_aw f fd):FnOk P w K mg base (CXr P w) 1 f fd ["self"] (spFixed K):=by
 refine fun_okF F sc_aw (fun vs H Q E h=> ?_) (fun cdv A outer s H vs Q E hr h=> ?_)
 ·obtain ⟨a,rfl,_⟩:=h
  rfl
 obtain ⟨a,rfl,q⟩:=h
 have sz:(2:Nat)≤sizeLine:=by decide
 refine ⟨_,(pss_one (ps_ret (pe_lst (pac (pe_tup (pac (pe_tup (pac pe_int (pac pe_int pa_nil))) (pac (pe_tup (pac pe_int (pac pe_int pa_nil))) pa_nil))) (pac (pe_tup (pac (pe_tup (pac pe_int (pac pe_int pa_nil))) (pac (pe_tup (pac pe_int (pac pe_int pa_nil))) pa_nil))) pa_nil))))),?_⟩
 refine ⟨sz,fun p1 n1=> ?_⟩
 have s1:=same_new n1 (.tup [.int 1,.int 1])
 have e1:upd H p1 (.tup [.int 1,.int 1]) p1=some (.tup [.int 1,.int 1]):=upd_same
 generalize upd H p1 (.tup [.int 1,.int 1])=H1 at s1 e1 ⊢
 refine ⟨sz,fun p2 n2=> ?_⟩
 have s2:=same_new n2 (.tup [.int 0,.int 1])
 have e2:upd H1 p2 (.tup [.int 0,.int 1]) p2=some (.tup [.int 0,.int 1]):=upd_same
 generalize upd H1 p2 (.tup [.int 0,.int 1])=H2 at s2 e2 ⊢
 refine ⟨sz,fun p3 n3=> ?_⟩
 have s3:=same_new n3 (.tup [.ref p1,.ref p2])
 have e3:upd H2 p3 (.tup [.ref p1,.ref p2]) p3=some (.tup [.ref p1,.ref p2]):=upd_same
 generalize upd H2 p3 (.tup [.ref p1,.ref p2])=H3 at s3 e3 ⊢
 refine ⟨sz,fun p4 n4=> ?_⟩
 have s4:=same_new n4 (.tup [.int 0,.int 1])
 have e4:upd H3 p4 (.tup [.int 0,.int 1]) p4=some (.tup [.int 0,.int 1]):=upd_same
 generalize upd H3 p4 (.tup [.int 0,.int 1])=H4 at s4 e4 ⊢
 refine ⟨sz,fun p5 n5=> ?_⟩
 have s5:=same_new n5 (.tup [.int 1,.int 1])
 have e5:upd H4 p5 (.tup [.int 1,.int 1]) p5=some (.tup [.int 1,.int 1]):=upd_same
 generalize upd H4 p5 (.tup [.int 1,.int 1])=H5 at s5 e5 ⊢
 refine ⟨sz,fun p6 n6=> ?_⟩
 have s6:=same_new n6 (.tup [.ref p4,.ref p5])
 have e6:upd H5 p6 (.tup [.ref p4,.ref p5]) p6=some (.tup [.ref p4,.ref p5]):=upd_same
 generalize upd H5 p6 (.tup [.ref p4,.ref p5])=H6 at s6 e6 ⊢
 refine ⟨sz,fun l nl=> ?_⟩
 have s7:=same_new nl (.lst [.ref p3,.ref p6])
 have e7:upd H6 l (.lst [.ref p3,.ref p6]) l=some (.lst [.ref p3,.ref p6]):=upd_same
 generalize upd H6 l (.lst [.ref p3,.ref p6])=H7 at s7 e7 ⊢
 have s16:=s1.trans (s2.trans (s3.trans (s4.trans (s5.trans s6))))
 have w1:PtR K H7 (.ref p3) (1,0):=pt_mk qr_one qr_nought (s7 _ _ (s6 _ _ (s5 _ _ (s4 _ _ e3)))) (s7 _ _ (s6 _ _ (s5 _ _ (s4 _ _ (s3 _ _ (s2 _ _ e1)))))) (s7 _ _ (s6 _ _ (s5 _ _ (s4 _ _ (s3 _ _ e2)))))
 have w2:PtR K H7 (.ref p6) (0,1):=pt_mk qr_nought qr_one (s7 _ _ e6) (s7 _ _ (s6 _ _ (s5 _ _ e4))) (s7 _ _ (s6 _ _ e5))
 exact q l [.ref p3,.ref p6] H7 (s16.trans s7) (s16.free nl) e7 (.cons w1 (.cons w2 .nil))
def HoldY (P:Program)(w:World)(K:Frag)(mg:Str→Option Value)(base:Heap)(H:Hp)(hv:V)(ws:List (Rat×Rat)):Prop:=(hv=.non∧ws=[])∨∃(h Ch dxh:Addr) (fsh:List (Str×V)) (psh:List Str) (sph:Sp),hv=.ref h∧H h=some (.ins Ch dxh fsh)∧fsh.lookup ("ways":Str)=none∧MtdOk P w K mg base (CXr P w) 2 Ch "ways" psh sph∧(∀H1,H1 h=some (.ins Ch dxh fsh)→SameT H H1→∀Q',AnsR K H1 Q' ws→sph [.ref h] H1 Q' E0)
inductive spPutPinW (P:Program)(w:World)(K:Frag)(mg:Str→Option Value)(base:Heap)(C:Addr)(vs:List V)(H:Hp)(Q:VK)(E_:XK):Prop where
 | mk (a dx pP pW pB:Addr) (ps:List (Str×Pt)) (bs:List (Str×Str×Str)) (kP kW kB:List (Key×V)) (pw:List (Str×List (Rat×Rat))) (x:Str) (u v hv:V) (p:Pt) (ws:List (Rat×Rat)) (_:vs=[.ref a,.str x,u,v,hv]) (_:FrR K H C a dx pP pW pB ps bs kP kW kB) (_:WyR K H pw kW) (_:pw.map (·.1)=ps.map (·.1)) (_:NmK K H u p.1) (_:NmK K H v p.2) (_:x∉ps.map (·.1)) (_:(∀z∈ps,z.2≠p)) (_:ps.length < 24) (_:HoldY P w K mg base H hv ws) (_:∀(H' :Hp) (kP' kW' :List (Key×V)),(∀b o,b≠pP→b≠pW→H b=some o→H' b=some o)→FrR K H' C a dx pP pW pB (ps++[(x,p)]) bs kP' kW' kB→WyR K H' (pw++[(x,ws)]) kW' →Q .non H'):spPutPinW P w K mg base C vs H Q E_
theorem sc_a9:FnScope ["self","name","x","y","hold","pin","spot"] ["self","name","x","y","hold"] (defScope s_a9):=sq
theorem ok_a9 {f:Addr}{fd:FuncData}{C:Addr}(F:FunD K "put_pin" "Frame.put_pin" s_a9 f fd)(fc:FrC K C){tkP:Tok}(m_ba:mg "MOST_PINS"=some (.int 24 tkP))(m_len:mg "len"=none)(m_list:mg "list"=none):FnOk P w K mg base (CXr P w) 3 f fd ["self","name","x","y","hold"] (spPutPinW P w K mg base C):=by
 refine fun_okFD F sc_a9 (fun vs H Q E h=> ?_) (fun cdv A outer s H vs Q E hr h=> ?_)
 ·obtain ⟨a,dx,pP,pW,pB,ps,bs,kP,kW,kB,pw,x,u,v,hv,p,ws,rfl,_⟩:=h
  rfl
 obtain ⟨a,dx,pP,pW,pB,ps,bs,kP,kW,kB,pw,x,u,v,hvv,p,ws,rfl,R,W,ew,hu,hv,hx,hs,hl,hH,q⟩:=h
 refine ⟨_,(pss_cons (ps_if (pt_cmp (pc_din (hu_of hr) (pv 1) (pe_fld (pv 0) rfl))) (pss_one (ps_never)) pss_nil)
  (pss_cons (ps_thaw (ps_for PassesOwn.never rfl (pi_items (pe_fld (pv 0) rfl)) (pg_tup rfl (pgs_cons (pg_name (i:=5) sc_a9.nd rfl (Or.inl rfl)) (pgs_cons (pg_name (i:=6) sc_a9.nd rfl (Or.inl rfl)) pgs_nil))) (pss_one (ps_if (pt_cmpR (op_eqDa hr.units) (pv 6) (pe_tup (pac (pv 2) (pac (pv 3) pa_nil))) (nomark _)) (pss_one (ps_never)) pss_nil))))
  (pss_cons (ps_if (pt_cmpR op_ge (pe_callB call_lenD rfl m_len b_len (pac (pe_fld (pv 0) rfl) pa_nil)) (pe_glob (v:=.int 24) rfl m_ba ⟨_,rfl⟩) (nomark _)) (pss_one (ps_never)) pss_nil)
  (pss_cons (ps_dput (hu_of hr) (pe_fld (pv 0) rfl) (pv 1) (pe_tup (pac (pv 2) (pac (pv 3) pa_nil))) rfl)
  (pss_one (ps_dput (hu_of hr) (pe_fld (pv 0) rfl) (pv 1) (pe_ifExp (pt_cmpR op_isN (pv 4) pe_non (nomark _)) (pe_lst pa_nil) (pe_callTy call_listL rfl m_list b_list (pac (pe_mtd0 (k:=2) (pv 4) hr.mo (pY P w)) pa_nil))) rfl)))))),?_⟩
 refine ⟨_,rfl,_,rfl,a,C,dx,_,_,rfl,R.obj,fc.cls,fc.pl,rfl,pP,_,rfl,DGet.k (k:=.inr x) R.pl,_,rfl,?_⟩
 rw [R.pin x,decide_eq_false hx]
 have lk:kP.length=ps.length:=(Paired.length R.rp).symm
 refine ⟨_,rfl,a,C,dx,_,_,rfl,R.obj,fc.cls,fc.pl,rfl,pP,kP,rfl,R.pl,fun o=> ?_⟩
 have k0:KSame pP H (upd H pP (.frz o (.dK kP))):=fun b o' n e=>by rw [upd_ne n];exact e
 refine for_items (d:=pP) (o:=o) (kvs:=kP) (fun t σ H' =>∃(o2 o3:Option V),σ=[some (.ref a),some (.str x),some u,some v,some hvv,o2,o3]∧KSame pP H H' ∧H' pP=some (.frz o (.dK kP))) ⟨none,none,rfl,k0,upd_same⟩ (fun t σ H' _ h=>by
   obtain ⟨_,_,_,_,h⟩:=h
   exact h) ?_ ?_
 ·rintro t k y σ H6 p7 ekv ⟨o2,o3,rfl,k6,hd6⟩ n7
  obtain ⟨z,ez,hz1,hz2⟩:=paired_get (paired_flip R.rp) ekv
  have hz1' :k=.inr z.1:=hz1
  subst hz1'
  have s6:SameT H H6:=fun b xs r=>by
   rcases r with r | ⟨o',r⟩
   ·exact .inl (k6 _ _ (fun e=>by rw [e,R.pl] at r;cases r) r)
   ·exact .inr ⟨o',k6 _ _ (fun e=>by rw [e,R.pl] at r;cases r) r⟩
  have s7:=same_new n7 (.tup [kV (.inr z.1),y])
  have s67:SameT H (upd H6 p7 (.tup [kV (.inr z.1),y])):=s6.trans (.of s7)
  refine ⟨p7,_,rfl,SqT.of upd_same,rfl,_,_,rfl,_,_,rfl,rfl,?_⟩
  refine ⟨_,rfl,_,rfl,_,rfl,(by show 2≤sizeLine;decide),fun t8 n8=> ?_⟩
  have s8:=same_new n8 (.tup [u,v])
  have s78:SameT H (upd (upd H6 p7 (.tup [kV (.inr z.1),y])) t8 (.tup [u,v])):=s67.trans (.of s8)
  refine ⟨spotD z.2,spotD p,.inl ⟨(Spot.sameT hz2 s78).is,(Spot.is (p:=p) ⟨t8,u,v,rfl,SqT.of upd_same,hu.sameT s78,hv.sameT s78⟩)⟩,alike_spots _ _,dep_spots _,?_⟩
  rw [eq_spots]
  refine ⟨_,rfl,?_⟩
  refine ite2 (fun c=>absurd (of_decide_eq_true c) (hs z (List.mem_of_getElem? ez))) (fun _=> ?_)
  exact ⟨_,_,rfl,fun b o' n e=>s8 _ _ (s7 _ _ (k6 b o' n e)),s8 _ _ (s7 _ _ hd6)⟩
 ·rintro σ H1 ⟨o2,o3,rfl,k1,hd1⟩
  refine ⟨pP,o,kP,hd1,fun o' u' z=>(by have z' :H pP=some (.frz o' u'):=z;rw [R.pl] at z';cases z'),?_⟩
  have s2:Same H (upd H1 pP (.dK kP)):=fun b o' e=>by
   by_cases n:b=pP
   ·subst n
    rw [R.pl] at e
    rw [upd_same]
    exact e
   ·rw [upd_ne n]
    exact k1 b o' n e
  generalize upd H1 pP (.dK kP)=H2 at s2 ⊢
  have R2:=R.same s2
  refine ⟨_,rfl,a,C,dx,_,_,rfl,R2.obj,fc.cls,fc.pl,rfl,pP,kP,rfl,.inl R2.pl,_,_,rfl,rfl,_,rfl,?_⟩
  refine ite2 (fun c=> ?_) (fun _=> ?_)
  ·have c' :(24:Int)≤(kP.length:Int):=of_decide_eq_true c
   omega
  refine ⟨_,rfl,_,rfl,(by show 2≤sizeLine;decide),fun t nt=> ?_⟩
  have s3:=same_new nt (.tup [u,v])
  have R3:=R2.same s3
  have hu3:=(hu.same s2).same s3
  have hv3:=(hv.same s2).same s3
  refine ⟨_,rfl,a,C,dx,_,_,rfl,R3.obj,fc.cls,fc.pl,rfl,_,rfl,pP,_,rfl,DPut.k (k:=.inr x) R3.pl (Nat.lt_of_le_of_lt (show kP.length≤1000 by omega) (by decide)),?_⟩
  have e:putK kP (.inr x) (.ref t)=kP++[(.inr x,.ref t)]:=putK_new _ (valV_none (by rw [R.keysP];exact fun z=>hx (key_mem.mp z)))
  rw [e]
  have R4:=R3.putPin (x:=x) (p:=p) (t:=t) ⟨t,u,v,rfl,SqT.of upd_same,hu3,hv3⟩
  have k4:∀b o,b≠pP→H b=some o→(upd (upd H2 t (.tup [u,v])) pP (.dK (kP++[(.inr x,.ref t)]))) b=some o:=fun b o n e=>by rw [upd_ne n];exact s3 _ _ (s2 _ _ e)
  generalize upd (upd H2 t (.tup [u,v])) pP (.dK (kP++[(.inr x,.ref t)]))=H4 at R4 k4 ⊢
  have lw:kW.length=ps.length:=by
   have e1:kW.length=pw.length:=(Paired.length W).symm
   have e2:=congrArg List.length ew
   rw [List.length_map,List.length_map] at e2
   omega
  have t4:SameT H H4:=fun b xs r=>by
   rcases r with r | ⟨o',r⟩
   ·exact .inl (k4 _ _ (fun e=>by rw [e,R.pl] at r;cases r) r)
   ·exact .inr ⟨o',k4 _ _ (fun e=>by rw [e,R.pl] at r;cases r) r⟩
  have W4:WyR K H4 pw kW:=Paired.mapP W fun _ _ z=>⟨z.1,by
   obtain ⟨l,us,e1,e2,e3⟩:=z.2
   exact ⟨l,us,e1,k4 _ _ (fun e=>by rw [e,R.pl] at e2;cases e2) e2,e3.sameT t4⟩⟩
  refine ⟨_,rfl,rfl,_,rfl,?_⟩
  rcases hH with ⟨rfl,rfl⟩ | ⟨h,Ch,dxh,fsh,psh,sph,rfl,hh,hlk,MH,hsp⟩
  ·refine ite2 (fun _=> ?_) (fun c=>absurd (by decide) c)
   refine ⟨by show 0≤sizeLine;decide,fun l2 n6=> ?_⟩
   have s6:=same_new n6 (.lst [])
   have R6:=R4.same s6
   have W6:=W4.same s6
   refine ⟨_,rfl,a,C,dx,_,_,rfl,R6.obj,fc.cls,fc.wy,rfl,_,rfl,pW,_,rfl,DPut.k (k:=.inr x) R6.wy (Nat.lt_of_le_of_lt (show kW.length≤1000 by omega) (by decide)),?_⟩
   have ek:putK kW (.inr x) (.ref l2)=kW++[(.inr x,.ref l2)]:=putK_new _ (valV_none (by rw [W.keys,ew];exact fun z=>hx (key_mem.mp z)))
   rw [ek]
   have ne6:l2≠pW:=fun z=>by have h:=R6.wy;rw [← z,upd_same] at h;cases h
   exact q _ _ _ (fun b o n1 n2 e=>by rw [upd_ne n2];exact s6 _ _ (k4 b o n1 e)) (R6.putWays _) (Paired.snoc (W6.dict R6.wy) ⟨rfl,l2,[],rfl,by rw [upd_ne ne6,upd_same],.nil⟩)
  have h4:H4 h=some (.ins Ch dxh fsh):=k4 _ _ (fun e=>by rw [e,R.pl] at hh;cases hh) hh
  refine ite2 (fun c=>absurd (of_decide_eq_true c) (fun z=>nomatch z)) (fun _=> ?_)
  refine ⟨_,rfl,h,Ch,dxh,fsh,psh,sph,rfl,h4,hlk,MH,hsp H4 h4 t4 _ fun l1 us H5 s5 n5 e5 p5=> ?_⟩
  refine ⟨l1,us,rfl,SqL.of e5,fun l2 n6=> ?_⟩
  have s6:=same_new n6 (.lst us)
  have R6:=(R4.same s5).same s6
  have W6:=(W4.same s5).same s6
  refine ⟨_,rfl,a,C,dx,_,_,rfl,R6.obj,fc.cls,fc.wy,rfl,_,rfl,pW,_,rfl,DPut.k (k:=.inr x) R6.wy (Nat.lt_of_le_of_lt (show kW.length≤1000 by omega) (by decide)),?_⟩
  have ek:putK kW (.inr x) (.ref l2)=kW++[(.inr x,.ref l2)]:=putK_new _ (valV_none (by rw [W.keys,ew];exact fun z=>hx (key_mem.mp z)))
  rw [ek]
  have s46:Same H4 (upd H5 l2 (.lst us)):=fun b o z=>s6 _ _ (s5 _ _ z)
  refine q _ _ _ (fun b o n1 n2 e=>by rw [upd_ne n2];exact s46 _ _ (k4 b o n1 e)) (R6.putWays _) ?_
  have ne6:l2≠pW:=fun z=>by have h:=R6.wy;rw [← z,upd_same] at h;cases h
  exact Paired.snoc (W6.dict R6.wy) ⟨rfl,l2,us,rfl,by rw [upd_ne ne6,upd_same],(p5.same s6).sameT (.dict R6.wy)⟩
inductive spCheckBar (K:Frag)(C:Addr)(vs:List V)(H:Hp)(Q:VK)(E_:XK):Prop where
 | mk (a dx pP pW pB:Addr) (ps:List (Str×Pt)) (bs:List (Str×Str×Str)) (kP kW kB:List (Key×V)) (x one other:Str) (_:vs=[.ref a,.str x,.str one,.str other]) (_:FrR K H C a dx pP pW pB ps bs kP kW kB) (_:x∉bs.map (·.1)) (_:one∈ps.map (·.1)) (_:other∈ps.map (·.1)) (_:one≠other) (_:bs.length < 60) (_:Q .non H):spCheckBar K C vs H Q E_
theorem sc_a6:FnScope ["self","name","one","other"] ["self","name","one","other"] (defScope s_a6):=sq
theorem ok_a6 {f:Addr}{fd:FuncData}{C:Addr}(F:Fun K "check_bar" "Frame.check_bar" s_a6 f fd)(fc:FrC K C){tkB:Tok}(m_bd:mg "MOST_BARS"=some (.int 60 tkB))(m_len:mg "len"=none)
  (MC:MtdOk P w K mg base (CXr P w) 1 C "check_pin" ["self","pin"] (spCheckPin K C)):FnOk P w K mg base (CXr P w) 2 f fd ["self","name","one","other"] (spCheckBar K C):=by
 refine fun_okF F sc_a6 (fun vs H Q E h=> ?_) (fun cdv A outer s H vs Q E hr h=> ?_)
 ·obtain ⟨a,dx,pP,pW,pB,ps,bs,kP,kW,kB,x,one,other,rfl,_⟩:=h
  rfl
 obtain ⟨a,dx,pP,pW,pB,ps,bs,kP,kW,kB,x,one,other,rfl,R,hx,h1,h2,ne,hl,q⟩:=h
 refine ⟨_,(pss_cons (ps_if (pt_cmp (pc_din (hu_of hr) (pv 1) (pe_fld (pv 0) rfl))) (pss_one (ps_never)) pss_nil)
  (pss_cons (ps_expr (pe_mtd (k:=1) (pv 0) hr.mo (pY P w) (pac (pv 2) pa_nil)))
  (pss_cons (ps_expr (pe_mtd (k:=1) (pv 0) hr.mo (pY P w) (pac (pv 3) pa_nil)))
  (pss_cons (ps_if (pt_cmpR op_eq (pv 2) (pv 3) (nomark _)) (pss_one (ps_never)) pss_nil)
  (pss_one (ps_if (pt_cmpR op_ge (pe_callB call_lenD rfl m_len b_len (pac (pe_fld (pv 0) rfl) pa_nil)) (pe_glob (v:=.int 60) rfl m_bd ⟨_,rfl⟩) (nomark _)) (pss_one (ps_never)) pss_nil)))))),?_⟩
 refine ⟨_,rfl,_,rfl,a,C,dx,_,_,rfl,R.obj,fc.cls,fc.br,rfl,pB,_,rfl,DGet.k (k:=.inr x) R.br,_,rfl,?_⟩
 rw [R.bar x,decide_eq_false hx]
 refine ⟨_,rfl,a,C,dx,_,_,_,rfl,R.obj,rfl,MC,_,rfl,a,dx,pP,pW,pB,ps,bs,kP,kW,kB,one,rfl,R,h1,?_⟩
 refine ⟨_,rfl,a,C,dx,_,_,_,rfl,R.obj,rfl,MC,_,rfl,a,dx,pP,pW,pB,ps,bs,kP,kW,kB,other,rfl,R,h2,?_⟩
 refine ⟨_,rfl,_,rfl,rfl,_,rfl,?_⟩
 refine ite2 (fun c=>absurd (by simpa [eqV] using c) ne) (fun _=> ?_)
 have lk:kB.length=bs.length:=(Paired.length R.rb).symm
 refine ⟨_,rfl,a,C,dx,_,_,rfl,R.obj,fc.cls,fc.br,rfl,pB,kB,rfl,.inl R.br,_,_,rfl,rfl,_,rfl,?_⟩
 refine ite2 (fun c=> ?_) (fun _=>q)
 have c' :(60:Int)≤(kB.length:Int):=of_decide_eq_true c
 omega
inductive spPutBar (K:Frag)(C:Addr)(vs:List V)(H:Hp)(Q:VK)(E_:XK):Prop where
 | mk (a dx pP pW pB:Addr) (ps:List (Str×Pt)) (bs:List (Str×Str×Str)) (kP kW kB:List (Key×V)) (x one other:Str) (_:vs=[.ref a,.str x,.str one,.str other]) (_:FrR K H C a dx pP pW pB ps bs kP kW kB) (_:x∉bs.map (·.1)) (_:one∈ps.map (·.1)) (_:other∈ps.map (·.1)) (_:one≠other) (_:bs.length < 60) (_:∀(H' :Hp) (kB' :List (Key×V)),KSame pB H H' →FrR K H' C a dx pP pW pB ps (bs++[(x,one,other)]) kP kW kB' →Q .non H'):spPutBar K C vs H Q E_
theorem sc_aa:FnScope ["self","name","one","other"] ["self","name","one","other"] (defScope s_aa):=sq
theorem ok_aa {f:Addr}{fd:FuncData}{C:Addr}(F:Fun K "put_bar" "Frame.put_bar" s_aa f fd)(fc:FrC K C)
  (MC:MtdOk P w K mg base (CXr P w) 2 C "check_bar" ["self","name","one","other"] (spCheckBar K C)):FnOk P w K mg base (CXr P w) 3 f fd ["self","name","one","other"] (spPutBar K C):=by
 refine fun_okF F sc_aa (fun vs H Q E h=> ?_) (fun cdv A outer s H vs Q E hr h=> ?_)
 ·obtain ⟨a,dx,pP,pW,pB,ps,bs,kP,kW,kB,x,one,other,rfl,_⟩:=h
  rfl
 obtain ⟨a,dx,pP,pW,pB,ps,bs,kP,kW,kB,x,one,other,rfl,R,hx,h1,h2,ne,hl,q⟩:=h
 refine ⟨_,(pss_cons (ps_expr (pe_mtd (k:=2) (pv 0) hr.mo (pY P w) (pac (pv 1) (pac (pv 2) (pac (pv 3) pa_nil)))))
  (pss_one (ps_dput (hu_of hr) (pe_fld (pv 0) rfl) (pv 1) (pe_tup (pac (pv 2) (pac (pv 3) pa_nil))) rfl))),?_⟩
 refine ⟨_,rfl,a,C,dx,_,_,_,rfl,R.obj,rfl,MC,_,rfl,_,rfl,_,rfl,a,dx,pP,pW,pB,ps,bs,kP,kW,kB,x,one,other,rfl,R,hx,h1,h2,ne,hl,?_⟩
 refine ⟨_,rfl,_,rfl,(by show 2≤sizeLine;decide),fun t nt=> ?_⟩
 have s:=same_new nt (.tup [.str one,.str other])
 have R' :=R.same s
 have lk:kB.length=bs.length:=(Paired.length R.rb).symm
 refine ⟨_,rfl,a,C,dx,_,_,rfl,R'.obj,fc.cls,fc.br,rfl,_,rfl,pB,_,rfl,DPut.k (k:=.inr x) R'.br (Nat.lt_of_le_of_lt (show kB.length≤1000 by omega) (by decide)),?_⟩
 have e:putK kB (.inr x) (.ref t)=kB++[(.inr x,.ref t)]:=putK_new _ (valV_none (by rw [R.keysB];exact fun z=>hx (key_mem.mp z)))
 rw [e]
 refine q _ _ (fun b o n z=> ?_) (R'.putBar (.inl upd_same))
 rw [upd_ne n]
 exact s _ _ z
def armP (p q:PinD):Rat×Rat:=(q.sp.1 - p.sp.1,q.sp.2 - p.sp.2)
inductive spArm (K:Frag)(C:Addr)(vs:List V)(H:Hp)(Q:VK)(E_:XK):Prop where
 | mk (a:Addr) (pins:List PinD) (bars:List BarD) (p q:PinD) (_:vs=[.ref a,.str p.nm,.str q.nm]) (_:FrA K H C a pins bars) (_:GoodF pins bars) (_:p∈pins) (_:q∈pins) (_:givesP K H Q (armP p q)):spArm K C vs H Q E_
theorem np_of {pins:List PinD}(h:(pins.map (·.nm)).Nodup):((pins.map fun p=>(p.nm,ptQ p.sp)).map (·.1)).Nodup:=by
 rw [List.map_map]
 exact h
theorem nw_of {pins:List PinD}(h:(pins.map (·.nm)).Nodup):((pins.map fun p=>(p.nm,p.ws)).map (·.1)).Nodup:=by
 rw [List.map_map]
 exact h
theorem nb_of {bars:List BarD}(h:(bars.map (·.nm)).Nodup):((bars.map fun b=>(b.nm,b.one.nm,b.other.nm)).map (·.1)).Nodup:=by
 rw [List.map_map]
 exact h
theorem sc_af:FnScope ["F","one","other"] ["F","one","other"] (defScope s_af):=sq
theorem ok_af {C:Addr}(D:Def K mg "arm_between" s_af ["F","one","other"])(MP:MtdOk P w K mg base (CXr P w) 2 C "place" ["self","pin"] (spPlace K C))(G_a4:Fn P w K mg base (CXr P w) 35 "pair_difference" ["one","other"] (spPair K fun a b=>a - b)):Fn P w K mg base (CXr P w) 36 "arm_between" ["F","one","other"] (spArm K C):=by
 refine D.ok sc_af (fun vs H Q E h=> ?_) (fun f cdv A outer s H vs Q E hr h=> ?_)
 ·obtain ⟨a,pins,bars,p,q,rfl,_⟩:=h
  rfl
 obtain ⟨a,pins,bars,p,q,rfl,R,g,hp,hq,k⟩:=h
 obtain ⟨dx,pP,pW,pB,kP,kW,kB,R,W⟩:=R.ex
 refine ⟨_,(pss_one (ps_ret (pe_fn G_a4 hr.mo (pY P w) (pac (pe_mtd (k:=2) (pv 0) hr.mo (pY P w) (pac (pv 2) pa_nil)) (pac (pe_mtd (k:=2) (pv 0) hr.mo (pY P w) (pac (pv 1) pa_nil)) pa_nil))))),?_⟩
 refine ⟨_,rfl,a,C,dx,_,_,_,rfl,R.obj,rfl,MP,_,rfl,a,dx,pP,pW,pB,_,_,kP,kW,kB,q.nm,ptQ q.sp,rfl,R,np_of g.np,List.mem_map.mpr ⟨q,hq,rfl⟩,fun v1 h1=> ?_⟩
 refine ⟨_,rfl,a,C,dx,_,_,_,rfl,R.obj,rfl,MP,_,rfl,a,dx,pP,pW,pB,_,_,kP,kW,kB,p.nm,ptQ p.sp,rfl,R,np_of g.np,List.mem_map.mpr ⟨p,hp,rfl⟩,fun v2 h2=> ?_⟩
 have z1:=g.sz q hq
 have z2:=g.sz p hp
 exact ⟨v1,v2,q.sp,p.sp,rfl,h1,h2,z1.1.up (by decide),z1.2.1.up (by decide),z2.1.up (by decide),z2.2.1.up (by decide),k⟩
def mv (M:Str→Option (Rat×Rat))(x:Str):Rat×Rat:=(M x).getD (0,0)
def mvSz (M:Str→Option (Rat×Rat)):Prop:=∀x,Sz 45 (mv M x).1∧Sz 45 (mv M x).2
def rowQ (F:Str→Option (Rat×Rat))(pins:List PinD):List (Int×Int):=pins.flatMap fun p=>[qr (mv F p.nm).1,qr (mv F p.nm).2]
theorem rowQ_len (F:Str→Option (Rat×Rat)):∀pins:List PinD,(rowQ F pins).length=2*pins.length
 | []=>rfl
 | p::ps=>by
  have:=rowQ_len F ps
  unfold rowQ at this ⊢
  rw [List.flatMap_cons,List.length_append,this]
  simp
  omega
theorem rowQ_snoc (F:Str→Option (Rat×Rat))(ps:List PinD)(p:PinD):rowQ F (ps++[p])=rowQ F ps++[qr (mv F p.nm).1,qr (mv F p.nm).2]:=by
 unfold rowQ
 rw [List.flatMap_append]
 simp
def oneF (x:Str)(w:Rat×Rat):Str→Option (Rat×Rat):=fun y=>if y=x then some w else none
def barF (b:BarD):Str→Option (Rat×Rat):=fun y=>if y=b.one.nm then some (armP b.one b.other) else if y=b.other.nm then some (armP b.other b.one) else none
def wayQ (pins:List PinD)(p:PinD):List (List (Int×Int)):=p.ws.map fun w=>rowQ (oneF p.nm w) pins
def drawQ (pins:List PinD)(bars:List BarD):List (List (Int×Int)):=(pins.flatMap fun p=>wayQ pins p)++bars.map fun b=>rowQ (barF b) pins
structure RowsR (K:Frag)(H:Hp)(r:Addr)(ls:List Addr)(vss:List (List V))(qss:List (List (Int×Int))):Prop where
 mat:MatV H r ls vss
 num:NumssK K H vss qss
 nr:r∉ls
theorem RowsR.same {H H' :Hp}{r:Addr}{ls:List Addr}{vss:List (List V)}{qss:List (List (Int×Int))}(h:RowsR K H r ls vss qss)(s:Same H H'):RowsR K H' r ls vss qss:=⟨h.mat.same s,h.num.same s,h.nr⟩
theorem numss_snoc {H:Hp}{vss:List (List V)}{qss:List (List (Int×Int))}{us:List V}{qs:List (Int×Int)}(h:NumssK K H vss qss)(n:NmsK K H us qs):NumssK K H (vss++[us]) (qss++[qs]):=by
 refine ⟨by simp [h.1],fun i u q' e1 e2=> ?_⟩
 have l:=h.1
 by_cases c:i < vss.length
 ·rw [List.getElem?_append_left c] at e1
  rw [List.getElem?_append_left (by omega)] at e2
  exact h.2 i u q' e1 e2
 ·rw [List.getElem?_append_right (by omega)] at e1 e2
  by_cases z:i - vss.length=0
  ·rw [z] at e1
   rw [show i - qss.length=0 by omega] at e2
   cases e1
   cases e2
   exact n
  ·rw [List.getElem?_eq_none (by simp;omega)] at e1
   cases e1
theorem rows_at {H:Hp}{ls:List Addr}{vss:List (List V)}{l:Addr}{us:List V}(hl:ls.length=vss.length)(h:∀(i:Nat) (l:Addr) (vs:List V),ls[i]? =some l→vss[i]? =some vs→H l=some (.lst vs))(e:H l=some (.lst us)):
  ∀(i:Nat) (l' :Addr) (vs:List V),(ls++[l])[i]? =some l' →(vss++[us])[i]? =some vs→H l' =some (.lst vs):=fun i l' vs e1 e2=>by
 by_cases c:i < ls.length
 ·rw [List.getElem?_append_left c] at e1
  rw [List.getElem?_append_left (by omega)] at e2
  exact h i l' vs e1 e2
 ·rw [List.getElem?_append_right (by omega)] at e1 e2
  by_cases z:i - ls.length=0
  ·rw [z] at e1
   rw [show i - vss.length=0 by omega] at e2
   cases e1
   cases e2
   exact e
  ·rw [List.getElem?_eq_none (by simp;omega)] at e1
   cases e1
theorem RowsR.push {H:Hp}{r l:Addr}{ls:List Addr}{vss:List (List V)}{qss:List (List (Int×Int))}{us:List V}{qs:List (Int×Int)}(h:RowsR K H r ls vss qss)(e:H l=some (.lst us))(ne:l≠r)(n:NmsK K H us qs):
  RowsR K (upd H r (.lst (ls.map V.ref++[.ref l]))) r (ls++[l]) (vss++[us]) (qss++[qs]):=by
 have st:SameT H (upd H r (.lst (ls.map V.ref++[.ref l]))):=.list h.mat.1
 have hm:∀(i:Nat) (l' :Addr) (vs:List V),ls[i]? =some l' →vss[i]? =some vs→(upd H r (.lst (ls.map V.ref++[.ref l]))) l' =some (.lst vs):=fun i l' vs e1 e2=>by
  rw [upd_ne (fun z:l' =r=>h.nr (by rw [← z];exact List.mem_of_getElem? e1))]
  exact h.mat.2.2 i l' vs e1 e2
 refine ⟨⟨by rw [upd_same,List.map_append];rfl,by simp [h.mat.2.1],rows_at h.mat.2.1 hm (by rw [upd_ne ne];exact e)⟩,?_,?_⟩
 ·exact numss_snoc ⟨h.num.1,fun i vs qs e1 e2=>(h.num.2 i vs qs e1 e2).sameT st⟩ (n.sameT st)
 ·intro z
  rcases List.mem_append.mp z with z | z
  ·exact h.nr z
  ·exact ne (List.mem_singleton.mp z).symm
inductive spPairRow (K:Frag)(C:Addr)(vs:List V)(H:Hp)(Q:VK)(E_:XK):Prop where
 | mk (a d:Addr) (pins:List PinD) (bars:List BarD) (kvs:List (Key×V)) (F:Str→Option (Rat×Rat)) (_:vs=[.ref a,.ref d]) (_:FrA K H C a pins bars) (_:pins.length≤100) (_:H d=some (.dK kvs)) (_:PtD K H kvs F) (_:∀(l:Addr) (us:List V) (H' :Hp),Same H H' →H l=none→H' l=some (.lst us)→NmsK K H' us (rowQ F pins)→Q (.ref l) H'):spPairRow K C vs H Q E_
theorem pins_nm (pins:List PinD):((pins.map fun p=>(p.nm,ptQ p.sp)).map (·.1))=pins.map (·.nm):=by rw [List.map_map];rfl
theorem sc_bi:FnScope ["F","draws","row","pin"] ["F","draws"] (defScope s_bi):=sq
theorem ok_bi {C aM:Addr}(hM:∀H:Hp,PtR K H (.ref aM) (0,0))(m_bv:mg "NO_MOVE"=some (.ref aM))(D:Def K mg "pair_row" s_bi ["F","draws"])(MP:MtdOk P w K mg base (CXr P w) 1 C "pins" ["self"] (spPins K C)):Fn P w K mg base (CXr P w) 2 "pair_row" ["F","draws"] (spPairRow K C):=by
 refine D.ok sc_bi (fun vs H Q E h=> ?_) (fun f cdv A outer s H vs Q E hr h=> ?_)
 ·obtain ⟨a,d,pins,bars,kvs,F,rfl,_⟩:=h
  rfl
 obtain ⟨a,d,pins,bars,kvs,F,rfl,R,lp,hd,hP,q⟩:=h
 refine ⟨_,(pss_cons (ps_set (i:=2) sc_bi.nd rfl (Or.inl rfl) (pe_lst pa_nil))
  (pss_cons (ps_for PassesOwn.never rfl (pi_list (pe_mtd0 (k:=1) (pv 0) hr.mo (pY P w))) (pg_name (i:=3) sc_bi.nd rfl (Or.inl rfl)) (pss_one (ps_expr (pe_bm PySem.F.plainAttrs_list PySem.F.slot_list_extend PySem.F.type_list_extend mt_extT (pv 2) (pac (pe_dget2 (hu_of hr) (pv 1) (pv 3) (pe_glob (v:=.ref aM) rfl m_bv rfl) ⟨rfl,rfl,rfl,rfl⟩) pa_nil)))))
  (pss_one (ps_ret (pv 2))))),?_⟩
 refine ⟨(by show 0≤sizeLine;decide),?_⟩
 intro l nl;generalize eX:upd _ l _=H1;have ⟨s1,el⟩:=nw nl eX;clear eX
 have R1:=R.same s1
 obtain ⟨dx,pP,pW,pB,kP,kW,kB,F1,W1⟩:=R1.ex
 refine ⟨_,rfl,a,C,dx,_,_,_,rfl,F1.obj,rfl,MP,a,dx,pP,pW,pB,_,_,kP,kW,kB,rfl,F1,fun lp H2 s2 nlp elp=> ?_⟩
 rw [pins_nm] at elp
 have s02:=s1.trans s2
 have lne:lp≠l:=fun z=>by rw [z,el] at nlp;cases nlp
 refine ⟨lp,rfl,⟨_,SqL.of elp⟩,for_list (K:=K) (a:=lp) (xs:=(pins.map (·.nm)).map V.str) (fun i σ H' =>∃(o3:Option V) (us:List V),σ=[some (.ref a),some (.ref d),some (.ref l),o3]∧Same H H' ∧H' lp=some (.lst ((pins.map (·.nm)).map V.str))∧H' l=some (.lst us)∧NmsK K H' us (rowQ F (pins.take i))) ⟨none,[],rfl,s02,elp,s2 _ _ el,⟨rfl,fun i u q e=>by simp at e⟩⟩ (fun i σ H' _ h=>by
   obtain ⟨_,_,_,_,h,_⟩:=h
   exact SqL.of h) ?_ ?_⟩
 ·rintro i z σ H4 hi ⟨o3,us,rfl,s4,l4,e4,n4⟩
  rw [List.getElem?_map,List.getElem?_map] at hi
  obtain ⟨x,hx,rfl⟩:=Option.map_eq_some_iff.mp hi
  obtain ⟨p,hp,rfl⟩:=Option.map_eq_some_iff.mp hx
  have il:i < pins.length:=(List.getElem?_eq_some_iff.mp hp).1
  have d4:=s4 _ _ hd
  have g1:PtR K H4 ((valV kvs (.inr p.nm)).getD (.ref aM)) (mv F p.nm):=(hP.same s4).dget (hM H4)
  obtain ⟨b,u1,u2,eb,hb,h1,h2⟩:=g1
  have lu:us.length≤200:=by
   have:=n4.1
   rw [rowQ_len,List.length_take] at this
   omega
  refine ⟨_,rfl,.inl ⟨rfl,_,SqL.of e4⟩,_,rfl,d,rfl,.inl ⟨_,.inl d4⟩,_,rfl,_,DGet.k (k:=.inr p.nm) d4,l,b,us,[u1,u2],rfl,by rw [eb],e4,hb,by simp;omega,?_⟩
  have st:SameT H4 (upd H4 l (.lst (us++[u1,u2]))):=.list e4
  refine ⟨_,us++[u1,u2],rfl,fun c o z=> ?_,?_,upd_same,?_⟩
  ·rw [upd_ne (ne_of_none z nl)]
   exact s4 _ _ z
  ·rw [upd_ne lne]
   exact l4
  ·rw [take_snoc hp,rowQ_snoc]
   have a1:=NmsK.snoc (K:=K) (n4.sameT st) (NmR.sameT h1 st)
   have a2:=NmsK.snoc (K:=K) a1 (NmR.sameT h2 st)
   simpa using a2
 ·rintro σ H4 ⟨o3,us,rfl,s4,l4,e4,n4⟩
  rw [List.length_map,List.length_map,List.take_length] at n4
  exact ⟨_,rfl,q l us H4 s4 nl e4 n4⟩
theorem Fn.thaw {k:Nat}{x:Str}{ps:List Str}{sp sp' :Sp}(len:∀vs H Q E,sp vs H Q E→vs.length=ps.length)(h:∀vs H Q E,sp vs H Q E→sp' vs H Q (thE H E))(F:Fn P w K mg base (CXr P w) k x ps sp'):Fn P w K mg base (CXr P w) k x ps sp:=by
 obtain ⟨f,fd,G,r⟩:=F.ex
 exact ⟨f,fd,fn_thaw len h G,r⟩
def KeysIn (pins:List PinD)(kvs:List (Key×V)):Prop:=∀kv∈kvs,∃x∈pins.map (·.nm),kv.1=.inr x
def strangeE (H:Hp)(E:XK)(CN:Addr)(pins:List PinD)(kvs:List (Key×V)):Prop:=∀(t:Nat) (x:Str) (y:V),kvs[t]? =some (.inr x,y)→x∉pins.map (·.nm)→KeysIn pins (kvs.take t)→raisesF H E CN "pin" (.str x)
inductive spLoadRowX (K:Frag)(C CN:Addr)(vs:List V)(H:Hp)(Q:VK)(E:XK):Prop where
 | mk (a d:Addr) (pins:List PinD) (bars:List BarD) (kvs:List (Key×V)) (F:Str→Option (Rat×Rat)) (_:vs=[.ref a,.ref d]) (_:FrA K H C a pins bars) (_:pins.length≤100) (_:H d=some (.dK kvs)) (_:PtD K H kvs F) (_:(∀kv∈kvs,∃x:Str,kv.1=.inr x)) (_:strangeE H E CN pins kvs) (_:∀(l:Addr) (us:List V) (H' :Hp),KeysIn pins kvs→Same H H' →H l=none→H' l=some (.lst us)→NmsK K H' us (rowQ F pins)→Q (.ref l) H'):spLoadRowX K C CN vs H Q E
theorem sc_bj:FnScope ["F","load","pins","pin"] ["F","load"] (defScope s_bj):=sq
theorem ok_bj {C CN fN:Addr}{fdN:FuncData}(D:Def K mg "load_row" s_bj ["F","load"])(MP:MtdOk P w K mg base (CXr P w) 1 C "pins" ["self"] (spPins K C))(G_bi:Fn P w K mg base (CXr P w) 2 "pair_row" ["F","draws"] (spPairRow K C))
  (m_c2:mg "NoPin"=some (.ref CN)) (X_c2:ExcC K CN fN) (G_ax:FnOk P w K mg base (CXr P w) 1 fN fdN ["self","pin"] (spExcI CN "pin")) (b_ax:Binds K fdN ["self","pin"] []):Fn P w K mg base (CXr P w) 4 "load_row" ["F","load"] (spLoadRowX K C CN):=by
 refine Fn.thaw (sp' :=fun vs H Q E1=>∃E,E1=thE H E∧spLoadRowX K C CN vs H Q E) (fun vs H Q E h=> ?_) (fun vs H Q E h=>⟨E,rfl,h⟩) (D.okX sc_bj (fun vs H Q E h=> ?_) (fun f cdv A outer s H vs Q E hr h=> ?_))
 ·obtain ⟨a,d,pins,bars,kvs,F,rfl,_⟩:=h
  rfl
 ·obtain ⟨E',_,a,d,pins,bars,kvs,F,rfl,_⟩:=h
  rfl
 have px:Passes (CXr P w) (cxr P w K mg base ["F","load","pins","pin"] "load_row" (defScope s_bj) f cdv A outer s H E) E:=pass_up
 have L1:1≤sizeLine:=by decide
 refine ⟨_,(pss_cons (ps_set (i:=2) sc_bj.nd rfl (Or.inl rfl) (pe_mtd0 (k:=1) (pv 0) hr.mo px))
  (pss_cons (ps_thaw (ps_for PassesOwn.leaving rfl (pi_keys (pv 1)) (pg_name (i:=3) sc_bj.nd rfl (Or.inl rfl)) (pss_one (ps_if (pt_cmpR op_notIn_seq (pv 3) (pv 2) rfl) (pss_one (ps_raiseI X_c2 G_ax hr.mo b_ax m_c2 (pac (pv 3) pa_nil))) pss_nil))))
  (pss_one (ps_ret (pe_fn G_bi hr.mo px (pac (pv 0) (pac (pv 1) pa_nil))))))),?_⟩
 clear px
 obtain ⟨E',rfl,a,d,pins,bars,kvs,F,rfl,R,lp,hd,hP,hk,hs,q⟩:=h
 obtain ⟨dx,pP,pW,pB,kP,kW,kB,F1,W1⟩:=R.ex
 refine ⟨_,rfl,a,C,dx,_,_,_,rfl,F1.obj,rfl,MP,a,dx,pP,pW,pB,_,_,kP,kW,kB,rfl,F1,fun l H1 s1 nl el=> ?_⟩
 rw [pins_nm] at el
 have hd1:=s1 _ _ hd
 refine ⟨_,rfl,d,kvs,rfl,hd1,fun o=> ?_⟩
 have ld:l≠d:=fun z=>by rw [z,hd1] at el;cases el
 refine for_keys (d:=d) (o:=o) (kvs:=kvs) (fun t σ H' =>∃(o2:Option V),σ=[some (.ref a),some (.ref d),some (.ref l),o2]∧H' =upd H1 d (.frz o (.dK kvs))∧KeysIn pins (kvs.take t)) ⟨none,rfl,rfl,fun kv h=>(by simp at h)⟩ (fun t σ H' _ h=>by
   obtain ⟨_,_,rfl,_⟩:=h
   exact upd_same) ?_ ?_
 ·rintro t k y σ H6 ekv ⟨o2,rfl,rfl,ki⟩
  obtain ⟨x,ex⟩:=hk _ (List.mem_of_getElem? ekv)
  have ex' :k=.inr x:=ex
  subst ex'
  refine ⟨_,rfl,_,rfl,l,_,rfl,.inl (SqL.of (by rw [upd_ne ld];exact el)),rfl,flat_strs _,_,rfl,?_⟩
  refine ite2 (fun c=> ?_) (fun c=> ?_)
  ·have c' :(!inV (.str x) ((pins.map (·.nm)).map V.str))=true:=c
   have nx:x∉pins.map (·.nm):=fun z=>by
    rw [inV_strs,decide_eq_true z] at c'
    cases c'
   have hd8:(upd H1 d (.frz o (.dK kvs))) d=some (.frz o (.dK kvs)):=upd_same
   have ks8:KSame d H (upd H1 d (.frz o (.dK kvs))):=fun b o' n e=>by rw [upd_ne n];exact s1 _ _ e
   generalize upd H1 d (.frz o (.dK kvs))=H8 at hd8 ks8 ⊢
   refine ⟨_,rfl,L1,raisesF.go fun e H' sH nd he=>.inr ⟨d,o,kvs,sH _ _ hd8,(fun o' u' z=>by rw [hd] at z;cases z),?_⟩⟩
   have dp:e≠d:=fun z=>by rw [z,hd8] at nd;cases nd
   refine hs t x y ekv nx ki e _ (fun b o' z=> ?_) ?_ (by rw [upd_ne dp];exact he)
   ·by_cases n:b=d
    ·subst n
     rw [hd] at z
     rw [upd_same]
     exact z
    ·rw [upd_ne n]
     exact sH _ _ (ks8 b o' n z)
   ·cases z:H e with
    | none=>rfl
    | some o' =>rw [ks8 e o' dp z] at nd;cases nd
  ·refine ⟨_,rfl,rfl,fun kv h=> ?_⟩
   rw [take_snoc ekv] at h
   rcases List.mem_append.mp h with h | h
   ·exact ki kv h
   ·rw [List.mem_singleton.mp h]
    have c' :¬ (!inV (.str x) ((pins.map (·.nm)).map V.str))=true:=c
    refine ⟨x,?_,rfl⟩
    by_cases hx:x∈pins.map (·.nm)
    ·exact hx
    ·rw [inV_strs,decide_eq_false hx] at c'
     exact absurd rfl c'
 ·rintro σ H6 ⟨o2,rfl,rfl,ki⟩
  rw [List.take_length] at ki
  refine ⟨d,o,kvs,upd_same,fun o' u' z=>(by have z' :H d=some (.frz o' u'):=z;rw [hd] at z';cases z'),?_⟩
  have s2:Same H (upd (upd H1 d (.frz o (.dK kvs))) d (.dK kvs)):=fun b o' e=>by
   by_cases n:b=d
   ·subst n
    rw [hd] at e
    rw [upd_same]
    exact e
   ·rw [upd_ne n,upd_ne n]
    exact s1 _ _ e
  generalize upd (upd H1 d (.frz o (.dK kvs))) d (.dK kvs)=H2 at s2 ⊢
  refine ⟨_,rfl,_,rfl,a,d,pins,bars,kvs,F,rfl,R.same s2,lp,s2 _ _ hd,hP.same s2,fun l' us H3 s3 n3 e3 nm=> ?_⟩
  exact q l' us H3 ki (s2.trans s3) (s2.free n3) e3 nm
inductive spBarRow (K:Frag)(C:Addr)(vs:List V)(H:Hp)(Q:VK)(E_:XK):Prop where
 | mk (a:Addr) (pins:List PinD) (bars:List BarD) (b:BarD) (_:vs=[.ref a,.str b.one.nm,.str b.other.nm]) (_:FrA K H C a pins bars) (_:GoodF pins bars) (_:b.one∈pins) (_:b.other∈pins) (_:b.one.nm≠b.other.nm) (_:∀(l:Addr) (us:List V) (H' :Hp),Same H H' →H l=none→H' l=some (.lst us)→NmsK K H' us (rowQ (barF b) pins)→Q (.ref l) H'):spBarRow K C vs H Q E_
theorem merge1 (k:Key)(v:V):mergeK [] [(k,v)]=[(k,v)]:=rfl
theorem merge2 {k j:Key}(v u:V)(h:k≠j):mergeK [] [(k,v),(j,u)]=[(k,v),(j,u)]:=by
 show putK [(k,v)] j u=_
 rw [putK_new]
 ·rfl
 ·rw [valV_neg h]
  rfl
theorem sc_bt:FnScope ["F","one","other"] ["F","one","other"] (defScope s_bt):=sq
theorem ok_bt {C:Addr}(D:Def K mg "bar_row" s_bt ["F","one","other"])(G_af:Fn P w K mg base (CXr P w) 36 "arm_between" ["F","one","other"] (spArm K C))(G_bi:Fn P w K mg base (CXr P w) 2 "pair_row" ["F","draws"] (spPairRow K C)):Fn P w K mg base (CXr P w) 37 "bar_row" ["F","one","other"] (spBarRow K C):=by
 refine D.ok sc_bt (fun vs H Q E h=> ?_) (fun f cdv A outer s H vs Q E hr h=> ?_)
 ·obtain ⟨a,pins,bars,b,rfl,_⟩:=h
  rfl
 obtain ⟨a,pins,bars,b,rfl,R,g,m1,m2,ne,q⟩:=h
 refine ⟨_,(pss_one (ps_ret (pe_fn G_bi hr.mo pX (pac (pv 0) (pac (pe_disp (pps_cons (pv 1) (pe_fn G_af hr.mo pX (pac (pv 0) (pac (pv 1) (pac (pv 2) pa_nil)))) (pps_cons (pv 2) (pe_fn G_af hr.mo pX (pac (pv 0) (pac (pv 2) (pac (pv 1) pa_nil)))) pps_nil)) rfl rfl (List.cons_ne_nil _ _) (by decide)) pa_nil))))),?_⟩
 refine ⟨_,rfl,fun d nd=> ?_⟩
 have s1:=same_new nd (.dK [])
 have e1:(upd H d (.dK [])) d=some (.dK []):=upd_same
 generalize upd H d (.dK [])=H1 at s1 e1 ⊢
 refine ⟨_,rfl,_,rfl,_,rfl,_,rfl,a,pins,bars,b.one,b.other,rfl,R.same s1,g,m1,m2,fun v1 H2 s2 h2=> ?_⟩
 refine ⟨_,rfl,_,rfl,_,rfl,_,rfl,a,pins,bars,b.other,b.one,rfl,(R.same s1).same s2,g,m2,m1,fun v2 H3 s3 h3=> ?_⟩
 have e3:=s3 _ _ (s2 _ _ e1)
 refine ⟨e3,[(.inr b.one.nm,v1),(.inr b.other.nm,v2)],rfl,(by show 2≤15;decide),?_⟩
 rw [merge2 _ _ (fun z=>ne (Sum.inr.inj z))]
 have st:SameT H3 (upd H3 d (.dK [(.inr b.one.nm,v1),(.inr b.other.nm,v2)])):=.dict e3
 have e4:(upd H3 d (.dK [(.inr b.one.nm,v1),(.inr b.other.nm,v2)])) d=some (.dK [(.inr b.one.nm,v1),(.inr b.other.nm,v2)]):=upd_same
 have s4:Same H (upd H3 d (.dK [(.inr b.one.nm,v1),(.inr b.other.nm,v2)])):=fun c o z=>by
  rw [upd_ne (ne_of_none z nd)]
  exact s3 _ _ (s2 _ _ (s1 _ _ z))
 generalize upd H3 d (.dK [(.inr b.one.nm,v1),(.inr b.other.nm,v2)])=H4 at st e4 s4 ⊢
 refine ⟨a,d,pins,bars,_,barF b,rfl,R.same s4,Nat.le_trans g.lp (by decide),e4,fun x=> ?_,fun l us H5 s5 n5 e5 nm=>q l us H5 (s4.trans s5) (s4.free n5) e5 nm⟩
 by_cases c1:x=b.one.nm
 ·subst c1
  exact .inr ⟨v1,armP b.one b.other,valV_pos rfl,by unfold barF;rw [if_pos rfl],(h2.same s3).sameT st⟩
 ·by_cases c2:x=b.other.nm
  ·subst c2
   exact .inr ⟨v2,armP b.other b.one,by rw [valV_neg (fun z=>c1 (Sum.inr.inj z).symm),valV_pos rfl],by unfold barF;rw [if_neg c1,if_pos rfl],h3.sameT st⟩
  ·exact .inl ⟨by rw [valV_neg (fun z=>c1 (Sum.inr.inj z).symm),valV_neg (fun z=>c2 (Sum.inr.inj z).symm)];rfl,by unfold barF;rw [if_neg c1,if_neg c2]⟩
inductive spDrawRows (K:Frag)(C:Addr)(vs:List V)(H:Hp)(Q:VK)(E_:XK):Prop where
 | mk (a:Addr) (pins:List PinD) (bars:List BarD) (_:vs=[.ref a]) (_:FrA K H C a pins bars) (_:GoodF pins bars) (_:∀(r:Addr) (ls:List Addr) (vss:List (List V)) (H' :Hp),Same H H' →H r=none→RowsR K H' r ls vss (drawQ pins bars)→Q (.ref r) H'):spDrawRows K C vs H Q E_
theorem bars_nm (bars:List BarD):((bars.map fun b=>(b.nm,b.one.nm,b.other.nm)).map (·.1))=bars.map (·.nm):=by rw [List.map_map];rfl
theorem ways_len (pins:List PinD)(h:∀p∈pins,p.ws.length≤2):(pins.flatMap fun p=>p.ws).length≤2*pins.length:=by
 induction pins with
 | nil=>simp
 | cons p ps ih=>
  have h1:=h p List.mem_cons_self
  have h2:=ih fun q hq=>h q (List.mem_cons_of_mem _ hq)
  rw [List.flatMap_cons,List.length_append,List.length_cons]
  omega
theorem wayQ_len (all pins:List PinD):(pins.flatMap fun p=>wayQ all p).length=(pins.flatMap fun p=>p.ws).length:=by
 induction pins with
 | nil=>rfl
 | cons p ps ih=>
  rw [List.flatMap_cons,List.flatMap_cons,List.length_append,List.length_append,ih]
  unfold wayQ
  rw [List.length_map]
theorem drawQ_len (pins:List PinD)(bars:List BarD):(drawQ pins bars).length=(pins.flatMap fun p=>p.ws).length+bars.length:=by
 unfold drawQ
 rw [List.length_append,wayQ_len,List.length_map]
theorem sc_b6:FnScope ["F","rows","pin","way","bar","two"] ["F"] (defScope s_b6):=sq
theorem ok_b6 {C:Addr}(D:Def K mg "draw_rows" s_b6 ["F"])(MP:MtdOk P w K mg base (CXr P w) 1 C "pins" ["self"] (spPins K C))(MW:MtdOk P w K mg base (CXr P w) 2 C "ways" ["self","pin"] (spWays K C))(MB:MtdOk P w K mg base (CXr P w) 1 C "bars" ["self"] (spBars K C))(ME:MtdOk P w K mg base (CXr P w) 1 C "ends" ["self","bar"] (spEnds K C))
  (G_bi:Fn P w K mg base (CXr P w) 2 "pair_row" ["F","draws"] (spPairRow K C)) (G_bt:Fn P w K mg base (CXr P w) 37 "bar_row" ["F","one","other"] (spBarRow K C)):Fn P w K mg base (CXr P w) 38 "draw_rows" ["F"] (spDrawRows K C):=by
 refine D.ok sc_b6 (fun vs H Q E h=> ?_) (fun f cdv A outer s H vs Q E hr h=> ?_)
 ·obtain ⟨a,pins,bars,rfl,_⟩:=h
  rfl
 obtain ⟨a,pins,bars,rfl,R,g,q⟩:=h
 refine ⟨_,(pss_cons (ps_set (i:=1) sc_b6.nd rfl (Or.inl rfl) (pe_lst pa_nil))
  (pss_cons (ps_for PassesOwn.never rfl (pi_list (pe_mtd0 (k:=1) (pv 0) hr.mo (pY P w))) (pg_name (i:=2) sc_b6.nd rfl (Or.inl rfl)) (pss_one (ps_for PassesOwn.never rfl (pi_list (pe_mtd (k:=2) (pv 0) hr.mo (pY P w) (pac (pv 2) pa_nil))) (pg_name (i:=3) sc_b6.nd rfl (Or.inl rfl)) (pss_one (ps_expr (pe_bm PySem.F.plainAttrs_list PySem.F.slot_list_append PySem.F.type_list_append mt_append (pv 1) (pac (pe_fn G_bi hr.mo (pY P w) (pac (pv 0) (pac (pe_disp (pps_cons (pv 2) (pv 3) pps_nil) rfl rfl (List.cons_ne_nil _ _) (by decide)) pa_nil))) pa_nil)))))))
  (pss_cons (ps_for PassesOwn.never rfl (pi_list (pe_mtd0 (k:=1) (pv 0) hr.mo (pY P w))) (pg_name (i:=4) sc_b6.nd rfl (Or.inl rfl)) (pss_cons (ps_set (i:=5) sc_b6.nd rfl (Or.inl rfl) (pe_mtd (k:=1) (pv 0) hr.mo (pY P w) (pac (pv 4) pa_nil)))
   (pss_one (ps_expr (pe_bm PySem.F.plainAttrs_list PySem.F.slot_list_append PySem.F.type_list_append mt_append (pv 1) (pac (pe_fn G_bt hr.mo (pY P w) (pac (pv 0) (pac (pe_tx (pv 5)) (pac (pe_tx (pv 5)) pa_nil)))) pa_nil))))))
  (pss_one (ps_ret (pv 1)))))),?_⟩
 refine ⟨(by show 0≤sizeLine;decide),?_⟩
 intro r nr;generalize eX:upd _ r _=H1;have ⟨s1,er⟩:=nw nr eX;clear eX
 have big:(40:Nat)≤sizeLine:=by decide
 have wl:=ways_len pins g.lw
 have gl:=g.lp
 have R0:RowsR K H1 r [] [] []:=⟨⟨er,rfl,fun i l vs e=>by simp at e⟩,⟨rfl,fun i vs qs e=>by simp at e⟩,by simp⟩
 have R1:=R.same s1
 obtain ⟨dx,pP,pW,pB,kP,kW,kB,F1,W1⟩:=R1.ex
 refine ⟨_,rfl,a,C,dx,_,_,_,rfl,F1.obj,rfl,MP,a,dx,pP,pW,pB,_,_,kP,kW,kB,rfl,F1,fun lp H2 s2 nlp elp=> ?_⟩
 rw [pins_nm] at elp
 have s02:=s1.trans s2
 have lne:lp≠r:=fun z=>by rw [z,er] at nlp;cases nlp
 refine ⟨lp,rfl,⟨_,SqL.of elp⟩,for_list (K:=K) (a:=lp) (xs:=(pins.map (·.nm)).map V.str) (fun i σ H' =>∃(o2 o3:Option V) (ls:List Addr) (vss:List (List V)),σ=[some (.ref a),some (.ref r),o2,o3,none,none]∧Same H H' ∧H' lp=some (.lst ((pins.map (·.nm)).map V.str))∧RowsR K H' r ls vss ((pins.take i).flatMap fun p=>wayQ pins p)) ⟨none,none,[],[],rfl,s02,elp,R0.same s2⟩ (fun i σ H' _ h=>by
   obtain ⟨_,_,_,_,_,_,h,_⟩:=h
   exact SqL.of h) ?_ ?_⟩
 ·rintro i z σ H4 hi ⟨o2,o3,ls,vss,rfl,s4,l4,RR⟩
  rw [List.getElem?_map,List.getElem?_map] at hi
  obtain ⟨x,hx,rfl⟩:=Option.map_eq_some_iff.mp hi
  obtain ⟨p,hp,rfl⟩:=Option.map_eq_some_iff.mp hx
  have mp:p∈pins:=List.mem_of_getElem? hp
  have R4:=R.same s4
  obtain ⟨dx,pP,pW,pB,kP,kW,kB,F4,W4⟩:=R4.ex
  have mpn:p.nm∈(pins.map fun p=>(p.nm,ptQ p.sp)).map (·.1):=by rw [pins_nm];exact List.mem_map.mpr ⟨p,mp,rfl⟩
  refine ⟨_,rfl,a,C,dx,_,_,_,rfl,F4.obj,rfl,MW,_,rfl,a,dx,pP,pW,pB,_,_,kP,kW,kB,_,p.nm,p.ws,rfl,F4,W4,nw_of g.np,List.mem_map.mpr ⟨p,mp,rfl⟩,mpn,fun m us H5 s5 n5 e5 p5=> ?_⟩
  have lu:us.length=p.ws.length:=Paired.length p5
  have s05:=s4.trans s5
  have mr:m≠r:=fun z=>by rw [z,RR.mat.1] at n5;cases n5
  refine ⟨m,rfl,⟨_,SqL.of e5⟩,for_list (K:=K) (a:=m) (xs:=us) (fun j σ H' =>∃(o3:Option V) (ls:List Addr) (vss:List (List V)),σ=[some (.ref a),some (.ref r),some (.str p.nm),o3,none,none]∧Same H H' ∧H' lp=some (.lst ((pins.map (·.nm)).map V.str))∧H' m=some (.lst us)∧PtsR K H' us p.ws∧RowsR K H' r ls vss (((pins.take i).flatMap fun p=>wayQ pins p)++(p.ws.take j).map fun w=>rowQ (oneF p.nm w) pins)) ⟨o3,ls,vss,rfl,s05,s5 _ _ l4,e5,p5,by simpa using RR.same s5⟩ (fun j σ H' _ h=>by
    obtain ⟨_,_,_,_,_,_,h,_⟩:=h
    exact SqL.of h) ?_ ?_⟩
  ·rintro j u σ H6 hu ⟨o3,ls,vss,rfl,s6,l6,e6,p6,RR6⟩
   obtain ⟨w,ew,hw⟩:=paired_get p6 hu
   have jl:=(List.getElem?_eq_some_iff.mp hu).1
   refine ⟨_,rfl,.inl ⟨rfl,_,SqL.of RR6.mat.1⟩,_,rfl,fun d nd=> ?_⟩
   have t1:=same_new nd (.dK [])
   have d1:(upd H6 d (.dK [])) d=some (.dK []):=upd_same
   generalize upd H6 d (.dK [])=H7 at t1 d1 ⊢
   refine ⟨_,rfl,_,rfl,d1,[(.inr p.nm,u)],rfl,(by show 1≤15;decide),?_⟩
   rw [merge1]
   have st:SameT H7 (upd H7 d (.dK [(.inr p.nm,u)])):=.dict d1
   have d8:(upd H7 d (.dK [(.inr p.nm,u)])) d=some (.dK [(.inr p.nm,u)]):=upd_same
   have t8:Same H6 (upd H7 d (.dK [(.inr p.nm,u)])):=fun c o z=>by
    rw [upd_ne (ne_of_none z nd)]
    exact t1 _ _ z
   have hw8:=(hw.same t1).sameT st
   generalize upd H7 d (.dK [(.inr p.nm,u)])=H8 at d8 t8 hw8 ⊢
   have s8:=s6.trans t8
   refine ⟨a,d,pins,bars,_,oneF p.nm w,rfl,R.same s8,Nat.le_trans g.lp (by decide),d8,fun x=> ?_,fun l us' H9 t9 n9 e9 nm=> ?_⟩
   ·by_cases c1:x=p.nm
    ·subst c1
     exact .inr ⟨u,w,valV_pos rfl,by unfold oneF;rw [if_pos rfl],hw8⟩
    ·exact .inl ⟨by rw [valV_neg (fun z=>c1 (Sum.inr.inj z).symm)];rfl,by unfold oneF;rw [if_neg c1]⟩
   have t69:=t8.trans t9
   have RR9:=RR6.same t69
   have lr:l≠r:=fun z=>by rw [z,t8 _ _ RR6.mat.1] at n9;cases n9
   have lss:ls.length≤14:=by
    have h1:=RR6.mat.2.1
    have h2:=RR6.num.1
    rw [List.length_append,List.length_map,List.length_take,wayQ_len] at h2
    have h3:((pins.take i).flatMap fun p=>p.ws).length+p.ws.length≤(pins.flatMap fun p=>p.ws).length:=by
     have e:pins=pins.take i++p::pins.drop (i+1):=by
      have lt:=(List.getElem?_eq_some_iff.mp hp).1
      have e2:=(List.getElem?_eq_some_iff.mp hp).2
      rw [← e2,List.getElem_cons_drop,List.take_append_drop]
     have e3:=congrArg (fun l:List PinD=>(l.flatMap fun p=>p.ws).length) e
     simp only [List.flatMap_append,List.flatMap_cons,List.length_append] at e3
     omega
    omega
   refine ⟨r,_,_,rfl,rfl,RR9.mat.1,(by rw [List.length_map];omega),?_⟩
   have RN:=RR9.push e9 lr nm
   have tr:SameT H9 (upd H9 r (.lst (ls.map V.ref++[.ref l]))):=.list RR9.mat.1
   have kk:∀b o,b≠r→H6 b=some o→(upd H9 r (.lst (ls.map V.ref++[.ref l]))) b=some o:=fun b o n e=>by rw [upd_ne n];exact t69 _ _ e
   refine ⟨_,ls++[l],vss++[us'],rfl,fun b o e=> ?_,kk _ _ lne l6,kk _ _ mr e6,(p6.same t69).sameT tr,?_⟩
   ·exact kk _ _ (ne_of_none e nr) (s6 _ _ e)
   ·rw [take_snoc ew,List.map_append, ← List.append_assoc]
    exact RN
  ·rintro σ H6 ⟨o3,ls,vss,rfl,s6,l6,e6,p6,RR6⟩
   refine ⟨_,_,ls,vss,rfl,s6,l6,?_⟩
   rw [lu,List.take_length] at RR6
   rw [take_snoc hp,List.flatMap_append]
   simpa [wayQ] using RR6
 ·rintro σ H4 ⟨o2,o3,ls,vss,rfl,s4,l4,RR⟩
  rw [List.length_map,List.length_map,List.take_length] at RR
  have R4:=R.same s4
  obtain ⟨dx,pP,pW,pB,kP,kW,kB,F4,W4⟩:=R4.ex
  refine ⟨_,rfl,a,C,dx,_,_,_,rfl,F4.obj,rfl,MB,a,dx,pP,pW,pB,_,_,kP,kW,kB,rfl,F4,fun lb H5 s5 nlb elb=> ?_⟩
  rw [bars_nm] at elb
  have bne:lb≠r:=fun z=>by rw [z,RR.mat.1] at nlb;cases nlb
  refine ⟨lb,rfl,⟨_,SqL.of elb⟩,for_list (K:=K) (a:=lb) (xs:=(bars.map (·.nm)).map V.str) (fun i σ H' =>∃(o4 o5:Option V) (ls:List Addr) (vss:List (List V)),σ=[some (.ref a),some (.ref r),o2,o3,o4,o5]∧Same H H' ∧H' lb=some (.lst ((bars.map (·.nm)).map V.str))∧RowsR K H' r ls vss ((pins.flatMap fun p=>wayQ pins p)++(bars.take i).map fun b=>rowQ (barF b) pins)) ⟨none,none,ls,vss,rfl,s4.trans s5,elb,by simpa using RR.same s5⟩ (fun i σ H' _ h=>by
    obtain ⟨_,_,_,_,_,_,h,_⟩:=h
    exact SqL.of h) ?_ ?_⟩
  ·rintro i z σ H6 hi ⟨o4,o5,ls,vss,rfl,s6,l6,RR6⟩
   rw [List.getElem?_map,List.getElem?_map] at hi
   obtain ⟨x,hx,rfl⟩:=Option.map_eq_some_iff.mp hi
   obtain ⟨b,hb,rfl⟩:=Option.map_eq_some_iff.mp hx
   have mb:b∈bars:=List.mem_of_getElem? hb
   have il:=(List.getElem?_eq_some_iff.mp hb).1
   have R6:=R.same s6
   obtain ⟨dx,pP,pW,pB,kP,kW,kB,F6,W6⟩:=R6.ex
   refine ⟨_,rfl,a,C,dx,_,_,_,rfl,F6.obj,rfl,ME,_,rfl,a,dx,pP,pW,pB,_,_,kP,kW,kB,b.nm,b.one.nm,b.other.nm,rfl,F6,nb_of g.nb,List.mem_map.mpr ⟨b,mb,rfl⟩,fun p rd=> ?_⟩
   have tp:SqT K H6 p [.str b.one.nm,.str b.other.nm]:=.inl rd
   obtain ⟨m1,m2,m3⟩:=g.ends b mb
   refine ⟨_,rfl,.inl ⟨rfl,_,SqL.of RR6.mat.1⟩,_,rfl,_,rfl,p,_,_,_,rfl,rfl,tp,at0,_,rfl,p,_,_,_,rfl,rfl,tp,at1,?_⟩
   refine ⟨a,pins,bars,b,rfl,R6,g,m1,m2,m3,fun l us' H9 t9 n9 e9 nm=> ?_⟩
   have RR9:=RR6.same t9
   have lr:l≠r:=fun z=>by rw [z,RR6.mat.1] at n9;cases n9
   have lss:ls.length≤22:=by
    have h1:=RR6.mat.2.1
    have h2:=RR6.num.1
    rw [List.length_append,List.length_map,List.length_take,wayQ_len] at h2
    have:=g.lb
    omega
   refine ⟨r,_,_,rfl,rfl,RR9.mat.1,(by rw [List.length_map];omega),?_⟩
   have RN:=RR9.push e9 lr nm
   have kk:∀c o,c≠r→H6 c=some o→(upd H9 r (.lst (ls.map V.ref++[.ref l]))) c=some o:=fun c o n e=>by rw [upd_ne n];exact t9 _ _ e
   refine ⟨_,_,ls++[l],vss++[us'],rfl,fun c o e=>kk _ _ (ne_of_none e nr) (s6 _ _ e),kk _ _ bne l6,?_⟩
   rw [take_snoc hb,List.map_append, ← List.append_assoc]
   exact RN
  ·rintro σ H6 ⟨o4,o5,ls,vss,rfl,s6,l6,RR6⟩
   rw [List.length_map,List.length_map,List.take_length] at RR6
   exact ⟨_,rfl,q r ls vss H6 s6 nr RR6⟩
theorem cutV_mid {xs:List V}{i j:Nat}(h:i≤j)(hj:j≤xs.length):cutV xs (some (i:Int)) (some (j:Int))=(xs.drop i).take (j - i):=by
 unfold cutV
 rw [HT.sIx_nat,HT.sIx_nat,Nat.min_eq_left hj,Nat.min_eq_left (show i≤xs.length by omega)]
theorem paired_dropN {α β:Type}{R:α→β→Prop}:∀{l:List α} {m:List β} (n:Nat),Paired R l m→Paired R (l.drop n) (m.drop n)
 | _,_,0,h=>h
 | _,_,_+1,.nil=>.nil
 | _,_,n+1,.cons _ t=>paired_dropN n t
theorem paired_takeN {α β:Type}{R:α→β→Prop}:∀{l:List α} {m:List β} (n:Nat),Paired R l m→Paired R (l.take n) (m.take n)
 | _,_,0,_=>.nil
 | _,_,_+1,.nil=>.nil
 | _,_,n+1,.cons h t=>.cons h (paired_takeN n t)
theorem mergeK_nodup:∀(more kvs:List (Key×V)),((kvs++more).map (·.1)).Nodup→mergeK kvs more=kvs++more
 | [],kvs,_=>by simp [mergeK]
 | p::r,kvs,h=>by
  have e:mergeK kvs (p::r)=mergeK (putK kvs p.1 p.2) r:=rfl
  have hn:p.1∉kvs.map (·.1):=fun z=>by
   rw [List.map_append,List.map_cons,List.nodup_append] at h
   exact h.2.2 p.1 z p.1 List.mem_cons_self rfl
  rw [e,putK_new _ (valV_none hn),mergeK_nodup r (kvs++[(p.1,p.2)]) (by rw [List.append_assoc];exact h),List.append_assoc]
  rfl
theorem zip_val {R:V→Rat→Prop}:∀{bars:List BarD} {ys:List V} {rs:List Rat},(bars.map (·.nm)).Nodup→bars.length=rs.length→Paired R ys rs→
  ∃T:Str→Rat,bars.map (fun b=>T b.nm)=rs∧(((bars.map fun b=>(Sum.inr b.nm:Key)).zip ys).map (·.1))=bars.map (fun b=>(Sum.inr b.nm:Key))∧∀b∈bars,∃v,valV ((bars.map fun b=>(Sum.inr b.nm:Key)).zip ys) (.inr b.nm)=some v∧R v (T b.nm)
 | [],_,[],_,_,.nil=>⟨fun _=>0,rfl,rfl,by simp⟩
 | _::_,[],_,_,hl,.nil=>by simp at hl
 | b::bs,y::ys,r::rs,nd,hl,.cons h t=>by
  rw [List.map_cons,List.nodup_cons] at nd
  obtain ⟨T,h1,h2,h3⟩:=zip_val nd.2 (by simpa using hl) t
  have ne:∀c∈bs,c.nm≠b.nm:=fun c hc z=>nd.1 (z▸List.mem_map.mpr ⟨c,hc,rfl⟩)
  obtain ⟨T',t1,t2⟩:∃T' :Str→Rat,T' b.nm=r∧∀x,x≠b.nm→T' x=T x:=⟨fun x=>if x=b.nm then r else T x,if_pos rfl,fun x h=>if_neg h⟩
  refine ⟨T',?_,?_,fun c hc=> ?_⟩
  ·have em:bs.map (fun c=>T' c.nm)=rs:=by
    rw [← h1]
    exact List.map_congr_left fun c hc=>t2 _ (ne c hc)
   rw [List.map_cons,t1,em]
  ·rw [List.map_cons,List.zip_cons_cons,List.map_cons,h2]
  ·rw [List.map_cons,List.zip_cons_cons]
   rcases List.mem_cons.mp hc with e | hc
   ·subst e
    exact ⟨y,valV_pos rfl,by rw [t1];exact h⟩
   ·obtain ⟨v,e1,e2⟩:=h3 c hc
    refine ⟨v,?_,by rw [t2 _ (ne c hc)];exact e2⟩
    rw [valV_neg (fun z=>ne c hc (Sum.inr.inj z).symm)]
    exact e1
def waysN (pins:List PinD):Nat:=(pins.flatMap fun p=>p.ws).length
theorem waysN_snoc (ps:List PinD)(p:PinD):waysN (ps++[p])=waysN ps+p.ws.length:=by
 unfold waysN
 rw [List.flatMap_append,List.length_append]
 simp
theorem waysN_take {pins:List PinD}{i:Nat}{p:PinD}(h:pins[i]? =some p):waysN (pins.take i)+p.ws.length≤waysN pins:=by
 have e:pins=pins.take i++p::pins.drop (i+1):=by
  have lt:=(List.getElem?_eq_some_iff.mp h).1
  have e2:=(List.getElem?_eq_some_iff.mp h).2
  rw [← e2,List.getElem_cons_drop,List.take_append_drop]
 have e3:=congrArg (fun l:List PinD=>(l.flatMap fun p=>p.ws).length) e
 simp only [List.flatMap_append,List.flatMap_cons,List.length_append] at e3
 unfold waysN
 omega
structure PPR (K:Frag)(H H' :Hp)(pins:List PinD)(bars:List BarD)(dT dU:Addr)(kT kU:List (Key×V))(T:Str→Rat)(U:Str→List Rat)(L:Str→Addr):Prop where
 nT:H dT=none
 nU:H dU=none
 ne:dT≠dU
 hT:H' dT=some (.dK kT)
 hU:H' dU=some (.dK kU)
 keyT:kT.map (·.1)=bars.map (fun b=>(Sum.inr b.nm:Key))
 keyU:kU.map (·.1)=pins.map (fun p=>(Sum.inr p.nm:Key))
 tT:∀b∈bars,∃v,valV kT (.inr b.nm)=some v∧NmR K H' v (T b.nm)
 tU:∀p∈pins,∃vs,valV kU (.inr p.nm)=some (.ref (L p.nm))∧H (L p.nm)=none∧H' (L p.nm)=some (.lst vs)∧Paired (NmR K H') vs (U p.nm)
 lU:∀p∈pins,(U p.nm).length=p.ws.length
 inj:∀p∈pins,∀q∈pins,L p.nm=L q.nm→p.nm=q.nm
inductive spPP (K:Frag)(C:Addr)(vs:List V)(H:Hp)(Q:VK)(E_:XK):Prop where
 | mk (a nl:Addr) (pins:List PinD) (bars:List BarD) (us:List V) (rs:List Rat) (_:vs=[.ref a,.ref nl]) (_:FrA K H C a pins bars) (_:GoodF pins bars) (_:H nl=some (.lst us)) (_:Paired (NmR K H) us rs) (_:rs.length=waysN pins+bars.length) (_:∀(T:Str→Rat) (U:Str→List Rat) (L:Str→Addr) (p dT dU:Addr) (kT kU:List (Key×V)) (H' :Hp),Same H H' →rs=(pins.flatMap fun p=>U p.nm)++bars.map (fun b=>T b.nm)→H' p=some (.tup [.ref dT,.ref dU])→PPR K H H' pins bars dT dU kT kU T U L→Q (.ref p) H'):spPP K C vs H Q E_
theorem flat_congr {ps:List PinD}{U W:Str→List Rat}(h:∀p∈ps,U p.nm=W p.nm):(ps.flatMap fun p=>U p.nm)=ps.flatMap fun p=>W p.nm:=by
 induction ps with
 | nil=>rfl
 | cons p ps ih=>
  rw [List.flatMap_cons,List.flatMap_cons,h p List.mem_cons_self,ih fun q hq=>h q (List.mem_cons_of_mem _ hq)]
theorem sc_a2:FnScope ["F","numbers","pushes","at","pin","behind","pulls"] ["F","numbers"] (defScope s_a2):=sq
theorem ok_a2 {C:Addr}(D:Def K mg "pulls_and_pushes" s_a2 ["F","numbers"])(m_len:mg "len"=none)(m_dict:mg "dict"=none)(m_zip:mg "zip"=none)(MP:MtdOk P w K mg base (CXr P w) 1 C "pins" ["self"] (spPins K C))(MW:MtdOk P w K mg base (CXr P w) 2 C "ways" ["self","pin"] (spWays K C))(MB:MtdOk P w K mg base (CXr P w) 1 C "bars" ["self"] (spBars K C)):
  Fn P w K mg base (CXr P w) 3 "pulls_and_pushes" ["F","numbers"] (spPP K C):=by
 refine D.ok sc_a2 (fun vs H Q E h=> ?_) (fun f cdv A outer s H vs Q E hr h=> ?_)
 ·obtain ⟨a,nl,pins,bars,us,rs,rfl,_⟩:=h
  rfl
 obtain ⟨a,nl,pins,bars,us,rs,rfl,R,g,hn,hu,hl,q⟩:=h
 have lu:us.length=rs.length:=Paired.length hu
 have wl:waysN pins≤2*pins.length:=ways_len pins g.lw
 have gl:=g.lp
 have gb:=g.lb
 refine ⟨_,(pss_cons (ps_set (i:=2) sc_a2.nd rfl (Or.inl rfl) pe_dnewK)
  (pss_cons (ps_set (i:=3) sc_a2.nd rfl (Or.inl rfl) pe_int)
  (pss_cons (ps_for PassesOwn.never rfl (pi_list (pe_mtd0 (k:=1) (pv 0) hr.mo (pY P w))) (pg_name (i:=4) sc_a2.nd rfl (Or.inl rfl)) (pss_cons (ps_set (i:=5) sc_a2.nd rfl (Or.inl rfl) (pe_op op_add (pv 3) (pe_callB call_len_seq rfl m_len b_len (pac (pe_mtd (k:=2) (pv 0) hr.mo (pY P w) (pac (pv 4) pa_nil)) pa_nil))))
   (pss_cons (ps_dput (hu_of hr) (pv 2) (pv 4) (pe_slice sl_list (pv 1) (po_some (pv 3)) (po_some (pv 5))) rfl)
   (pss_one (ps_set (i:=3) sc_a2.nd rfl (Or.inl rfl) (pv 5))))))
  (pss_cons (ps_set (i:=6) sc_a2.nd rfl (Or.inl rfl) (pe_dictZ rfl rfl m_dict rfl m_zip (pac (pe_mtd0 (k:=1) (pv 0) hr.mo (pY P w)) (pac (pe_slice sl_list (pv 1) (po_some (pv 3)) po_none) pa_nil))))
  (pss_one (ps_ret (pe_tup (pac (pv 6) (pac (pv 2) pa_nil))))))))),?_⟩
 intro dU nU
 have s1:=same_new nU (.dK [])
 have e1:(upd H dU (.dK [])) dU=some (.dK []):=upd_same
 generalize upd H dU (.dK [])=H1 at s1 e1 ⊢
 have R1:=R.same s1
 obtain ⟨dx,pP,pW,pB,kP,kW,kB,F1,W1⟩:=R1.ex
 refine ⟨_,rfl,a,C,dx,_,_,_,rfl,F1.obj,rfl,MP,a,dx,pP,pW,pB,_,_,kP,kW,kB,rfl,F1,fun lp H2 s2 nlp elp=> ?_⟩
 rw [pins_nm] at elp
 have s02:=s1.trans s2
 have lne:lp≠dU:=fun z=>by rw [z,e1] at nlp;cases nlp
 refine ⟨lp,rfl,⟨_,SqL.of elp⟩,for_list (K:=K) (a:=lp) (xs:=(pins.map (·.nm)).map V.str) (fun i σ H' =>∃(o4 o5:Option V) (kU:List (Key×V)) (U:Str→List Rat) (L:Str→Addr),σ=[some (.ref a),some (.ref nl),some (.ref dU),some (.int (waysN (pins.take i):Int)),o4,o5,none]∧Same H H' ∧H' lp=some (.lst ((pins.map (·.nm)).map V.str))∧H' dU=some (.dK kU)∧kU.map (·.1)=(pins.take i).map (fun p=>(Sum.inr p.nm:Key))∧((pins.take i).flatMap fun p=>U p.nm)=rs.take (waysN (pins.take i))∧
   (∀p∈pins.take i,∃vs,valV kU (.inr p.nm)=some (.ref (L p.nm))∧H (L p.nm)=none∧H' (L p.nm)=some (.lst vs)∧Paired (NmR K H') vs (U p.nm))∧(∀p∈pins.take i,(U p.nm).length=p.ws.length)∧(∀p∈pins.take i,∀q∈pins.take i,L p.nm=L q.nm→p.nm=q.nm))
   ⟨none,none,[],fun _=>[],fun _=>0,rfl,s02,elp,s2 _ _ e1,rfl,rfl,by simp,by simp,by simp⟩ (fun i σ H' _ h=>by
   obtain ⟨_,_,_,_,_,_,_,h,_⟩:=h
   exact SqL.of h) ?_ ?_⟩
 ·rintro i z σ H4 hi ⟨o4,o5,kU,U,L,rfl,s4,l4,e4,ks,fl,tU,lU,inj⟩
  rw [List.getElem?_map,List.getElem?_map] at hi
  obtain ⟨x,hx,rfl⟩:=Option.map_eq_some_iff.mp hi
  obtain ⟨p,hp,rfl⟩:=Option.map_eq_some_iff.mp hx
  have mp:p∈pins:=List.mem_of_getElem? hp
  have il:i < pins.length:=(List.getElem?_eq_some_iff.mp hp).1
  have R4:=R.same s4
  obtain ⟨dx,pP,pW,pB,kP,kW,kB,F4,W4⟩:=R4.ex
  have mpn:p.nm∈(pins.map fun p=>(p.nm,ptQ p.sp)).map (·.1):=by rw [pins_nm];exact List.mem_map.mpr ⟨p,mp,rfl⟩
  refine ⟨_,rfl,_,rfl,a,C,dx,_,_,_,rfl,F4.obj,rfl,MW,_,rfl,a,dx,pP,pW,pB,_,_,kP,kW,kB,_,p.nm,p.ws,rfl,F4,W4,nw_of g.np,List.mem_map.mpr ⟨p,mp,rfl⟩,mpn,fun m vs H5 s5 n5 e5 p5=> ?_⟩
  have lv:vs.length=p.ws.length:=Paired.length p5
  refine ⟨m,_,rfl,.inl (SqL.of e5),_,_,rfl,rfl,?_⟩
  have tk:=take_snoc hp
  have wn:waysN (pins.take (i+1))=waysN (pins.take i)+p.ws.length:=by rw [tk,waysN_snoc]
  have wt:=waysN_take hp
  have eb:(waysN (pins.take i):Int)+((vs.length:Nat):Int)=((waysN (pins.take (i+1)):Nat):Int):=by rw [wn,lv];omega
  have s45:=s4.trans s5
  have hn5:=s45 _ _ hn
  dsimp only
  rw [eb]
  refine ⟨_,rfl,_,rfl,_,rfl,_,rfl,_,rfl,nl,_,rfl,SqL.of hn5,?_⟩
  rw [cutV_mid (by omega) (by omega)]
  intro m2 n6;generalize eX:upd _ m2 _=H6;have ⟨s6,e6⟩:=nw n6 eX;clear eX
  have e46:=s6 _ _ (s5 _ _ e4)
  have lk:kU.length≤7:=by
   have z:=congrArg List.length ks
   rw [List.length_map,List.length_map,List.length_take] at z
   omega
  refine ⟨_,rfl,_,rfl,dU,_,rfl,DPut.k (k:=.inr p.nm) e46 (Nat.lt_of_le_of_lt (show kU.length≤1000 by omega) (by decide)),?_⟩
  have fresh:(Sum.inr p.nm:Key)∉kU.map (·.1):=by
   rw [ks]
   intro z
   obtain ⟨b',hb',eb'⟩:=List.mem_map.mp z
   exact take_new (nm:=PinD.nm) g.np hp hb' (Sum.inr.inj eb')
  have pk:putK kU (.inr p.nm) (.ref m2)=kU++[(.inr p.nm,.ref m2)]:=putK_new _ (valV_none fresh)
  have t6:SameT H6 (upd H6 dU (.dK (putK kU (.inr p.nm) (.ref m2)))):=.dict e46
  have s46:=s5.trans s6
  have md:m2≠dU:=fun z=>by rw [z,s5 _ _ e4] at n6;cases n6
  have kk:∀b o,b≠dU→H4 b=some o→(upd H6 dU (.dK (putK kU (.inr p.nm) (.ref m2)))) b=some o:=fun b o n e=>by rw [upd_ne n];exact s46 _ _ e
  have ne:∀p' ∈pins.take i,p'.nm≠p.nm:=fun p' hp' =>take_new (nm:=PinD.nm) g.np hp hp'
  have cases' :∀p' ∈pins.take (i+1),p' ∈pins.take i∨p' =p:=fun p' hp' =>by
   rw [tk] at hp'
   rcases List.mem_append.mp hp' with h | h
   ·exact .inl h
   ·exact .inr (List.mem_singleton.mp h)
  have hold:∀p' ∈pins.take i,∃o,H4 (L p'.nm)=some o:=fun p' hp' =>by
   obtain ⟨vs,_,_,h,_⟩:=tU p' hp'
   exact ⟨_,h⟩
  obtain ⟨U',hU1,hU2⟩:∃U' :Str→List Rat,U' p.nm=(rs.drop (waysN (pins.take i))).take p.ws.length∧∀x,x≠p.nm→U' x=U x:=⟨fun x=>if x=p.nm then (rs.drop (waysN (pins.take i))).take p.ws.length else U x,if_pos rfl,fun x h=>if_neg h⟩
  obtain ⟨L',hL1,hL2⟩:∃L' :Str→Addr,L' p.nm=m2∧∀x,x≠p.nm→L' x=L x:=⟨fun x=>if x=p.nm then m2 else L x,if_pos rfl,fun x h=>if_neg h⟩
  refine ⟨_,rfl,_,_,putK kU (.inr p.nm) (.ref m2),U',L',rfl,fun b o e=> ?_,kk _ _ lne l4,upd_same,?_,?_,fun p' hp' => ?_,fun p' hp' => ?_,fun p' hp' q' hq' => ?_⟩
  ·rw [upd_ne (ne_of_none e nU)]
   exact s46 _ _ (s4 _ _ e)
  ·rw [pk,List.map_append,ks,tk,List.map_append]
   rfl
  ·rw [tk,List.flatMap_append,waysN_snoc]
   rw [flat_congr (U:=U') (W:=U) fun p' hp' =>hU2 _ (ne p' hp'),fl]
   simp only [List.flatMap_cons,List.flatMap_nil,List.append_nil,hU1]
   rw [List.take_add]
  ·rw [valV_put]
   rcases cases' p' hp' with h | h
   ·rw [if_neg (fun z=>ne p' h (Sum.inr.inj z)),hL2 _ (ne p' h),hU2 _ (ne p' h)]
    obtain ⟨vs',h1,h2,h3,h4⟩:=tU p' h
    exact ⟨vs',h1,h2,kk _ _ (fun z=>by rw [z,e4] at h3;cases h3) h3,Paired.mapP h4 fun _ _ z=>(z.same s46).sameT t6⟩
   ·subst h
    rw [if_pos rfl,hL1,hU1]
    refine ⟨_,rfl,(s4.trans s5).free n6,by rw [upd_ne md];exact e6,?_⟩
    have a1:=paired_takeN (waysN (pins.take (i+1)) - waysN (pins.take i)) (paired_dropN (waysN (pins.take i)) hu)
    have a2:waysN (pins.take (i+1)) - waysN (pins.take i)=p'.ws.length:=by omega
    rw [a2] at a1 ⊢
    exact Paired.mapP a1 fun _ _ z=>((z.same s4).same s46).sameT t6
  ·rcases cases' p' hp' with h | h
   ·rw [hU2 _ (ne p' h)]
    exact lU p' h
   ·subst h
    rw [hU1,List.length_take,List.length_drop]
    omega
  ·rcases cases' p' hp' with h | h <;> rcases cases' q' hq' with h' | h'
   ·rw [hL2 _ (ne p' h),hL2 _ (ne q' h')]
    exact inj p' h q' h'
   ·subst h'
    rw [hL2 _ (ne p' h),hL1]
    intro z
    obtain ⟨o,ho⟩:=hold p' h
    rw [z,s5.free n6] at ho
    cases ho
   ·subst h
    rw [hL2 _ (ne q' h'),hL1]
    intro z
    obtain ⟨o,ho⟩:=hold q' h'
    rw [← z,s5.free n6] at ho
    cases ho
   ·intro _
    rw [h,h']
 ·rintro σ H4 ⟨o4,o5,kU,U,L,rfl,s4,l4,e4,ks,fl,tU,lU,inj⟩
  rw [List.length_map,List.length_map,List.take_length] at ks fl tU lU inj
  have R4:=R.same s4
  obtain ⟨dx,pP,pW,pB,kP,kW,kB,F4,W4⟩:=R4.ex
  refine ⟨_,rfl,a,C,dx,_,_,_,rfl,F4.obj,rfl,MB,a,dx,pP,pW,pB,_,_,kP,kW,kB,rfl,F4,fun lb H5 s5 nlb elb=> ?_⟩
  rw [bars_nm] at elb
  have s45:=s4.trans s5
  refine ⟨_,rfl,_,rfl,_,rfl,nl,_,rfl,SqL.of (s45 _ _ hn),?_⟩
  have hw:waysN pins≤us.length:=by omega
  rw [List.length_map,List.length_map,List.take_length,cutV_from hw]
  intro m2 n6;generalize eX:upd _ m2 _=H6;have ⟨s6,e6⟩:=nw n6 eX;clear eX
  have hp6:Paired (NmR K H6) (us.drop (waysN pins)) (rs.drop (waysN pins)):=Paired.mapP (paired_dropN (waysN pins) hu) fun _ _ z=>(z.same s45).same s6
  obtain ⟨T,h1,h2,h3⟩:=zip_val (R:=NmR K H6) g.nb (by rw [List.length_drop];omega) hp6
  have eks:(bars.map (·.nm)).map V.str=(bars.map fun b=>(Sum.inr b.nm:Key)).map kV:=by
   rw [List.map_map,List.map_map]
   rfl
  rw [eks] at elb
  refine ⟨lb,m2,bars.map fun b=>(Sum.inr b.nm:Key),us.drop (waysN pins),rfl,s6 _ _ elb,e6,by rw [List.length_map];omega,fun dT H7 s7 n7 e7=> ?_⟩
  have ndk:(bars.map fun b=>(Sum.inr b.nm:Key)).Nodup:=by
   have:=nodup_inr g.nb
   rw [List.map_map] at this
   exact this
  rw [mergeK_nodup _ [] (by rw [List.nil_append,h2];exact ndk),List.nil_append] at e7
  refine ⟨_,rfl,_,rfl,(by show 2≤sizeLine;decide),?_⟩
  intro pt n8;generalize eX:upd _ pt _=H8;have ⟨s8,e8⟩:=nw n8 eX;clear eX
  have s58:=(s5.trans s6).trans (s7.trans s8)
  have s08:=s4.trans s58
  have er:rs=(pins.flatMap fun p=>U p.nm)++bars.map (fun b=>T b.nm):=by rw [fl,h1,List.take_append_drop]
  refine q T U L pt dT dU _ kU H8 s08 er e8 ⟨(s45.trans s6).free n7,nU,(fun z=>by rw [z,s6 _ _ (s5 _ _ e4)] at n7;cases n7),s8 _ _ e7,s58 _ _ e4,h2,ks,fun b hb=> ?_,fun p hp=> ?_,lU,inj⟩
  ·obtain ⟨v,e1,e2⟩:=h3 b hb
   exact ⟨v,e1,(e2.same s7).same s8⟩
  ·obtain ⟨vs',a1,a2,a3,a4⟩:=tU p hp
   exact ⟨vs',a1,a2,s58 _ _ a3,Paired.mapP a4 fun _ _ z=>z.same s58⟩
inductive spMotion (K:Frag)(C:Addr)(vs:List V)(H:Hp)(Q:VK)(E_:XK):Prop where
 | mk (a nl:Addr) (pins:List PinD) (bars:List BarD) (us:List V) (rs:List Rat) (_:vs=[.ref a,.ref nl]) (_:FrA K H C a pins bars) (_:GoodF pins bars) (_:H nl=some (.lst us)) (_:Paired (NmR K H) us rs) (_:rs.length=2*pins.length) (_:∀(M:Str→Rat×Rat) (d:Addr) (kM:List (Key×V)) (H' :Hp),Same H H' →rs=(pins.flatMap fun p=>[(M p.nm).1,(M p.nm).2])→H d=none→H' d=some (.dK kM)→kM.map (·.1)=pins.map (fun p=>(Sum.inr p.nm:Key))→(∀p∈pins,∃t v1 v2,valV kM (.inr p.nm)=some (.ref t)∧H' t=some (.tup [v1,v2])∧NmR K H' v1 (M p.nm).1∧NmR K H' v2 (M p.nm).2)→Q (.ref d) H'):spMotion K C vs H Q E_
theorem flat2_congr {ps:List PinD}{U W:Str→Rat×Rat}(h:∀p∈ps,U p.nm=W p.nm):(ps.flatMap fun p=>[(U p.nm).1,(U p.nm).2])=ps.flatMap fun p=>[(W p.nm).1,(W p.nm).2]:=by
 induction ps with
 | nil=>rfl
 | cons p ps ih=>
  rw [List.flatMap_cons,List.flatMap_cons,h p List.mem_cons_self,ih fun q hq=>h q (List.mem_cons_of_mem _ hq)]
theorem sc_ag:FnScope ["F","numbers","motion","at","pin"] ["F","numbers"] (defScope s_ag):=sq
theorem ok_ag {C:Addr}(D:Def K mg "motion_from" s_ag ["F","numbers"])(m_enumerate:mg "enumerate"=none)(MP:MtdOk P w K mg base (CXr P w) 1 C "pins" ["self"] (spPins K C)):
  Fn P w K mg base (CXr P w) 2 "motion_from" ["F","numbers"] (spMotion K C):=by
 refine D.ok sc_ag (fun vs H Q E h=> ?_) (fun f cdv A outer s H vs Q E hr h=> ?_)
 ·obtain ⟨a,nl,pins,bars,us,rs,rfl,_⟩:=h
  rfl
 obtain ⟨a,nl,pins,bars,us,rs,rfl,R,g,hn,hu,hl,q⟩:=h
 have lu:us.length=rs.length:=Paired.length hu
 have gl:=g.lp
 refine ⟨_,(pss_cons (ps_set (i:=2) sc_ag.nd rfl (Or.inl rfl) pe_dnewK)
  (pss_cons (ps_for PassesOwn.never rfl (pi_enum rfl m_enumerate (pac (pe_mtd0 (k:=1) (pv 0) hr.mo (pY P w)) pa_nil)) (pg_tup rfl (pgs_cons (pg_name (i:=3) sc_ag.nd rfl (Or.inl rfl)) (pgs_cons (pg_name (i:=4) sc_ag.nd rfl (Or.inl rfl)) pgs_nil))) (pss_one (ps_dput (hu_of hr) (pv 2) (pv 4) (pe_tup (pac (pe_ix ix_list (pv 1) (pe_op op_mulB pe_int (pv 3)) (fun _ _=>rfl)) (pac (pe_ix ix_list (pv 1) (pe_op op_add (pe_op op_mulB pe_int (pv 3)) pe_int) (fun _ _=>rfl)) pa_nil))) rfl)))
  (pss_one (ps_ret (pv 2))))),?_⟩
 intro d nd
 have s1:=same_new nd (.dK [])
 have e1:(upd H d (.dK [])) d=some (.dK []):=upd_same
 generalize upd H d (.dK [])=H1 at s1 e1 ⊢
 have R1:=R.same s1
 obtain ⟨dx,pP,pW,pB,kP,kW,kB,F1,W1⟩:=R1.ex
 refine ⟨_,rfl,a,C,dx,_,_,_,rfl,F1.obj,rfl,MP,a,dx,pP,pW,pB,_,_,kP,kW,kB,rfl,F1,fun lp H2 s2 nlp elp=> ?_⟩
 rw [pins_nm] at elp
 have s02:=s1.trans s2
 have lne:lp≠d:=fun z=>by rw [z,e1] at nlp;cases nlp
 refine ⟨lp,rfl,⟨_,SqL.of elp⟩,for_enum (K:=K) (a:=lp) (xs:=(pins.map (·.nm)).map V.str) (fun i σ H' =>∃(o3 o4:Option V) (kM:List (Key×V)) (M:Str→Rat×Rat),σ=[some (.ref a),some (.ref nl),some (.ref d),o3,o4]∧Same H H' ∧H' lp=some (.lst ((pins.map (·.nm)).map V.str))∧H' d=some (.dK kM)∧kM.map (·.1)=(pins.take i).map (fun p=>(Sum.inr p.nm:Key))∧((pins.take i).flatMap fun p=>[(M p.nm).1,(M p.nm).2])=rs.take (2*i)∧
   (∀p∈pins.take i,∃t v1 v2,valV kM (.inr p.nm)=some (.ref t)∧H' t=some (.tup [v1,v2])∧NmR K H' v1 (M p.nm).1∧NmR K H' v2 (M p.nm).2))
   ⟨none,none,[],fun _=>(0,0),rfl,s02,elp,s2 _ _ e1,rfl,rfl,by simp⟩ (fun i σ H' _ h=>by
   obtain ⟨_,_,_,_,_,_,h,_⟩:=h
   exact SqL.of h) ?_ ?_⟩
 ·rintro i z σ H4 p9 hi ⟨o3,o4,kM,M,rfl,s4,l4,e4,ks,fl,tM⟩ n9
  rw [List.getElem?_map,List.getElem?_map] at hi
  obtain ⟨x,hx,rfl⟩:=Option.map_eq_some_iff.mp hi
  obtain ⟨p,hp,rfl⟩:=Option.map_eq_some_iff.mp hx
  have il:i < pins.length:=(List.getElem?_eq_some_iff.mp hp).1
  have t9:=same_new n9 (.tup [.int (i:Int),.str p.nm])
  have e9:(upd H4 p9 (.tup [.int (i:Int),.str p.nm])) p9=some (.tup [.int (i:Int),.str p.nm]):=upd_same
  generalize upd H4 p9 (.tup [.int (i:Int),.str p.nm])=H5 at t9 e9 ⊢
  refine ⟨p9,_,rfl,SqT.of e9,rfl,_,_,rfl,_,_,rfl,rfl,?_⟩
  have s45:=s4.trans t9
  have hn5:=s45 _ _ hn
  have l1:2*i < us.length:=by omega
  have l2:2*i+1 < us.length:=by omega
  have c2:CMulB 2 (i:Int):=⟨by decide+kernel,Nat.le_trans (intBits_le_64 (by omega) (by omega)) (by decide)⟩
  have a1:atI us (2*(i:Int))=some us[2*i]:=by
   have:=atI_nat (xs:=us) (j:=2*i) (gE l1)
   rw [show ((2*i:Nat):Int)=2*(i:Int) by omega] at this
   exact this
  have a2:atI us (2*(i:Int)+1)=some us[2*i+1]:=by
   have:=atI_nat (xs:=us) (j:=2*i+1) (gE l2)
   rw [show ((2*i+1:Nat):Int)=2*(i:Int)+1 by omega] at this
   exact this
  refine ⟨_,rfl,_,rfl,_,_,rfl,rfl,c2,nl,_,_,_,rfl,rfl,SqL.of hn5,a1,?_⟩
  refine ⟨_,rfl,_,rfl,_,_,rfl,rfl,c2,_,_,rfl,rfl,nl,_,_,_,rfl,rfl,SqL.of hn5,a2,(by show 2≤sizeLine;decide),?_⟩
  intro t n6;generalize eX:upd _ t _=H6;have ⟨s6,e6⟩:=nw n6 eX;clear eX
  have e46:=s6 _ _ (t9 _ _ e4)
  have lk:kM.length≤7:=by
   have z:=congrArg List.length ks
   rw [List.length_map,List.length_map,List.length_take] at z
   omega
  refine ⟨_,rfl,_,rfl,d,_,rfl,DPut.k (k:=.inr p.nm) e46 (Nat.lt_of_le_of_lt (show kM.length≤1000 by omega) (by decide)),?_⟩
  have fresh:(Sum.inr p.nm:Key)∉kM.map (·.1):=by
   rw [ks]
   intro z
   obtain ⟨b',hb',eb'⟩:=List.mem_map.mp z
   exact take_new (nm:=PinD.nm) g.np hp hb' (Sum.inr.inj eb')
  have pk:putK kM (.inr p.nm) (.ref t)=kM++[(.inr p.nm,.ref t)]:=putK_new _ (valV_none fresh)
  have t6:SameT H6 (upd H6 d (.dK (putK kM (.inr p.nm) (.ref t)))):=.dict e46
  have s46:=t9.trans s6
  have td:t≠d:=fun z=>by rw [z,t9 _ _ e4] at n6;cases n6
  have kk:∀b o,b≠d→H4 b=some o→(upd H6 d (.dK (putK kM (.inr p.nm) (.ref t)))) b=some o:=fun b o n e=>by rw [upd_ne n];exact s46 _ _ e
  have ne:∀p' ∈pins.take i,p'.nm≠p.nm:=fun p' hp' =>take_new (nm:=PinD.nm) g.np hp hp'
  have tk:=take_snoc hp
  obtain ⟨r1,er1,hr1⟩:=paired_get hu (gE l1)
  obtain ⟨r2,er2,hr2⟩:=paired_get hu (gE l2)
  obtain ⟨M',hM1,hM2⟩:∃M' :Str→Rat×Rat,M' p.nm=(r1,r2)∧∀x,x≠p.nm→M' x=M x:=⟨fun x=>if x=p.nm then (r1,r2) else M x,if_pos rfl,fun x h=>if_neg h⟩
  refine ⟨_,_,putK kM (.inr p.nm) (.ref t),M',rfl,fun b o e=> ?_,kk _ _ lne l4,upd_same,?_,?_,fun p' hp' => ?_⟩
  ·rw [upd_ne (ne_of_none e nd)]
   exact s46 _ _ (s4 _ _ e)
  ·rw [pk,List.map_append,ks,tk,List.map_append]
   rfl
  ·rw [tk,List.flatMap_append,flat2_congr (U:=M') (W:=M) fun p' hp' =>hM2 _ (ne p' hp'),fl]
   simp only [List.flatMap_cons,List.flatMap_nil,List.append_nil,hM1]
   rw [show 2*(i+1)=2*i+1+1 by omega,List.take_add_one,List.take_add_one,er1,er2]
   simp
  ·rw [valV_put]
   rw [tk] at hp'
   rcases List.mem_append.mp hp' with h | h
   ·rw [if_neg (fun z=>ne p' h (Sum.inr.inj z)),hM2 _ (ne p' h)]
    obtain ⟨t',v1,v2,h1,h2,h3,h4⟩:=tM p' h
    exact ⟨t',v1,v2,h1,kk _ _ (fun z=>by rw [z,e4] at h2;cases h2) h2,(h3.same s46).sameT t6,(h4.same s46).sameT t6⟩
   ·rw [List.mem_singleton.mp h,if_pos rfl,hM1]
    exact ⟨t,_,_,rfl,by rw [upd_ne td];exact e6,((hr1.same s45).same s6).sameT t6,((hr2.same s45).same s6).sameT t6⟩
 ·rintro σ H4 ⟨o3,o4,kM,M,rfl,s4,l4,e4,ks,fl,tM⟩
  rw [List.length_map,List.length_map] at ks fl tM
  rw [List.take_length] at ks fl tM
  rw [← hl,List.take_length] at fl
  exact ⟨_,rfl,q M d kM H4 s4 fl.symm nd e4 ks tM⟩
def dt (a b:Rat×Rat):Rat:=a.1*b.1+a.2*b.2
def sP (as bs:List Rat):Rat:=(List.zipWith (·*·) as bs).sum
theorem sP_nil (bs:List Rat):sP [] bs=0:=by simp [sP]
theorem sP_cons (a b:Rat)(as bs:List Rat):sP (a::as) (b::bs)=a*b+sP as bs:=by simp [sP]
theorem sP_app:∀{a c:List Rat} (b d:List Rat),a.length=c.length→sP (a++b) (c++d)=sP a c+sP b d
 | [],[],b,d,_=>by
  rw [List.nil_append,List.nil_append,sP_nil]
  grind
 | x::a,y::c,b,d,h=>by
  rw [List.cons_append,List.cons_append,sP_cons,sP_cons,sP_app b d (by simpa using h)]
  grind
 | [],_::_,_,_,h=>by simp at h
 | _::_,[],_,_,h=>by simp at h
theorem dotQ_sP:∀(ys cs:List (Int×Int)),dotQ ys cs=sP (ys.map vl) (cs.map vl)
 | [],_=>by simp [dotQ,sP]
 | _::_,[]=>by simp [dotQ,sP]
 | y::ys,c::cs=>by rw [dotQ_cons,List.map_cons,List.map_cons,sP_cons,dotQ_sP ys cs]
theorem row_dot (F:Str→Option (Rat×Rat))(M:Str→Rat×Rat):∀pins:List PinD,sP ((rowQ F pins).map vl) (pins.flatMap fun p=>[(M p.nm).1,(M p.nm).2])=(pins.map fun p=>dt (mv F p.nm) (M p.nm)).sum
 | []=>by simp [rowQ,sP]
 | p::ps=>by
  have ih:=row_dot F M ps
  unfold rowQ at ih ⊢
  rw [List.flatMap_cons,List.flatMap_cons,List.map_append,sP_app _ _ (by simp),ih]
  simp only [List.map_cons,List.map_nil,vl_qr,sP_cons,sP_nil,List.sum_cons]
  unfold dt
  grind
theorem sum_one {pins:List PinD}(nd:(pins.map (·.nm)).Nodup){p:PinD}(hp:p∈pins){f:Str→Rat}(h:∀q∈pins,q.nm≠p.nm→f q.nm=0):(pins.map fun q=>f q.nm).sum=f p.nm:=by
 induction pins with
 | nil=>simp at hp
 | cons q ps ih=>
  rw [List.map_cons,List.nodup_cons] at nd
  rw [List.map_cons,List.sum_cons]
  have zero:∀(l:List PinD),(∀r∈l,f r.nm=0)→(l.map fun q=>f q.nm).sum=0:=fun l hl=>by
   induction l with
   | nil=>simp
   | cons r l ihl=>
    rw [List.map_cons,List.sum_cons,hl r List.mem_cons_self,ihl fun s hs=>hl s (List.mem_cons_of_mem _ hs)]
    grind
  by_cases e:q.nm=p.nm
  ·rw [e,zero ps fun r hr=>h r (List.mem_cons_of_mem _ hr) fun z=>nd.1 (by rw [e, ← z];exact List.mem_map.mpr ⟨r,hr,rfl⟩)]
   grind
  ·rw [h q List.mem_cons_self e]
   have hp' :p∈ps:=by
    rcases List.mem_cons.mp hp with z | z
    ·exact absurd (by rw [z]) e
    ·exact z
   rw [ih nd.2 hp' fun r hr=>h r (List.mem_cons_of_mem _ hr)]
   grind
theorem mv_one (x:Str)(w:Rat×Rat)(y:Str):mv (oneF x w) y=if y=x then w else (0,0):=by
 unfold mv oneF
 by_cases e:y=x
 ·rw [if_pos e,if_pos e]
  rfl
 ·rw [if_neg e,if_neg e]
  rfl
theorem dt_zero (m:Rat×Rat):dt (0,0) m=0:=by
 unfold dt
 grind
theorem way_dot {pins:List PinD}(nd:(pins.map (·.nm)).Nodup){p:PinD}(hp:p∈pins)(w:Rat×Rat)(M:Str→Rat×Rat):(pins.map fun q=>dt (mv (oneF p.nm w) q.nm) (M q.nm)).sum=dt w (M p.nm):=by
 rw [sum_one nd hp (f:=fun x=>dt (mv (oneF p.nm w) x) (M x)) fun q _ e=>by rw [mv_one,if_neg e];exact dt_zero _]
 rw [mv_one,if_pos rfl]
theorem sum_add (f g:PinD→Rat):∀l:List PinD,(l.map fun q=>f q+g q).sum=(l.map f).sum+(l.map g).sum
 | []=>by
  simp only [List.map_nil,List.sum_nil]
  grind
 | p::l=>by
  rw [List.map_cons,List.sum_cons,sum_add f g l,List.map_cons,List.map_cons,List.sum_cons,List.sum_cons]
  grind
def lenM (M:Str→Rat×Rat)(b:BarD):Rat:=dt (armP b.one b.other) ((M b.other.nm).1 - (M b.one.nm).1,(M b.other.nm).2 - (M b.one.nm).2)
theorem mv_bar (b:BarD)(h:b.one.nm≠b.other.nm)(x:Str)(m:Rat×Rat):dt (mv (barF b) x) m=dt (mv (oneF b.one.nm (armP b.one b.other)) x) m+dt (mv (oneF b.other.nm (armP b.other b.one)) x) m:=by
 rw [mv_one,mv_one]
 unfold mv barF
 by_cases c1:x=b.one.nm
 ·rw [if_pos c1,if_pos c1,if_neg (fun z=>h (c1.symm.trans z)),dt_zero]
  show dt (armP b.one b.other) m=_
  grind
 ·rw [if_neg c1,if_neg c1,dt_zero]
  by_cases c2:x=b.other.nm
  ·rw [if_pos c2,if_pos c2]
   show dt (armP b.other b.one) m=_
   grind
  ·rw [if_neg c2,if_neg c2,dt_zero]
   show dt (0,0) m=_
   rw [dt_zero]
   grind
theorem bar_dot {pins:List PinD}(nd:(pins.map (·.nm)).Nodup)(b:BarD)(h1:b.one∈pins)(h2:b.other∈pins)(h:b.one.nm≠b.other.nm)(M:Str→Rat×Rat):(pins.map fun q=>dt (mv (barF b) q.nm) (M q.nm)).sum= -(lenM M b):=by
 have e:(pins.map fun q=>dt (mv (barF b) q.nm) (M q.nm))=pins.map fun q=>dt (mv (oneF b.one.nm (armP b.one b.other)) q.nm) (M q.nm)+dt (mv (oneF b.other.nm (armP b.other b.one)) q.nm) (M q.nm):=List.map_congr_left fun q _=>mv_bar b h _ _
 rw [e,sum_add,way_dot nd h1,way_dot nd h2]
 unfold lenM dt armP
 grind
structure MovesM (pins:List PinD)(bars:List BarD)(M:Str→Rat×Rat):Prop where
 ways:∀p∈pins,∀w∈p.ws,dt w (M p.nm)=0
 bars:∀b∈bars,lenM M b=0
def workM (pins:List PinD)(L:Str→Option (Rat×Rat))(M:Str→Rat×Rat):Rat:=(pins.map fun p=>dt (mv L p.nm) (M p.nm)).sum
def forceM (bars:List BarD)(T:Str→Rat)(U:Str→List Rat)(p:PinD)(c:Rat×Rat→Rat):Rat:=sP (U p.nm) (p.ws.map c)+(bars.map fun b=>T b.nm*c (mv (barF b) p.nm)).sum
def AtRest (pins:List PinD)(bars:List BarD)(T:Str→Rat)(U:Str→List Rat)(L:Str→Option (Rat×Rat)):Prop:=∀p∈pins,forceM bars T U p (·.1)+(mv L p.nm).1=0∧forceM bars T U p (·.2)+(mv L p.nm).2=0
theorem sP_zero:∀(as:List Rat) {α:Type} (l:List α),sP as (l.map fun _=>(0:Rat))=0
 | [],_,_=>sP_nil _
 | _::_,_,[]=>by simp [sP]
 | a::as,_,x::l=>by
  rw [List.map_cons,sP_cons,sP_zero as l]
  grind
theorem flat_sP {U:Str→List Rat}{c:Rat×Rat→Rat}(c0:c (0,0)=0)(p:PinD):∀(ps:List PinD),(ps.map (·.nm)).Nodup→(∀q∈ps,(U q.nm).length=q.ws.length)→(∀q∈ps,q.nm=p.nm→q=p)→
  sP (ps.flatMap fun q=>U q.nm) (ps.flatMap fun q=>q.ws.map fun w=>c (mv (oneF q.nm w) p.nm))=if p.nm∈ps.map (·.nm) then sP (U p.nm) (p.ws.map c) else 0
 | [],_,_,_=>by simp [sP]
 | q::ps,nd,hl,inj=>by
  rw [List.map_cons,List.nodup_cons] at nd
  have ih:=flat_sP c0 p ps nd.2 (fun r hr=>hl r (List.mem_cons_of_mem _ hr)) fun r hr=>inj r (List.mem_cons_of_mem _ hr)
  rw [List.flatMap_cons,List.flatMap_cons,sP_app _ _ (by rw [hl q List.mem_cons_self,List.length_map]),ih,List.map_cons]
  by_cases e:q.nm=p.nm
  ·have eq:q=p:=inj q List.mem_cons_self e
   subst eq
   have ec:(q.ws.map fun w=>c (mv (oneF q.nm w) q.nm))=q.ws.map c:=List.map_congr_left fun w _=>by rw [mv_one,if_pos rfl]
   rw [if_neg nd.1,if_pos List.mem_cons_self,ec]
   grind
  ·have ec:(q.ws.map fun w=>c (mv (oneF q.nm w) p.nm))=q.ws.map fun _=>(0:Rat):=List.map_congr_left fun w _=>by rw [mv_one,if_neg (fun z=>e z.symm)];exact c0
   rw [ec,sP_zero]
   by_cases hm:p.nm∈ps.map (·.nm)
   ·rw [if_pos hm,if_pos (List.mem_cons_of_mem _ hm)]
    grind
   ·rw [if_neg hm,if_neg (fun z=>by
     rcases List.mem_cons.mp z with z | z
     ·exact e z.symm
     ·exact hm z)]
    grind
theorem sP_map {α:Type}(f g:α→Rat):∀l:List α,sP (l.map f) (l.map g)=(l.map fun x=>f x*g x).sum
 | []=>by simp [sP]
 | x::l=>by rw [List.map_cons,List.map_cons,sP_cons,sP_map f g l,List.map_cons,List.sum_cons]
theorem col_sum {pins:List PinD}{bars:List BarD}{T:Str→Rat}{U:Str→List Rat}{L:Str→Option (Rat×Rat)}{c:Rat×Rat→Rat}(c0:c (0,0)=0)(nd:(pins.map (·.nm)).Nodup)(hl:∀q∈pins,(U q.nm).length=q.ws.length){p:PinD}(hp:p∈pins)(y:Rat):
  sP ((pins.flatMap fun q=>U q.nm)++bars.map (fun b=>T b.nm)++[y]) (((pins.flatMap fun q=>q.ws.map fun w=>c (mv (oneF q.nm w) p.nm))++bars.map fun b=>c (mv (barF b) p.nm))++[c (mv L p.nm)])=forceM bars T U p c+y*c (mv L p.nm):=by
 have l1:(pins.flatMap fun q=>U q.nm).length=(pins.flatMap fun q=>q.ws.map fun w=>c (mv (oneF q.nm w) p.nm)).length:=by
  clear hp nd
  induction pins with
  | nil=>rfl
  | cons q ps ih=>rw [List.flatMap_cons,List.flatMap_cons,List.length_append,List.length_append,ih fun r hr=>hl r (List.mem_cons_of_mem _ hr),hl q List.mem_cons_self,List.length_map]
 rw [sP_app _ _ (by rw [List.length_append,List.length_append,l1,List.length_map,List.length_map]),sP_app _ _ l1,flat_sP c0 p pins nd hl fun q hq e=>nm_inj (nm:=PinD.nm) nd hq hp e,if_pos (List.mem_map.mpr ⟨p,hp,rfl⟩),sP_map,sP_cons,sP_nil]
 unfold forceM
 grind
theorem rowQ_at (F:Str→Option (Rat×Rat)):∀{pins:List PinD} {k:Nat} {p:PinD},pins[k]? =some p→vl ((rowQ F pins).getD (2*k) (0,1))=(mv F p.nm).1∧vl ((rowQ F pins).getD (2*k+1) (0,1))=(mv F p.nm).2
 | q::ps,0,p,h=>by
  cases h
  unfold rowQ
  rw [List.flatMap_cons]
  exact ⟨vl_qr _,vl_qr _⟩
 | q::ps,k+1,p,h=>by
  have ih:=rowQ_at F (pins:=ps) (k:=k) (p:=p) (by simpa using h)
  unfold rowQ at ih ⊢
  rw [List.flatMap_cons]
  exact ih
theorem drawQ_col (pins:List PinD)(bars:List BarD)(L:Str→Option (Rat×Rat)){k:Nat}{p:PinD}(h:pins[k]? =some p)(j:Nat)(c:Rat×Rat→Rat)(hj:∀F,vl ((rowQ F pins).getD j (0,1))=c (mv F p.nm)):
  (colQ (drawQ pins bars++[rowQ L pins]) j).map vl=((pins.flatMap fun q=>q.ws.map fun w=>c (mv (oneF q.nm w) p.nm))++bars.map fun b=>c (mv (barF b) p.nm))++[c (mv L p.nm)]:=by
 have flat:∀ps:List PinD,((ps.flatMap fun q=>wayQ pins q).map fun qs=>vl (qs.getD j (0,1)))=ps.flatMap fun q=>q.ws.map fun w=>c (mv (oneF q.nm w) p.nm):=fun ps=>by
  induction ps with
  | nil=>rfl
  | cons q ps ih=>
   rw [List.flatMap_cons,List.flatMap_cons,List.map_append,ih]
   congr 1
   unfold wayQ
   rw [List.map_map]
   exact List.map_congr_left fun w _=>hj _
 unfold colQ drawQ
 rw [List.map_map,List.map_append,List.map_append,List.map_cons,List.map_nil]
 congr 1
 ·congr 1
  ·exact flat pins
  ·rw [List.map_map]
   exact List.map_congr_left fun b _=>hj _
 ·rw [← hj]
  rfl
theorem sz_zero {k:Nat}(h:1≤k):Sz k 0:=by
 have:=sz_int (i:=0) (k:=k) (by simpa using Nat.two_pow_pos k) h
 simpa using this
structure Zb (n:Nat)(r:Rat):Prop where
 top:(qr r).1.natAbs≤2^n
 bot:(qr r).2.natAbs≤2^n
def zR (n:Nat):Nat:=bb (50+50*(2*n+1)) (2*n+1)+50*(2*n+1)
theorem sm_qr {T B:Nat}{q:Int×Int}(h:Sm T B q):q=qr (vl q):=qr_of h.pos h.low
theorem sm_of {k:Nat}{r:Rat}(h:Sz k r)(h2:k≤50):Sm 50 50 (qr r):=
 ⟨qr_pos r,qr_gcd r,Nat.le_of_lt (Nat.lt_of_lt_of_le (intBits_le_iff.mp h.top) (Nat.pow_le_pow_right (by decide) h2)),Nat.le_of_lt (Nat.lt_of_lt_of_le (intBits_le_iff.mp h.bot) (Nat.pow_le_pow_right (by decide) h2))⟩
theorem rowQ_sm {F:Str→Option (Rat×Rat)}(h:∀x,Sz 50 (mv F x).1∧Sz 50 (mv F x).2)(pins:List PinD):∀q∈rowQ F pins,Sm 50 50 q:=fun q hq=>by
 unfold rowQ at hq
 obtain ⟨p,_,hq⟩:=List.mem_flatMap.mp hq
 have z:=h p.nm
 rcases List.mem_cons.mp hq with e | hq
 ·rw [e]
  exact sm_of z.1 (Nat.le_refl _)
 ·rw [List.mem_singleton.mp hq]
  exact sm_of z.2 (Nat.le_refl _)
theorem one_sz {x:Str}{w:Rat×Rat}(h:Sz 50 w.1∧Sz 50 w.2)(y:Str):Sz 50 (mv (oneF x w) y).1∧Sz 50 (mv (oneF x w) y).2:=by
 rw [mv_one]
 by_cases c:y=x
 ·rw [if_pos c]
  exact h
 ·rw [if_neg c]
  exact ⟨sz_zero (by decide),sz_zero (by decide)⟩
theorem bar_sz {pins:List PinD}{bars:List BarD}(g:GoodF pins bars){b:BarD}(hb:b∈bars)(y:Str):Sz 50 (mv (barF b) y).1∧Sz 50 (mv (barF b) y).2:=by
 obtain ⟨m1,m2,_⟩:=g.ends b hb
 have z1:=g.sz _ m1
 have z2:=g.sz _ m2
 unfold mv barF
 by_cases c1:y=b.one.nm
 ·rw [if_pos c1]
  exact ⟨(z2.1.sub z1.1).up (by decide),(z2.2.1.sub z1.2.1).up (by decide)⟩
 ·rw [if_neg c1]
  by_cases c2:y=b.other.nm
  ·rw [if_pos c2]
   exact ⟨(z1.1.sub z2.1).up (by decide),(z1.2.1.sub z2.2.1).up (by decide)⟩
  ·rw [if_neg c2]
   exact ⟨sz_zero (by decide),sz_zero (by decide)⟩
theorem draw_shape {pins:List PinD}{bars:List BarD}(g:GoodF pins bars):∀qs∈drawQ pins bars,qs.length=2*pins.length∧∀q∈qs,Sm 50 50 q:=fun qs hq=>by
 unfold drawQ at hq
 rcases List.mem_append.mp hq with h | h
 ·obtain ⟨p,hp,h⟩:=List.mem_flatMap.mp h
  unfold wayQ at h
  obtain ⟨w,hw,rfl⟩:=List.mem_map.mp h
  have z:=(g.sz p hp).2.2 w hw
  exact ⟨rowQ_len _ _,rowQ_sm (one_sz ⟨z.1.up (by decide),z.2.up (by decide)⟩) pins⟩
 ·obtain ⟨b,hb,rfl⟩:=List.mem_map.mp h
  exact ⟨rowQ_len _ _,rowQ_sm (bar_sz g hb) pins⟩
theorem zR_small {n:Nat}(h:n≤7):bb (50+50*(2*n+1)) (2*n+1)≤29000000:=by
 have:n=0∨n=1∨n=2∨n=3∨n=4∨n=5∨n=6∨n=7:=by omega
 rcases this with rfl | rfl | rfl | rfl | rfl | rfl | rfl | rfl <;> decide
theorem nms_pair {H:Hp}{T B:Nat}:∀{us:List V} {qs:List (Int×Int)},NmsK K H us qs→(∀q∈qs,Sm T B q)→Paired (NmR K H) us (qs.map vl)
 | [],[],_,_=>.nil
 | u::us,q::qs,h,hs=>by
  refine .cons ?_ (nms_pair ⟨by simpa using h.1,fun i u q e1 e2=>h.2 (i+1) u q (by simpa using e1) (by simpa using e2)⟩ fun r hr=>hs r (List.mem_cons_of_mem _ hr))
  have n:=h.2 0 u q rfl rfl
  show NmK K H u (qr (vl q))
  rw [← sm_qr (hs q List.mem_cons_self)]
  exact n
 | [],_::_,h,_=>(nomatch h.1)
 | _::_,[],h,_=>(nomatch h.1)
structure MoR (K:Frag)(H H' :Hp)(pins:List PinD)(d:Addr)(kM:List (Key×V))(M:Str→Rat×Rat):Prop where
 nM:H d=none
 hM:H' d=some (.dK kM)
 keys:kM.map (·.1)=pins.map (fun p=>(Sum.inr p.nm:Key))
 tM:∀p∈pins,∃t v1 v2,valV kM (.inr p.nm)=some (.ref t)∧H' t=some (.tup [v1,v2])∧NmR K H' v1 (M p.nm).1∧NmR K H' v2 (M p.nm).2
theorem raisesF.same {H H1:Hp}{E:XK}{C:Addr}{f:Str}{v:V}(h:raisesF H E C f v)(s:Same H H1):raisesF H1 E C f v:=fun d H' s' nd hd=>h d H' (s.trans s') (s.free nd) hd
inductive spRestX (K:Frag)(C CN:Addr)(vs:List V)(H:Hp)(Q:VK)(E:XK):Prop where
 | mk (a d:Addr) (pins:List PinD) (bars:List BarD) (kvs:List (Key×V)) (L:Str→Option (Rat×Rat)) (_:vs=[.ref a,.ref d]) (_:FrA K H C a pins bars) (_:GoodF pins bars) (_:H d=some (.dK kvs)) (_:PtD K H kvs L) (_:mvSz L) (_:(∀kv∈kvs,∃x:Str,kv.1=.inr x)) (_:strangeE H E CN pins kvs) (_:∀(p:Addr) (x:Str) (ws:List V) (H' :Hp),KeysIn pins kvs→Same H H' →H' p=some (.tup (.str x::ws))→(x="moves"∨x="rest")→Q (.ref p) H'):spRestX K C CN vs H Q E
theorem zb_up {m n:Nat}{q:Int×Int}{T B:Nat}(h:Sm T B q)(h1:T≤n)(h2:B≤n):Zb n (vl q):=by
 have e:=sm_qr h
 refine ⟨?_,?_⟩
 ·rw [← e]
  exact Nat.le_trans h.top (Nat.pow_le_pow_right (by decide) h1)
 ·rw [← e]
  exact Nat.le_trans h.bot (Nat.pow_le_pow_right (by decide) h2)
theorem sc_bu:FnScope ["F","load","drawn","rows","due","told","forces"] ["F","load"] (defScope s_bu):=sq
theorem ok_bu {C CN aN aO:Addr}(hN:∀H:Hp,SqT K H aN [.int 0,.int 1])(m_by:mg "NOUGHT"=some (.ref aN))(hO:∀H:Hp,SqT K H aO [.int 1,.int 1])(m_c7:mg "ONE"=some (.ref aO))(D:Def K mg "rest_of" s_bu ["F","load"])(m_len:mg "len"=none)(MP:MtdOk P w K mg base (CXr P w) 1 C "pins" ["self"] (spPins K C))
  (G_b6:Fn P w K mg base (CXr P w) 38 "draw_rows" ["F"] (spDrawRows K C)) (G_bj:Fn P w K mg base (CXr P w) 4 "load_row" ["F","load"] (spLoadRowX K C CN)) (G_aq:Fn P w K mg base (CXr P w) 37 "solve_rows" ["rows","due","many"] (spSolve K)) (G_ag:Fn P w K mg base (CXr P w) 2 "motion_from" ["F","numbers"] (spMotion K C)) (G_a2:Fn P w K mg base (CXr P w) 3 "pulls_and_pushes" ["F","numbers"] (spPP K C)):
  Fn P w K mg base (CXr P w) 39 "rest_of" ["F","load"] (spRestX K C CN):=by
 refine D.okX sc_bu (fun vs H Q E h=> ?_) (fun f cdv A outer s H vs Q E hr h=> ?_)
 ·obtain ⟨a,d,pins,bars,kvs,L,rfl,_⟩:=h
  rfl
 obtain ⟨a,d,pins,bars,kvs,L,rfl,R,g,hd,hP,zL,hk,hs,q⟩:=h
 have px:Passes (CXr P w) (cxr P w K mg base ["F","load","drawn","rows","due","told","forces"] "rest_of" (defScope s_bu) f cdv A outer s H E) E:=pass_up
 have gl:=g.lp
 have gb:=g.lb
 have big:(100:Nat)≤sizeLine:=by decide
 have wl:waysN pins≤2*pins.length:=ways_len pins g.lw
 have ql:=drawQ_len pins bars
 have lpp:pins.length≤100:=by omega
 refine ⟨_,(pss_cons (ps_set (i:=2) sc_bu.nd rfl (Or.inl rfl) (pe_fn G_b6 hr.mo px (pac (pv 0) pa_nil)))
  (pss_cons (ps_set (i:=3) sc_bu.nd rfl (Or.inl rfl) (pe_op op_cat (pv 2) (pe_lst (pac (pe_fn G_bj hr.mo px (pac (pv 0) (pac (pv 1) pa_nil))) pa_nil))))
  (pss_cons (ps_set (i:=4) sc_bu.nd rfl (Or.inl rfl) (pe_op op_cat (pe_op op_rep (pe_lst (pac (pe_glob (v:=.ref aN) rfl m_by rfl) pa_nil)) (pe_callB call_len_seq rfl m_len b_len (pac (pv 2) pa_nil))) (pe_lst (pac (pe_glob (v:=.ref aO) rfl m_c7 rfl) pa_nil))))
  (pss_cons (ps_set (i:=5) sc_bu.nd rfl (Or.inl rfl) (pe_fn G_aq hr.mo px (pac (pv 3) (pac (pv 4) (pac (pe_op op_mulB pe_int (pe_callB call_len_seq rfl m_len b_len (pac (pe_mtd0 (k:=1) (pv 0) hr.mo px) pa_nil))) pa_nil)))))
  (pss_cons (ps_if (pt_cmpR op_eq (pe_tx (pv 5)) pe_str (nomark _)) (pss_one (ps_ret (pe_tup (pac pe_str (pac (pe_fn G_ag hr.mo px (pac (pv 0) (pac (pe_tx (pv 5)) pa_nil))) pa_nil))))) pss_nil)
  (pss_cons (ps_set (i:=6) sc_bu.nd rfl (Or.inl rfl) (pe_fn G_a2 hr.mo px (pac (pv 0) (pac (pe_slice sl_list (pe_tx (pv 5)) po_none (po_some (pe_callB call_len_seq rfl m_len b_len (pac (pv 2) pa_nil)))) pa_nil))))
  (pss_one (ps_ret (pe_tup (pac pe_str (pac (pe_tx (pv 6)) (pac (pe_tx (pv 6)) pa_nil)))))))))))),?_⟩
 refine ⟨_,rfl,a,pins,bars,rfl,R,g,fun r ls vss H1 s1 nr RR=> ?_⟩
 refine ⟨_,rfl,_,rfl,_,rfl,a,d,pins,bars,kvs,L,rfl,R.same s1,lpp,s1 _ _ hd,hP.same s1,hk,(fun t x y e n ki=>(hs t x y e n ki).same s1),fun l us H2 ki s2 nl el nm=>⟨(by show 1≤sizeLine;decide),?_⟩⟩
 have q1:∀(M:Str→Rat×Rat) (p dM:Addr) (kM:List (Key×V)) (H' :Hp),Same H H' →H' p=some (.tup [.str "moves",.ref dM])→MoR K H H' pins dM kM M→MovesM pins bars M→workM pins L M=1→(∀p∈pins,Zb (zR pins.length) (M p.nm).1∧Zb (zR pins.length) (M p.nm).2)→Q (.ref p) H' :=fun _ p _ _ H' s e _ _ _ _=>q p _ _ H' ki s e (.inl rfl)
 have q2:∀(T:Str→Rat) (U:Str→List Rat) (Lx:Str→Addr) (p dT dU:Addr) (kT kU:List (Key×V)) (H' :Hp),Same H H' →H' p=some (.tup [.str "rest",.ref dT,.ref dU])→PPR K H H' pins bars dT dU kT kU T U Lx→AtRest pins bars T U L→(∀b∈bars,Zb (zR pins.length) (T b.nm))→(∀p∈pins,∀u∈U p.nm,Zb (zR pins.length) u)→Q (.ref p) H' :=fun _ _ _ p _ _ _ _ H' s e _ _ _ _=>q p _ _ H' ki s e (.inr rfl)
 intro l1 n3;generalize eX:upd _ l1 _=H3;have ⟨s3,e3⟩:=nw n3 eX;clear eX
 have RR3:=RR.same (s2.trans s3)
 have lls:ls.length=(drawQ pins bars).length:=by rw [RR.mat.2.1,RR.num.1]
 have lq:(drawQ pins bars).length≤22:=by
  have:(drawQ pins bars).length=waysN pins+bars.length:=ql
  omega
 refine ⟨r,l1,_,_,rfl,rfl,RR3.mat.1,e3,(by rw [List.length_map];show ls.length+1≤sizeLine;omega),?_⟩
 intro r2 n4;generalize eX:upd _ r2 _=H4;have ⟨s4,e4⟩:=nw n4 eX;clear eX
 have s24:=s3.trans s4
 refine ⟨(by show 1≤sizeLine;decide),?_⟩
 intro l5 n5;generalize eX:upd _ l5 _=H5;have ⟨s5,e5⟩:=nw n5 eX;clear eX
 have RR5:=(RR3.same s4).same s5
 refine ⟨_,rfl,r,_,rfl,.inl (SqL.of RR5.mat.1),l5,_,_,rfl,rfl,e5,by omega,(by rw [List.length_map];omega),(by rw [List.length_map];simp;omega),?_⟩
 intro l6 n6;generalize eX:upd _ l6 _=H6;have ⟨s6,e6⟩:=nw n6 eX;clear eX
 refine ⟨(by show 1≤sizeLine;decide),?_⟩
 intro l7 n7;generalize eX:upd _ l7 _=H7;have ⟨s7,e7⟩:=nw n7 eX;clear eX
 have erep:(List.replicate (((ls.map V.ref).length:Nat):Int).toNat [V.ref aN]).flatten=List.replicate ls.length (V.ref aN):=by simp
 rw [erep] at e6
 refine ⟨l6,l7,_,_,rfl,rfl,s7 _ _ e6,e7,(by rw [List.length_replicate];show ls.length+1≤sizeLine;omega),?_⟩
 intro l8 n8;generalize eX:upd _ l8 _=H8;have ⟨s8,e8⟩:=nw n8 eX;clear eX
 have s48:=(s5.trans s6).trans (s7.trans s8)
 have s28:=s24.trans s48
 have s18:=s2.trans s28
 have s08:=s1.trans s18
 have R8:=R.same s08
 obtain ⟨dx,pP,pW,pB,kP,kW,kB,F8,W8⟩:=R8.ex
 have c2:CMulB 2 ((pins.length:Nat):Int):=⟨by decide+kernel,Nat.le_trans (intBits_le_64 (by omega) (by omega)) (by decide)⟩
 refine ⟨_,rfl,_,rfl,_,rfl,a,C,dx,_,_,_,rfl,F8.obj,rfl,MP,a,dx,pP,pW,pB,_,_,kP,kW,kB,rfl,F8,fun lp H9 s9 nlp elp=> ?_⟩
 rw [pins_nm] at elp
 refine ⟨lp,_,rfl,.inl (SqL.of elp),_,_,rfl,rfl,(by rw [List.length_map,List.length_map];exact c2),?_⟩
 have s89:=s8.trans s9
 have RR9:RowsR K H9 r2 (ls++[l]) (vss++[us]) (drawQ pins bars++[rowQ L pins]):=by
  have e29:=s28.trans s9
  have RRx:=(RR.same s2).same e29
  refine ⟨⟨?_,by simp [RR.mat.2.1],rows_at RR.mat.2.1 RRx.mat.2.2 (e29 _ _ el)⟩,numss_snoc RRx.num (nm.same e29),fun z=> ?_⟩
  ·rw [(s48.trans s9) _ _ e4,List.map_append]
   rfl
  ·rcases List.mem_append.mp z with z | z
   ·obtain ⟨i,ei⟩:=List.getElem?_of_mem z
    have hi:=(List.getElem?_eq_some_iff.mp ei).1
    have:=RR3.mat.2.2 i r2 _ ei (gE (by rw [← RR.mat.2.1];exact hi))
    rw [this] at n4
    cases n4
   ·rw [List.mem_singleton.mp z,s3 _ _ el] at n4
    cases n4
 have em:(2:Int)*((((pins.map (·.nm)).map V.str).length:Nat):Int)=((2*pins.length:Nat):Int):=by rw [List.length_map,List.length_map];omega
 have nds:NmsK K H9 (List.replicate ls.length (V.ref aN)++[V.ref aO]) (List.replicate ls.length (0,1)++[(1,1)]):=by
  refine NmsK.snoc ⟨by simp,fun i u q e1 e2=> ?_⟩ ⟨aO,rfl,hO _⟩
  rw [List.getElem?_replicate] at e1 e2
  split at e1
  ·rename_i c
   rw [if_pos c] at e2
   cases e1
   cases e2
   exact ⟨aN,rfl,hN _⟩
  ·cases e1
 have sh:Shape 50 50 (2*pins.length) (drawQ pins bars++[rowQ L pins]):=fun qs hq=>by
  rcases List.mem_append.mp hq with h | h
  ·exact draw_shape g qs h
  ·rw [List.mem_singleton.mp h]
   exact ⟨rowQ_len _ _,rowQ_sm (fun x=>⟨(zL x).1.up (by decide),(zL x).2.up (by decide)⟩) pins⟩
 have s01:Sm 50 50 ((0,1):Int×Int):=⟨by decide,by decide,by decide+kernel,by decide+kernel⟩
 have s11:Sm 50 50 ((1,1):Int×Int):=⟨by decide,by decide,by decide+kernel,by decide+kernel⟩
 have e89:=s9 _ _ e8
 refine ⟨r2,l8,2*pins.length,ls++[l],vss++[us],drawQ pins bars++[rowQ L pins],_,List.replicate ls.length (0,1)++[(1,1)],50,50,bb (50+50*(2*pins.length+1)) (2*pins.length+1),(by rw [← em];rfl),RR9.mat,RR9.num,e89,nds,by simp [lls],sh,fun q hq=> ?_,by omega,by simp;omega,by decide,by omega,bb_mono _ (Nat.min_le_left _ _),zR_small g.lp,?_,?_⟩
 ·rcases List.mem_append.mp hq with h | h
  ·rw [(List.mem_replicate.mp h).2]
   exact s01
  ·rw [List.mem_singleton.mp h]
   exact s11
 ·intro p x us' xs HA sA ep ex nx lx zx hx
  refine ⟨_,rfl,p,_,_,_,rfl,rfl,SqT.of ep,rfl,rfl,_,rfl,?_⟩
  refine ite2 (fun _=> ?_) (fun c=>absurd (by simp [eqV]) c)
  have s0A:=(s08.trans s9).trans sA
  have px' :=nms_pair nx zx
  refine ⟨_,rfl,_,rfl,p,_,_,_,rfl,rfl,SqT.of ep,rfl,a,x,pins,bars,us',xs.map vl,rfl,R.same s0A,g,ex,px',by rw [List.length_map];exact lx,fun M dM kM HB sB eM nM hM ks tM=>⟨(by show 2≤sizeLine;decide),?_⟩⟩
  intro pt nC;generalize eX:upd _ pt _=HC;have ⟨sC,eC⟩:=nw nC eX;clear eX
  have sBC:=s0A.trans (sB.trans sC)
  have row:∀(i:Nat) (F:Str→Option (Rat×Rat)) (dd:Int×Int),(drawQ pins bars++[rowQ L pins])[i]? =some (rowQ F pins)→(List.replicate ls.length ((0,1):Int×Int)++[(1,1)])[i]? =some dd→(pins.map fun p=>dt (mv F p.nm) (M p.nm)).sum=vl dd:=fun i F dd h1 h2=>by
   have:=hx i _ dd h1 h2
   rw [dotQ_sP,eM,row_dot] at this
   exact this
  have v0:vl ((0,1):Int×Int)=0:=by decide+kernel
  have v1:vl ((1,1):Int×Int)=1:=by decide+kernel
  have draw:∀F,rowQ F pins∈drawQ pins bars→(pins.map fun p=>dt (mv F p.nm) (M p.nm)).sum=0:=fun F hF=>by
   obtain ⟨i,ei⟩:=List.getElem?_of_mem hF
   have hi:=(List.getElem?_eq_some_iff.mp ei).1
   rw [← v0]
   refine row i F (0,1) (by rw [List.getElem?_append_left hi];exact ei) ?_
   rw [List.getElem?_append_left (by rw [List.length_replicate,lls];exact hi),List.getElem?_replicate,if_pos (by rw [lls];exact hi)]
  refine q1 M pt dM kM HC sBC eC ⟨(s0A).free nM,sC _ _ hM,ks,fun p hp=> ?_⟩ ⟨fun p hp w hw=> ?_,fun b hb=> ?_⟩ ?_ fun p hp=> ?_
  ·obtain ⟨t,v1,v2,h1,h2,h3,h4⟩:=tM p hp
   exact ⟨t,v1,v2,h1,sC _ _ h2,h3.same sC,h4.same sC⟩
  ·rw [← way_dot g.np hp w M]
   refine draw _ ?_
   unfold drawQ wayQ
   exact List.mem_append_left _ (List.mem_flatMap.mpr ⟨p,hp,List.mem_map.mpr ⟨w,hw,rfl⟩⟩)
  ·obtain ⟨m1,m2,m3⟩:=g.ends b hb
   have:=draw (barF b) (by unfold drawQ;exact List.mem_append_right _ (List.mem_map.mpr ⟨b,hb,rfl⟩))
   rw [bar_dot g.np b m1 m2 m3] at this
   grind
  ·unfold workM
   rw [← v1]
   refine row (drawQ pins bars).length L (1,1) (by simp) ?_
   rw [← lls]
   simp
  ·have mem:∀r∈xs.map vl,Zb (zR pins.length) r:=fun r hr=>by
    obtain ⟨q,hq,rfl⟩:=List.mem_map.mp hr
    exact zb_up (m:=0) (zx q hq) (Nat.le_add_right _ _) (Nat.le_add_right _ _)
   rw [eM] at mem
   exact ⟨mem _ (List.mem_flatMap.mpr ⟨p,hp,List.mem_cons_self⟩),mem _ (List.mem_flatMap.mpr ⟨p,hp,List.mem_cons_of_mem _ List.mem_cons_self⟩)⟩
 ·intro p y us' ys HA sA ep ey ny ly zy hy0 hy1
  refine ⟨_,rfl,p,_,_,_,rfl,rfl,SqT.of ep,rfl,rfl,_,rfl,?_⟩
  refine ite2 (fun c=>absurd c (by simp [eqV];decide+kernel)) (fun _=> ?_)
  have s0A:=(s08.trans s9).trans sA
  have e0A:=(s18.trans s9).trans sA
  have py:=nms_pair ny zy
  have lys:ys.length=ls.length+1:=by rw [ly,lls];simp
  have lus:us'.length=ls.length+1:=by rw [ny.1,lys]
  have rA:HA r=some (.lst (ls.map V.ref)):=e0A _ _ RR.mat.1
  refine ⟨_,rfl,_,rfl,p,_,_,_,rfl,rfl,SqT.of ep,rfl,_,rfl,r,_,rfl,.inl (SqL.of rA),_,rfl,y,_,rfl,SqL.of ey,?_⟩
  rw [List.length_map,cutV_to (show ls.length≤us'.length by omega)]
  intro l9 nB;generalize eX:upd _ l9 _=HB;have ⟨sB,eB⟩:=nw nB eX;clear eX
  have pyB:Paired (NmR K HB) (us'.take ls.length) ((ys.map vl).take ls.length):=Paired.mapP (paired_takeN ls.length py) fun _ _ z=>z.same sB
  have s0B:=s0A.trans sB
  refine ⟨a,l9,pins,bars,_,_,rfl,R.same s0B,g,eB,pyB,?_,fun T U Lx pf dT dU kT kU HC sC er epf PR=> ?_⟩
  ·rw [List.length_take,List.length_map,lys,lls,ql]
   unfold waysN
   omega
  refine ⟨_,rfl,pf,_,_,_,rfl,rfl,SqT.of epf,rfl,_,rfl,pf,_,_,_,rfl,rfl,SqT.of epf,rfl,(by show 3≤sizeLine;decide),?_⟩
  intro pt nD;generalize eX:upd _ pt _=HD;have ⟨sD,eD⟩:=nw nD eX;clear eX
  have sx:=s0B.trans (sC.trans sD)
  obtain ⟨yl,eyl⟩:∃yl,(ys.map vl)=(ys.map vl).take ls.length++[yl]:=by
   have hl:ls.length < (ys.map vl).length:=by rw [List.length_map];omega
   refine ⟨(ys.map vl)[ls.length],?_⟩
   have:=List.take_add_one (l:=ys.map vl) (i:=ls.length)
   rw [gE hl,List.take_of_length_le (by rw [List.length_map];omega)] at this
   exact this
  have v0:vl ((0,1):Int×Int)=0:=by decide+kernel
  have v1:vl ((1,1):Int×Int)=1:=by decide+kernel
  have ly1:yl=1:=by
   rw [dotQ_sP,eyl,List.map_append,sP_app _ _ (by rw [List.length_take,List.length_map,List.length_map,List.length_replicate];omega),List.map_replicate,v0] at hy1
   have ez:List.replicate ls.length (0:Rat)=(List.replicate ls.length ()).map fun _=>(0:Rat):=by simp
   rw [ez,sP_zero,List.map_cons,List.map_nil,sP_cons,sP_nil,v1] at hy1
   grind
  have rest:AtRest pins bars T U L:=fun p hp=>by
   obtain ⟨k,ek⟩:=List.getElem?_of_mem hp
   have hk:=(List.getElem?_eq_some_iff.mp ek).1
   have one:∀(j:Nat) (c:Rat×Rat→Rat),j < 2*pins.length→c (0,0)=0→(∀F,vl ((rowQ F pins).getD j (0,1))=c (mv F p.nm))→forceM bars T U p c+c (mv L p.nm)=0:=fun j c hj c0 hc=>by
    have:=hy0 j hj
    rw [dotQ_sP,drawQ_col pins bars L ek j c hc,eyl,er,ly1,col_sum c0 g.np PR.lU hp] at this
    grind
   exact ⟨one (2*k) (·.1) (by omega) rfl fun F=>(rowQ_at F ek).1,one (2*k+1) (·.2) (by omega) rfl fun F=>(rowQ_at F ek).2⟩
  have mem:∀r∈(ys.map vl).take ls.length,Zb (zR pins.length) r:=fun r hr=>by
   obtain ⟨q,hq,rfl⟩:=List.mem_map.mp (List.mem_of_mem_take hr)
   exact zb_up (m:=0) (zy q hq) (by unfold zR;omega) (Nat.le_add_right _ _)
  rw [er] at mem
  refine q2 T U Lx pt dT dU kT kU HD sx eD ⟨s0B.free PR.nT,s0B.free PR.nU,PR.ne,sD _ _ PR.hT,sD _ _ PR.hU,PR.keyT,PR.keyU,fun b hb=> ?_,fun p hp=> ?_,PR.lU,PR.inj⟩ rest (fun b hb=>mem _ (List.mem_append_right _ (List.mem_map.mpr ⟨b,hb,rfl⟩))) fun p hp u hu=>mem _ (List.mem_append_left _ (List.mem_flatMap.mpr ⟨p,hp,hu⟩))
  ·obtain ⟨v,h1,h2⟩:=PR.tT b hb
   exact ⟨v,h1,h2.same sD⟩
  ·obtain ⟨vs,h1,h2,h3,h4⟩:=PR.tU p hp
   exact ⟨vs,h1,s0B.free h2,sD _ _ h3,Paired.mapP h4 fun _ _ z=>z.same sD⟩
def cell (ns:List Int)(k:Int):Int:=if k < (ns.length:Int) then (ns[k.toNat]?).getD 0 else ((((k+5)*(k+5)*48271).fmod 2147483647)*(((k+5)*(k+5)*48271).fmod 2147483647)).fmod 2147483629
theorem fmod_in {x m:Int}(h:0 < m):0≤x.fmod m∧x.fmod m < m:=⟨Int.fmod_nonneg_of_pos x h,Int.fmod_lt_of_pos x h⟩
inductive spCell (K:Frag)(vs:List V)(H:Hp)(Q:VK)(E_:XK):Prop where
 | mk (a:Addr) (ns:List Int) (k:Int) (_:vs=[.ref a,.int k]) (_:SqL K H a (ns.map V.int)) (_:0≤k) (_:k≤1000) (_:Q (.int (cell ns k)) H):spCell K vs H Q E_
theorem cell_in {ns:List Int}{k:Int}(h0:0≤k)(h:k < (ns.length:Int)):atI (ns.map V.int) k=some (.int (cell ns k)):=by
 have hk:k.toNat < ns.length:=by omega
 have ek:k=((k.toNat:Nat):Int):=by omega
 have q:atI (ns.map V.int) ((k.toNat:Nat):Int)=some (.int (cell ns k)):=atI_nat (by
  unfold cell
  rw [if_pos h,List.getElem?_map,gE hk]
  rfl)
 rw [← ek] at q
 exact q
theorem bits_small {i:Int}{k:Nat}(h:i.natAbs < 2^k):intBits i≤k:=intBits_le_iff.mpr h
theorem sc_ad:FnScope ["_law_script","_law_k","_law_part"] ["_law_script","_law_k"] (defScope s_ad):=sq
theorem ok_ad (D:Def K mg "_law_cell_at" s_ad ["_law_script","_law_k"])(m_len:mg "len"=none):Fn P w K mg base CX 1 "_law_cell_at" ["_law_script","_law_k"] (spCell K):=by
 refine D.ok sc_ad (fun vs H Q E h=> ?_) (fun f cdv A outer s H vs Q E hr h=> ?_)
 ·obtain ⟨a,ns,k,rfl,_⟩:=h
  rfl
 obtain ⟨a,ns,k,rfl,hS,h0,h1,q⟩:=h
 refine ⟨_,(pss_cons (ps_if (pt_cmpR op_lt (pv 1) (pe_callB call_len_seq rfl m_len b_len (pac (pv 0) pa_nil)) (nomark _)) (pss_one (ps_ret (pe_ix ix_list (pv 0) (pv 1) (fun _ _=>rfl)))) pss_nil)
  (pss_cons (ps_set (i:=2) sc_ad.nd rfl (Or.inl rfl) (pe_op op_modB (pe_op op_mulB (pe_op op_mulB (pe_op op_add (pv 1) pe_int) (pe_op op_add (pv 1) pe_int)) pe_int) pe_int))
  (pss_one (ps_ret (pe_op op_modB (pe_op op_mulB (pv 2) (pv 2)) pe_int))))),?_⟩
 have hl:(ns.map V.int).length=ns.length:=List.length_map _
 refine ⟨_,rfl,_,rfl,a,_,rfl,.inl hS,_,_,rfl,rfl,_,rfl,?_⟩
 refine ite2 (fun c=> ?_) (fun c=> ?_)
 ·have c' :k < (((ns.map V.int).length:Nat):Int):=of_decide_eq_true c
  rw [hl] at c'
  exact ⟨_,rfl,_,rfl,a,_,k,_,rfl,rfl,hS,cell_in h0 c',q⟩
 ·have c' :¬ k < (((ns.map V.int).length:Nat):Int):=of_decide_eq_false (Bool.eq_false_iff.mpr c)
  rw [hl] at c'
  have b5:intBits (k+5)≤11:=bits_small (by show _ < 2048;omega)
  have e1:=fmod_in (x:=(k+5)*(k+5)*48271) (m:=2147483647) (by decide)
  have bp:intBits (((k+5)*(k+5)*48271).fmod 2147483647)≤31:=bits_small (by show _ < 2147483648;omega)
  refine ⟨_,rfl,_,_,rfl,rfl,_,rfl,_,_,rfl,rfl,_,_,rfl,rfl,⟨Nat.le_trans b5 (by decide),Nat.le_trans b5 (by decide)⟩,?_⟩
  refine ⟨_,_,rfl,rfl,⟨Nat.le_trans (intBits_mul_le b5 b5) (by decide),by decide+kernel⟩,_,_,rfl,rfl,nz (by decide),?_⟩
  refine ⟨_,rfl,_,rfl,_,_,rfl,rfl,⟨Nat.le_trans bp (by decide),Nat.le_trans bp (by decide)⟩,_,_,rfl,rfl,nz (by decide),?_⟩
  have e:cell ns k=((((k+5)*(k+5)*48271).fmod 2147483647)*(((k+5)*(k+5)*48271).fmod 2147483647)).fmod 2147483629:=by
   unfold cell
   rw [if_neg c']
  rw [e] at q
  exact q
def field (c p m:Int):Int:=(((c.fmod p+11)*48271).fmod p).fmod m
theorem field_in {c p m:Int}(h:0 < m):0≤field c p m∧field c p m < m:=fmod_in h
inductive spField (vs:List V)(H:Hp)(Q:VK)(E_:XK):Prop where
 | mk (c p m:Int) (_:vs=[.int c,.int p,.int m]) (_:0 < p) (_:p≤2000000) (_:0 < m) (_:Q (.int (field c p m)) H):spField vs H Q E_
theorem sc_ay:FnScope ["_law_cell","_law_prime","_law_many"] ["_law_cell","_law_prime","_law_many"] (defScope s_ay):=sq
theorem ok_ay (D:Def K mg "_law_field" s_ay ["_law_cell","_law_prime","_law_many"]):Fn P w K mg base CX 1 "_law_field" ["_law_cell","_law_prime","_law_many"] spField:=by
 refine D.ok sc_ay (fun vs H Q E h=> ?_) (fun f cdv A outer s H vs Q E hr h=> ?_)
 ·obtain ⟨c,p,m,rfl,_⟩:=h
  rfl
 obtain ⟨c,p,m,rfl,hp,hp2,hm,q⟩:=h
 refine ⟨_,(pss_one (ps_ret (pe_op op_modB (pe_op op_modB (pe_op op_mulB (pe_op op_add (pe_op op_modB (pv 0) (pv 1)) pe_int) pe_int) (pv 1)) (pv 2)))),?_⟩
 have e1:=fmod_in (x:=c) hp
 refine ⟨_,rfl,_,rfl,_,_,rfl,rfl,nz (by omega),_,_,rfl,rfl,_,_,rfl,rfl,⟨Nat.le_trans (bits_small (k:=22) (by show _ < 4194304;omega)) (by decide),by decide+kernel⟩,?_⟩
 exact ⟨_,rfl,_,_,rfl,rfl,nz (by omega),_,rfl,_,_,rfl,rfl,nz (by omega),q⟩
inductive spLaw_lowestU (vs:List V)(H:Hp)(Q:VK)(E_:XK):Prop where
 | mk (t b:Int) (_:vs=[.int t,.int b]) (_:0 < b) (_:gives H Q (low t b)):spLaw_lowestU vs H Q E_
theorem sc_am:FnScope ["_law_top","_law_bottom","_law_one","_law_other"] ["_law_top","_law_bottom"] (defScope s_am):=sq
theorem ok_am (ht:P.given.tree=none)(D:Def K mg "_law_lowest" s_am ["_law_top","_law_bottom"])(m_abs:mg "abs"=none):Fn P w K mg base (CXr P w) 33 "_law_lowest" ["_law_top","_law_bottom"] spLaw_lowestU:=by
 refine D.ok sc_am (fun vs H Q E h=> ?_) (fun f cdv A outer s H vs Q E hr h=> ?_)
 ·obtain ⟨t,b,rfl,_⟩:=h
  rfl
 obtain ⟨t,b,rfl,hb,q⟩:=h
 refine ⟨_,(pss_cons (ps_set (i:=2) sc_am.nd rfl (Or.inl rfl) (pe_callB call_abs rfl m_abs b_abs (pac (pv 0) pa_nil)))
  (pss_cons (ps_set (i:=3) sc_am.nd rfl (Or.inl rfl) (pv 1))
  (pss_cons (ps_while PassesOwn.never (pt_cmpR op_ne (pv 3) pe_int (nomark _)) (pss_one (ps_par (i:=2) (j:=3) rfl sc_am.nd rfl rfl (by decide) rfl rfl (pac (pv 3) (pac (pe_op op_modB (pv 2) (pv 3)) pa_nil)) rfl)))
  (pss_one (ps_ret (pe_tup (pac (pe_op (op_fdivU ht (Ty.Room.py hr (by decide)) rfl rfl rfl rfl rfl) (pv 0) (pv 2)) (pac (pe_op (op_fdivU ht (Ty.Room.py hr (by decide)) rfl rfl rfl rfl rfl) (pv 1) (pv 2)) pa_nil)))))))),?_⟩
 refine ⟨_,rfl,t,rfl,?_⟩
 refine ⟨_,rfl,?_⟩
 refine while_by (fun σ H' =>∃x y:Int,σ=[some (.int t),some (.int b),some (.int x),some (.int y)]∧H' =H∧0≤x∧0≤y∧Int.gcd x y=Int.gcd t b) (fun σ _=>match σ with | [_,_,_,some (.int y)]=>y.natAbs | _=>0) ⟨_,b,rfl,rfl,?_,by omega,?_⟩ ?_ ?_
 ·split <;> omega
 ·split
  ·exact Int.neg_gcd
  ·rfl
 ·rintro σ H' ⟨x,y,rfl,rfl,hx,hy,g⟩
  refine ⟨_,rfl,rfl,_,rfl,?_⟩
  refine ite2 (fun c=> ?_) (fun c=> ?_)
  ·have hy0:y≠0:=by
    intro z
    subst z
    simp at c
   refine ⟨_,rfl,_,rfl,_,rfl,_,_,rfl,rfl,hy0,_,_,rfl,?_⟩
   exact ⟨⟨_,_,rfl,rfl,hy,Int.fmod_nonneg_of_pos _ (by omega),by rw [gcd_step];exact g⟩,fmod_less hy0⟩
  ·have hy0:y=0:=by
    have:=Bool.eq_false_iff.mpr c
    simp at this
    exact this
   subst hy0
   have e:x=sg t b:=by
    rw [Int.gcd_zero_right] at g
    unfold sg
    rw [if_neg (by omega)]
    unfold gz
    rw [← g]
    omega
   subst e
   have hbn:b≠0:=by omega
   have c:=sg_ne (t:=t) hbn
   refine ⟨_,rfl,_,rfl,_,_,rfl,rfl,c,_,rfl,_,rfl,_,_,rfl,rfl,c,(by show 2≤sizeLine;decide),fun p hp=> ?_⟩
   exact q p _ (same_new hp _) upd_same
 ·rintro σ H' Q1 Q2 h ⟨v,e1,e2,k,ek,z⟩
  exact ⟨v,e1,e2,k,ek,h _ _ z⟩
structure Ns (n:Nat)(q:Int×Int):Prop where
 top:q.1.natAbs≤2^n
 bot:q.2.natAbs≤2^n
def addI (x y:Int×Int):Int×Int:=(x.1*y.2+y.1*x.2,x.2*y.2)
inductive spSumI (K:Frag)(f:Int×Int→Int×Int→Int×Int)(vs:List V)(H:Hp)(Q:VK)(E_:XK):Prop where
 | mk (u v:V) (x y:Int×Int) (m n:Nat) (_:vs=[u,v]) (_:NmK K H u x) (_:NmK K H v y) (_:Ns m x) (_:Ns n y) (_:m+n≤130000000) (_:gives H Q (f x y)):spSumI K f vs H Q E_
theorem sc_bp:FnScope ["_law_one","_law_other"] ["_law_one","_law_other"] (defScope s_bp):=sq
theorem ok_bp (D:Def K mg "_law_sum" s_bp ["_law_one","_law_other"]):Fn P w K mg base (CXr P w) 1 "_law_sum" ["_law_one","_law_other"] (spSumI K addI):=by
 refine D.ok sc_bp (fun vs H Q E h=> ?_) (fun f cdv A outer s H vs Q E hr h=> ?_)
 ·obtain ⟨u,v,x,y,m,n,rfl,_⟩:=h
  rfl
 obtain ⟨u,v,x,y,m,n,rfl,⟨p1,rfl,h1⟩,⟨p2,rfl,h2⟩,zx,zy,l,q⟩:=h
 refine ⟨_,(pss_one (ps_ret (pe_tup (pac (pe_op op_add (pe_op op_mulZ (pe_tx (pv 0)) (pe_tx (pv 1))) (pe_op op_mulZ (pe_tx (pv 1)) (pe_tx (pv 0)))) (pac (pe_op op_mulZ (pe_tx (pv 0)) (pe_tx (pv 1))) pa_nil))))),?_⟩
 refine ⟨_,rfl,p1,_,_,_,rfl,rfl,h1,at0,_,rfl,p2,_,_,_,rfl,rfl,h2,at1,_,_,rfl,rfl,pw_cmulS zx.top zy.bot (by omega),?_⟩
 refine ⟨_,rfl,p2,_,_,_,rfl,rfl,h2,at0,_,rfl,p1,_,_,_,rfl,rfl,h1,at1,_,_,rfl,rfl,pw_cmulS zy.top zx.bot (by omega),?_⟩
 refine ⟨_,_,rfl,rfl,?_⟩
 refine ⟨_,rfl,p1,_,_,_,rfl,rfl,h1,at1,_,rfl,p2,_,_,_,rfl,rfl,h2,at1,_,_,rfl,rfl,pw_cmulS zx.bot zy.bot (by omega),(by show 2≤sizeLine;decide),?_⟩
 intro p3 n3;generalize eX:upd _ p3 _=H3;have ⟨s3,e3⟩:=nw n3 eX;clear eX
 exact q p3 H3 s3 e3
def nameOf (st a k:Int):Str:=if st=0 then Txt.mul "p" (k+1) else if st=1 then Txt.mul "p" a++⟨#[(atI (Str.ofString "bcdefghijklm").cps.toList k).getD 0]⟩++Txt.mul "p" (5 - a) else Txt.slice "12345" none (some a)++(toString k:String)
theorem names_ne:∀st:Fin 3,∀a:Fin 6,∀k:Fin 12,∀j:Fin 12,k≠j→nameOf (st.val:Int) (a.val:Int) (k.val:Int)≠nameOf (st.val:Int) (a.val:Int) (j.val:Int):=by decide+kernel
theorem mul_ok:∀n:Fin 20,MulOk "p" (n.val:Int):=by
 intro n
 unfold MulOk
 revert n
 decide+kernel
theorem let_at:∀k:Fin 12,atI (Str.ofString "bcdefghijklm").cps.toList (k.val:Int)=some ((atI (Str.ofString "bcdefghijklm").cps.toList (k.val:Int)).getD 0):=by decide+kernel
theorem name_len:∀a:Fin 6,∀k:Fin 12,(Txt.mul "p" (a.val:Int)).length+(⟨#[(atI (Str.ofString "bcdefghijklm").cps.toList (k.val:Int)).getD 0]⟩:Str).length≤1000∧
  (Txt.mul "p" (a.val:Int)++(⟨#[(atI (Str.ofString "bcdefghijklm").cps.toList (k.val:Int)).getD 0]⟩:Str)).length+(Txt.mul "p" (5 - (a.val:Int))).length≤1000∧(Txt.slice "12345" none (some (a.val:Int))).length+(Str.ofString (toString (k.val:Int))).length≤1000:=by decide+kernel
inductive spName (vs:List V)(H:Hp)(Q:VK)(E_:XK):Prop where
 | mk (c k:Int) (_:vs=[.int c,.int k]) (_:0≤k) (_:k < 12) (_:Q (.str (nameOf (field c 3001 3) (field c 4001 6) k)) H):spName vs H Q E_
theorem sc_be:FnScope ["_law_cell","_law_k","_law_style","_law_at"] ["_law_cell","_law_k"] (defScope s_be):=sq
theorem ok_be (hM:Mute CX)(D:Def K mg "_law_name" s_be ["_law_cell","_law_k"])(m_str:mg "str"=none)(G_ay:Fn P w K mg base CX 1 "_law_field" ["_law_cell","_law_prime","_law_many"] spField):Fn P w K mg base CX 2 "_law_name" ["_law_cell","_law_k"] spName:=by
 refine D.ok sc_be (fun vs H Q E h=> ?_) (fun f cdv A outer s H vs Q E hr h=> ?_)
 ·obtain ⟨c,k,rfl,_⟩:=h
  rfl
 obtain ⟨c,k,rfl,h0,h12,q⟩:=h
 have px:=passM (X:=cxOf CX P w K mg base ["_law_cell","_law_k","_law_style","_law_at"] "_law_name" (defScope s_be) f cdv A outer s H E) hM
 refine ⟨_,(pss_cons (ps_set (i:=2) sc_be.nd rfl (Or.inl rfl) (pe_fn G_ay hr.mo px (pac (pv 0) (pac pe_int (pac pe_int pa_nil)))))
  (pss_cons (ps_set (i:=3) sc_be.nd rfl (Or.inl rfl) (pe_fn G_ay hr.mo px (pac (pv 0) (pac pe_int (pac pe_int pa_nil)))))
  (pss_cons (ps_if (pt_cmpR op_eq (pv 2) pe_int (nomark _)) (pss_one (ps_ret (pe_op op_mulS pe_str (pe_op op_add (pv 1) pe_int)))) pss_nil)
  (pss_cons (ps_if (pt_cmpR op_eq (pv 2) pe_int (nomark _)) (pss_one (ps_ret (pe_op op_add_str (pe_op op_add_str (pe_op op_mulS pe_str (pv 3)) (pe_ix ix_str pe_str (pv 1) (fun _ _=>rfl))) (pe_op op_mulS pe_str (pe_op op_sub pe_int (pv 3)))))) pss_nil)
  (pss_one (ps_ret (pe_op op_add_str (pe_slice sl_str pe_str po_none (po_some (pv 3))) (pe_callTy call_str_int rfl m_str b_str (pac (pv 1) pa_nil))))))))),?_⟩
 have i1:=field_in (c:=c) (p:=3001) (m:=3) (by decide)
 have i2:=field_in (c:=c) (p:=4001) (m:=6) (by decide)
 refine ⟨_,rfl,_,_,_,rfl,by decide,by decide,by decide,?_⟩
 refine ⟨_,rfl,_,_,_,rfl,by decide,by decide,by decide,?_⟩
 generalize field c 3001 3=st at i1 q ⊢
 generalize field c 4001 6=a at i2 q ⊢
 obtain ⟨kn,rfl⟩:∃n:Nat,k=(n:Int):=⟨k.toNat,by omega⟩
 obtain ⟨an,rfl⟩:∃n:Nat,a=(n:Int):=⟨a.toNat,by omega⟩
 have mk:∀i:Int,0≤i→i < 20→MulOk "p" i:=fun i a b=>by
  have:=mul_ok ⟨i.toNat,by omega⟩
  rwa [show ((⟨i.toNat,by omega⟩:Fin 20).val:Int)=i by show ((i.toNat:Nat):Int)=i;omega] at this
 refine ⟨_,rfl,rfl,_,rfl,?_⟩
 refine ite2 (fun z=> ?_) (fun z=> ?_)
 ·have z' :st=0:=by simpa [eqV] using z
  subst z'
  refine ⟨_,rfl,_,_,rfl,rfl,_,_,rfl,rfl,mk _ (by omega) (by omega),?_⟩
  exact q
 have z' :¬ st=0:=by simpa [eqV] using z
 have nl:=name_len ⟨an,by omega⟩ ⟨kn,by omega⟩
 refine ⟨_,rfl,rfl,_,rfl,?_⟩
 refine ite2 (fun z3=> ?_) (fun z3=> ?_)
 ·have z3' :st=1:=by simpa [eqV] using z3
  subst z3'
  refine ⟨_,rfl,_,_,rfl,rfl,mk _ (by omega) (by omega),_,rfl,_,_,_,rfl,rfl,(by decide+kernel),let_at ⟨kn,by omega⟩,?_⟩
  refine ⟨_,_,rfl,rfl,Nat.le_trans nl.1 (by decide),_,rfl,_,_,rfl,rfl,_,_,rfl,rfl,mk _ (by omega) (by omega),_,_,rfl,rfl,Nat.le_trans nl.2.1 (by decide),?_⟩
  exact q
 ·have z3' :¬ st=1:=by simpa [eqV] using z3
  refine ⟨_,rfl,_,rfl,_,rfl,(by decide+kernel),?_⟩
  have lg:(kn:Int).natAbs.log2 < 1920:=Nat.lt_of_le_of_lt (Nat.log2_le_self _) (by show kn < 1920;omega)
  refine ⟨_,rfl,_,rfl,lg,_,_,rfl,rfl,Nat.le_trans nl.2.2 (by decide),?_⟩
  have e:nameOf st (an:Int) (kn:Int)=Txt.slice "12345" none (some (an:Int))++Str.ofString (toString (kn:Int)):=by
   unfold nameOf
   rw [if_neg z',if_neg z3']
  rw [e] at q
  exact q
def WaysOk (ws:List (Rat×Rat)):Prop:=ws=[]∨(∃x y:Rat,ws=[(x,y)]∧¬ (x=0∧y=0)∧Sz 22 x∧Sz 22 y)∨ws=[(1,0),(0,1)]
theorem nm_lit {K:Frag}{H:Hp}{p:Addr}(i:Int)(h:H p=some (.tup [.int i,.int 1])):NmR K H (.ref p) (i:Rat):=⟨p,rfl,by rw [qr_int];exact SqT.of h⟩
theorem nm_of {K:Frag}{H:Hp}{p:Addr}{r:Rat}(h:H p=some (.tup [.int (qr r).1,.int (qr r).2])):NmR K H (.ref p) r:=⟨p,rfl,SqT.of h⟩
theorem pt_of {K:Frag}{H:Hp}{p:Addr}{u v:V}{r s:Rat}(h:H p=some (.tup [u,v]))(h1:NmR K H u r)(h2:NmR K H v s):PtR K H (.ref p) (r,s):=⟨p,u,v,rfl,SqT.of h,h1,h2⟩
theorem sz_small {k:Nat}{i:Int}(h:i.natAbs < 1048576)(hk:20≤k):Sz k (i:Rat):=sz_int (Nat.lt_of_lt_of_le h (show 2^20≤2^k from Nat.pow_le_pow_right (by decide) hk)) (by omega)
theorem sz_frac {t b:Int}(h:0 < b)(h1:t.natAbs < 1048576)(h2:b < 1048576):Sz 20 ((t:Rat) / (b:Rat)):=sz_low (Int.ne_of_gt h) (intBits_le_iff.mpr (by show _ < 1048576;omega)) (intBits_le_iff.mpr (by show _ < 1048576;omega))
theorem small_le {i:Int}(h:i≤500002):(i:Rat)≤500002:=by
 have:=Rat.intCast_le_intCast.mpr h
 simpa using this
theorem frac_le {t b:Int}(hb:0 < b)(h:t≤500002):(t:Rat) / (b:Rat)≤500002:=by
 have hb' :(0:Rat) < (b:Rat):=by
  have:=Rat.intCast_lt_intCast.mpr hb
  simpa using this
 have h1:t≤500002*b:=by
  have:(500002:Int)*1≤500002*b:=Int.mul_le_mul_of_nonneg_left (by omega) (by decide)
  omega
 have h2:(t:Rat)≤500002*(b:Rat):=by
  have:=Rat.intCast_le_intCast.mpr h1
  simpa using this
 have e:(t:Rat) / (b:Rat)*(b:Rat)=(t:Rat):=by
  have hne:(b:Rat)≠0:=by grind
  grind
 generalize (t:Rat) / (b:Rat)=z at e
 by_cases c:z≤500002
 ·exact c
 ·have c' :500002 < z:=by grind
  have:=Rat.mul_lt_mul_of_pos_right c' hb'
  grind
inductive spSpotL (K:Frag)(vs:List V)(H:Hp)(Q:VK)(E_:XK):Prop where
 | mk (c k:Int) (_:vs=[.int c,.int k]) (_:∀(p:Addr) (x y:Rat) (H' :Hp),Same H H' →Sz 20 x→Sz 20 y→x≤500002→PtR K H' (.ref p) (x,y)→Q (.ref p) H'):spSpotL K vs H Q E_
theorem sc_bf:FnScope ["_law_cell","_law_kind","_law_x"] ["_law_cell","_law_kind"] (defScope s_bf):=sq
theorem ok_bf (D:Def K mg "_law_spot" s_bf ["_law_cell","_law_kind"])(G_ay:Fn P w K mg base (CXr P w) 1 "_law_field" ["_law_cell","_law_prime","_law_many"] spField)(G_am:Fn P w K mg base (CXr P w) 33 "_law_lowest" ["_law_top","_law_bottom"] spLaw_lowestU):Fn P w K mg base (CXr P w) 34 "_law_spot" ["_law_cell","_law_kind"] (spSpotL K):=by
 refine D.ok sc_bf (fun vs H Q E h=> ?_) (fun f cdv A outer s H vs Q E hr h=> ?_)
 ·obtain ⟨c,k,rfl,_⟩:=h
  rfl
 obtain ⟨c,k,rfl,q⟩:=h
 have L2:2≤sizeLine:=by decide
 refine ⟨_,(pss_cons (ps_if (pt_cmpR op_eq (pv 1) pe_int (nomark _)) (pss_one (ps_ret (pe_tup (pac (pe_tup (pac (pe_fn G_ay hr.mo pX (pac (pv 0) (pac pe_int (pac pe_int pa_nil)))) (pac pe_int pa_nil))) (pac (pe_tup (pac (pe_fn G_ay hr.mo pX (pac (pv 0) (pac pe_int (pac pe_int pa_nil)))) (pac pe_int pa_nil))) pa_nil))))) pss_nil)
  (pss_cons (ps_if (pt_cmpR op_eq (pv 1) pe_int (nomark _)) (pss_cons (ps_set (i:=2) sc_bf.nd rfl (Or.inl rfl) (pe_fn G_am hr.mo pX (pac (pe_op op_sub (pe_fn G_ay hr.mo pX (pac (pv 0) (pac pe_int (pac pe_int pa_nil)))) pe_int) (pac (pe_op op_add pe_int (pe_fn G_ay hr.mo pX (pac (pv 0) (pac pe_int (pac pe_int pa_nil))))) pa_nil))))
   (pss_one (ps_ret (pe_tup (pac (pv 2) (pac (pe_fn G_am hr.mo pX (pac (pe_op op_sub (pe_fn G_ay hr.mo pX (pac (pv 0) (pac pe_int (pac pe_int pa_nil)))) pe_int) (pac (pe_op op_add pe_int (pe_fn G_ay hr.mo pX (pac (pv 0) (pac pe_int (pac pe_int pa_nil))))) pa_nil))) pa_nil)))))) pss_nil)
  (pss_cons (ps_set (i:=2) sc_bf.nd rfl (Or.inl rfl) (pe_fn G_am hr.mo pX (pac (pe_op op_sub (pe_fn G_ay hr.mo pX (pac (pv 0) (pac pe_int (pac pe_int pa_nil)))) pe_int) (pac (pe_op op_add pe_int (pe_fn G_ay hr.mo pX (pac (pv 0) (pac pe_int (pac pe_int pa_nil))))) pa_nil))))
  (pss_one (ps_ret (pe_tup (pac (pv 2) (pac (pe_fn G_am hr.mo pX (pac (pe_op op_sub (pe_fn G_ay hr.mo pX (pac (pv 0) (pac pe_int (pac pe_int pa_nil)))) pe_int) (pac (pe_op op_add pe_int (pe_fn G_ay hr.mo pX (pac (pv 0) (pac pe_int (pac pe_int pa_nil))))) pa_nil))) pa_nil)))))))),?_⟩
 refine ⟨_,rfl,rfl,_,rfl,?_⟩
 refine ite2 (fun _=> ?_) (fun _=> ?_)
 ·have i1:=field_in (c:=c) (p:=1009) (m:=4) (by decide)
  have i2:=field_in (c:=c) (p:=2003) (m:=4) (by decide)
  refine ⟨_,rfl,_,_,_,rfl,by decide,by decide,by decide,L2,?_⟩
  intro p1 n1;generalize eX:upd _ p1 _=H1;have ⟨s1,e1⟩:=nw n1 eX;clear eX
  refine ⟨_,rfl,_,_,_,rfl,by decide,by decide,by decide,L2,?_⟩
  intro p2 n2;generalize eX:upd _ p2 _=H2;have ⟨s2,e2⟩:=nw n2 eX;clear eX
  refine ⟨L2,?_⟩
  intro p3 n3;generalize eX:upd _ p3 _=H3;have ⟨s3,e3⟩:=nw n3 eX;clear eX
  exact q p3 _ _ H3 ((s1.trans s2).trans s3) (sz_small (by omega) (by decide)) (sz_small (by omega) (by decide)) (small_le (by omega)) (pt_of e3 (((nm_lit _ e1).same s2).same s3) ((nm_lit _ e2).same s3))
 refine ⟨_,rfl,rfl,_,rfl,?_⟩
 refine ite2 (fun _=> ?_) (fun _=> ?_)
 ·have i1:=field_in (c:=c) (p:=1009) (m:=13) (by decide)
  have i2:=field_in (c:=c) (p:=3001) (m:=3) (by decide)
  have i3:=field_in (c:=c) (p:=2003) (m:=13) (by decide)
  have i4:=field_in (c:=c) (p:=4001) (m:=2) (by decide)
  refine ⟨_,rfl,_,_,_,rfl,by decide,by decide,by decide,_,_,rfl,rfl,_,rfl,_,_,_,rfl,by decide,by decide,by decide,_,_,rfl,rfl,_,_,rfl,by omega,fun p1 H1 s1 e1=> ?_⟩
  rw [low_qr (by omega)] at e1
  refine ⟨_,rfl,_,rfl,_,_,_,rfl,by decide,by decide,by decide,_,_,rfl,rfl,_,rfl,_,_,_,rfl,by decide,by decide,by decide,_,_,rfl,rfl,_,_,rfl,by omega,fun p2 H2 s2 e2=>⟨L2,?_⟩⟩
  rw [low_qr (by omega)] at e2
  intro p3 n3;generalize eX:upd _ p3 _=H3;have ⟨s3,e3⟩:=nw n3 eX;clear eX
  exact q p3 _ _ H3 ((s1.trans s2).trans s3) (sz_frac (by omega) (by omega) (by omega)) (sz_frac (by omega) (by omega) (by omega)) (frac_le (by omega) (by omega)) (pt_of e3 (((nm_of e1).same s2).same s3) ((nm_of e2).same s3))
 ·have i1:=field_in (c:=c) (p:=1000003) (m:=1000003) (by decide)
  have i2:=field_in (c:=c) (p:=3001) (m:=997) (by decide)
  have i3:=field_in (c:=c) (p:=1000033) (m:=1000003) (by decide)
  have i4:=field_in (c:=c) (p:=4001) (m:=997) (by decide)
  refine ⟨_,rfl,_,_,_,rfl,by decide,by decide,by decide,_,_,rfl,rfl,_,rfl,_,_,_,rfl,by decide,by decide,by decide,_,_,rfl,rfl,_,_,rfl,by omega,fun p1 H1 s1 e1=> ?_⟩
  rw [low_qr (by omega)] at e1
  refine ⟨_,rfl,_,rfl,_,_,_,rfl,by decide,by decide,by decide,_,_,rfl,rfl,_,rfl,_,_,_,rfl,by decide,by decide,by decide,_,_,rfl,rfl,_,_,rfl,by omega,fun p2 H2 s2 e2=>⟨L2,?_⟩⟩
  rw [low_qr (by omega)] at e2
  intro p3 n3;generalize eX:upd _ p3 _=H3;have ⟨s3,e3⟩:=nw n3 eX;clear eX
  exact q p3 _ _ H3 ((s1.trans s2).trans s3) (sz_frac (by omega) (by omega) (by omega)) (sz_frac (by omega) (by omega) (by omega)) (frac_le (by omega) (by omega)) (pt_of e3 (((nm_of e1).same s2).same s3) ((nm_of e2).same s3))
inductive spWaysL (K:Frag)(vs:List V)(H:Hp)(Q:VK)(E_:XK):Prop where
 | mk (c:Int) (_:vs=[.int c]) (_:∀(l:Addr) (us:List V) (ws:List (Rat×Rat)) (H' :Hp),WaysOk ws→Same H H' →H l=none→H' l=some (.lst us)→PtsR K H' us ws→Q (.ref l) H'):spWaysL K vs H Q E_
theorem qr_top0 {r:Rat}:(qr r).1=0 ↔ r=0:=⟨qr_zero,fun e=>by rw [e,qr_nought]⟩
theorem sc_bg:FnScope ["_law_cell","_law_kind","_law_x","_law_y"] ["_law_cell"] (defScope s_bg):=sq
theorem ok_bg (D:Def K mg "_law_ways" s_bg ["_law_cell"])(G_ay:Fn P w K mg base (CXr P w) 1 "_law_field" ["_law_cell","_law_prime","_law_many"] spField)(G_am:Fn P w K mg base (CXr P w) 33 "_law_lowest" ["_law_top","_law_bottom"] spLaw_lowestU):Fn P w K mg base (CXr P w) 34 "_law_ways" ["_law_cell"] (spWaysL K):=by
 refine D.ok sc_bg (fun vs H Q E h=> ?_) (fun f cdv A outer s H vs Q E hr h=> ?_)
 ·obtain ⟨c,rfl,_⟩:=h
  rfl
 obtain ⟨c,rfl,q⟩:=h
 have L0:0≤sizeLine:=by decide
 have L1:1≤sizeLine:=by decide
 have L2:2≤sizeLine:=by decide
 refine ⟨_,(pss_cons (ps_set (i:=1) sc_bg.nd rfl (Or.inl rfl) (pe_fn G_ay hr.mo pX (pac (pv 0) (pac pe_int (pac pe_int pa_nil)))))
  (pss_cons (ps_if (pt_cmpR op_lt (pv 1) pe_int (nomark _)) (pss_one (ps_ret (pe_lst pa_nil))) pss_nil)
  (pss_cons (ps_if (pt_cmpR op_lt (pv 1) pe_int (nomark _)) (pss_one (ps_ret (pe_lst (pac (pe_tup (pac (pe_tup (pac pe_int (pac pe_int pa_nil))) (pac (pe_tup (pac pe_int (pac pe_int pa_nil))) pa_nil))) (pac (pe_tup (pac (pe_tup (pac pe_int (pac pe_int pa_nil))) (pac (pe_tup (pac pe_int (pac pe_int pa_nil))) pa_nil))) pa_nil))))) pss_nil)
  (pss_cons (ps_set (i:=2) sc_bg.nd rfl (Or.inl rfl) (pe_fn G_am hr.mo pX (pac (pe_op op_sub (pe_fn G_ay hr.mo pX (pac (pv 0) (pac pe_int (pac pe_int pa_nil)))) pe_int) (pac (pe_op op_add pe_int (pe_fn G_ay hr.mo pX (pac (pv 0) (pac pe_int (pac pe_int pa_nil))))) pa_nil))))
  (pss_cons (ps_set (i:=3) sc_bg.nd rfl (Or.inl rfl) (pe_fn G_am hr.mo pX (pac (pe_op op_sub (pe_fn G_ay hr.mo pX (pac (pv 0) (pac pe_int (pac pe_int pa_nil)))) pe_int) (pac (pe_op op_add pe_int (pe_fn G_ay hr.mo pX (pac (pv 0) (pac pe_int (pac pe_int pa_nil))))) pa_nil))))
  (pss_cons (ps_if (PW.pt (pw_and (pt_cmpR op_eq (pe_tx (pv 2)) pe_int (nomark _)) (pw_and1 (pt_cmpR op_eq (pe_tx (pv 3)) pe_int (nomark _))))) (pss_one (ps_set (i:=3) sc_bg.nd rfl (Or.inl rfl) (pe_tup (pac pe_int (pac pe_int pa_nil))))) pss_nil)
  (pss_one (ps_ret (pe_lst (pac (pe_tup (pac (pv 2) (pac (pv 3) pa_nil))) pa_nil)))))))))),?_⟩
 refine ⟨_,rfl,_,_,_,rfl,by decide,by decide,by decide,?_⟩
 refine ⟨_,rfl,_,_,rfl,rfl,_,rfl,?_⟩
 refine ite2 (fun _=> ?_) (fun _=> ?_)
 ·refine ⟨L0,?_⟩
  intro l nl;generalize eX:upd _ l _=H1;have ⟨s1,e1⟩:=nw nl eX;clear eX
  exact q l [] [] H1 (.inl rfl) s1 nl e1 .nil
 refine ⟨_,rfl,_,_,rfl,rfl,_,rfl,?_⟩
 refine ite2 (fun _=> ?_) (fun _=> ?_)
 ·refine ⟨L2,?_⟩
  intro p1 n1;generalize eX:upd _ p1 _=H1;have ⟨s1,e1⟩:=nw n1 eX;clear eX
  refine ⟨L2,?_⟩
  intro p2 n2;generalize eX:upd _ p2 _=H2;have ⟨s2,e2⟩:=nw n2 eX;clear eX
  refine ⟨L2,?_⟩
  intro p3 n3;generalize eX:upd _ p3 _=H3;have ⟨s3,e3⟩:=nw n3 eX;clear eX
  refine ⟨L2,?_⟩
  intro p4 n4;generalize eX:upd _ p4 _=H4;have ⟨s4,e4⟩:=nw n4 eX;clear eX
  refine ⟨L2,?_⟩
  intro p5 n5;generalize eX:upd _ p5 _=H5;have ⟨s5,e5⟩:=nw n5 eX;clear eX
  refine ⟨L2,?_⟩
  intro p6 n6;generalize eX:upd _ p6 _=H6;have ⟨s6,e6⟩:=nw n6 eX;clear eX
  refine ⟨L2,?_⟩
  intro p7 n7;generalize eX:upd _ p7 _=H7;have ⟨s7,e7⟩:=nw n7 eX;clear eX
  have sh:=s1.trans (s2.trans (s3.trans (s4.trans (s5.trans s6))))
  have w1:PtR K H7 (.ref p3) (1,0):=pt_mk qr_one qr_nought (s7 _ _ (s6 _ _ (s5 _ _ (s4 _ _ e3)))) (s7 _ _ (s6 _ _ (s5 _ _ (s4 _ _ (s3 _ _ (s2 _ _ e1)))))) (s7 _ _ (s6 _ _ (s5 _ _ (s4 _ _ (s3 _ _ e2)))))
  have w2:PtR K H7 (.ref p6) (0,1):=pt_mk qr_nought qr_one (s7 _ _ e6) (s7 _ _ (s6 _ _ (s5 _ _ e4))) (s7 _ _ (s6 _ _ e5))
  exact q p7 _ [(1,0),(0,1)] _ (.inr (.inr rfl)) (sh.trans s7) (sh.free n7) e7 (.cons w1 (.cons w2 .nil))
 have i1:=field_in (c:=c) (p:=6007) (m:=7) (by decide)
 have i2:=field_in (c:=c) (p:=7001) (m:=3) (by decide)
 have i3:=field_in (c:=c) (p:=8009) (m:=7) (by decide)
 have i4:=field_in (c:=c) (p:=9001) (m:=2) (by decide)
 refine ⟨_,rfl,_,_,_,rfl,by decide,by decide,by decide,_,_,rfl,rfl,_,rfl,_,_,_,rfl,by decide,by decide,by decide,_,_,rfl,rfl,_,_,rfl,by omega,fun p1 H1 s1 e1=> ?_⟩
 rw [low_qr (by omega)] at e1
 refine ⟨_,rfl,_,_,_,rfl,by decide,by decide,by decide,_,_,rfl,rfl,_,rfl,_,_,_,rfl,by decide,by decide,by decide,_,_,rfl,rfl,_,_,rfl,by omega,fun p2 H2 s2 e2=> ?_⟩
 rw [low_qr (by omega)] at e2
 have z1:=sz_frac (t:=field c 6007 7 - 3) (b:=1+field c 7001 3) (by omega) (by omega) (by omega)
 have z2:=sz_frac (t:=field c 8009 7 - 3) (b:=1+field c 9001 2) (by omega) (by omega) (by omega)
 generalize ((field c 6007 7 - 3:Int):Rat) / ((1+field c 7001 3:Int):Rat)=x at e1 z1 ⊢
 generalize ((field c 8009 7 - 3:Int):Rat) / ((1+field c 9001 2:Int):Rat)=y at e2 z2 ⊢
 have e1' :=s2 _ _ e1
 have s12:=s1.trans s2
 have fin:∀(v:V) (y' :Rat) (H3:Hp),Same H2 H3→NmR K H3 v y' →Sz 22 y' →¬ (x=0∧y' =0)→∀(p:Addr) (l:Addr) (H5:Hp),Same H3 H5→H3 l=none→H5 p=some (.tup [.ref p1,v])→H5 l=some (.lst [.ref p])→Q (.ref l) H5:=fun v y' H3 s3 hv zy hn p l H5 s5 nl ep el=>
  q l [.ref p] [(x,y')] H5 (.inr (.inl ⟨x,y',rfl,hn,z1.up (by decide),zy⟩)) (s12.trans (s3.trans s5)) ((s12.trans s3).free nl) el (.cons (pt_of ep (((nm_of e1').same s3).same s5) (hv.same s5)) .nil)
 refine ⟨_,rfl,p1,_,_,_,rfl,rfl,SqT.of e1',at0,rfl,_,rfl,?_⟩
 refine ite2 (fun c1=> ?_) (fun c1=> ?_)
 ·have c1' :x=0:=qr_top0.mp (by simpa using of_decide_eq_true c1)
  refine ⟨_,rfl,p2,_,_,_,rfl,rfl,SqT.of e2,at0,rfl,_,rfl,?_⟩
  refine ite2 (fun c2=> ?_) (fun c2=> ?_)
  ·refine ⟨L2,?_⟩
   intro p3 n3;generalize eX:upd _ p3 _=H3;have ⟨s3,e3⟩:=nw n3 eX;clear eX
   refine ⟨_,rfl,_,rfl,L2,?_⟩
   intro p4 n4;generalize eX:upd _ p4 _=H4;have ⟨s4,e4⟩:=nw n4 eX;clear eX
   refine ⟨L1,?_⟩
   intro l5 n5;generalize eX:upd _ l5 _=H5;have ⟨s5,e5⟩:=nw n5 eX;clear eX
   exact fin (.ref p3) 1 H3 s3 (nm_lit 1 e3) (sz_small (i:=1) (by decide) (by decide)) (fun z=>absurd z.2 (by decide)) p4 l5 H5 (s4.trans s5) (s4.free n5) (s5 _ _ e4) e5
  ·have c2' :¬ y=0:=fun z=>c2 (by rw [z,qr_nought];decide)
   refine ⟨_,rfl,_,rfl,L2,?_⟩
   intro p4 n4;generalize eX:upd _ p4 _=H4;have ⟨s4,e4⟩:=nw n4 eX;clear eX
   refine ⟨L1,?_⟩
   intro l5 n5;generalize eX:upd _ l5 _=H5;have ⟨s5,e5⟩:=nw n5 eX;clear eX
   exact fin (.ref p2) y H2 (Same.refl _) (nm_of e2) (z2.up (by decide)) (fun z=>c2' z.2) p4 l5 H5 (s4.trans s5) (s4.free n5) (s5 _ _ e4) e5
 ·have c1' :¬ x=0:=fun z=>c1 (by rw [z,qr_nought];decide)
  refine iteF ?_
  refine ⟨_,rfl,_,rfl,L2,?_⟩
  intro p4 n4;generalize eX:upd _ p4 _=H4;have ⟨s4,e4⟩:=nw n4 eX;clear eX
  refine ⟨L1,?_⟩
  intro l5 n5;generalize eX:upd _ l5 _=H5;have ⟨s5,e5⟩:=nw n5 eX;clear eX
  exact fin (.ref p2) y H2 (Same.refl _) (nm_of e2) (z2.up (by decide)) (fun z=>c1' z.1) p4 l5 H5 (s4.trans s5) (s4.free n5) (s5 _ _ e4) e5
inductive PinX (K:Frag)(H:Hp)(d:Addr)(v:V)(p:PinD):Prop where
 | mk (a l:Addr) (s:V) (us:List V) (_:v=.ref a) (_:SqT K H a [.str p.nm,s,.ref l]) (_:PtR K H s p.sp) (_:H l=some (.lst us)) (_:PtsR K H us p.ws) (_:l≠d):PinX K H d v p
inductive PinR (K:Frag)(H:Hp)(v:V)(p:PinD):Prop where
 | mk (a l:Addr) (s:V) (us:List V) (_:v=.ref a) (_:SqT K H a [.str p.nm,s,.ref l]) (_:PtR K H s p.sp) (_:H l=some (.lst us)) (_:PtsR K H us p.ws):PinR K H v p
inductive BarR (K:Frag)(H:Hp)(pins:List PinD)(v:V)(b:BarD):Prop where
 | mk (a:Addr) (i j:Nat) (_:v=.ref a) (_:SqT K H a [.str b.nm,.int (i:Int),.int (j:Int)]) (_:pins[i]? =some b.one) (_:pins[j]? =some b.other):BarR K H pins v b
section
variable {K:Frag}{H H' :Hp}{v:V}{p:PinD}{d:Addr}
theorem PinX.same (h:PinX K H d v p)(s:Same H H'):PinX K H' d v p:=by
 obtain ⟨a,l,sv,us,e,h1,h2,h3,h4,h5⟩:=h
 exact ⟨a,l,sv,us,e,Ty.Same.seqT s h1,h2.same s,s _ _ h3,h4.same s,h5⟩
theorem PinX.upd {xs:List V}{o:HO}(h:PinX K H d v p)(e:H d=some (.lst xs)):PinX K (L2.upd H d o) d v p:=by
 obtain ⟨a,l,sv,us,ev,h1,h2,h3,h4,h5⟩:=h
 have t:SameT H (L2.upd H d o):=.list e
 exact ⟨a,l,sv,us,ev,t.seqT h1,h2.sameT t,by rw [upd_ne h5];exact h3,h4.sameT t,h5⟩
theorem PinX.r (h:PinX K H d v p):PinR K H v p:=by
 obtain ⟨a,l,sv,us,e,h1,h2,h3,h4,_⟩:=h
 exact ⟨a,l,sv,us,e,h1,h2,h3,h4⟩
theorem PinR.same (h:PinR K H v p)(s:Same H H'):PinR K H' v p:=by
 obtain ⟨a,l,sv,us,e,h1,h2,h3,h4⟩:=h
 exact ⟨a,l,sv,us,e,Ty.Same.seqT s h1,h2.same s,s _ _ h3,h4.same s⟩
theorem BarR.same {pins:List PinD}{b:BarD}(h:BarR K H pins v b)(s:Same H H'):BarR K H' pins v b:=by
 obtain ⟨a,i,j,e,h1,h2,h3⟩:=h
 exact ⟨a,i,j,e,Ty.Same.seqT s h1,h2,h3⟩
end
structure GoodP (pins:List PinD):Prop where
 np:(pins.map (·.nm)).Nodup
 ns:(pins.map (·.sp)).Nodup
 sz:∀p∈pins,Sz 24 p.sp.1∧Sz 24 p.sp.2
 ws:∀p∈pins,WaysOk p.ws
theorem WaysOk.sz {ws:List (Rat×Rat)}(h:WaysOk ws):∀w∈ws,Sz 22 w.1∧Sz 22 w.2:=fun w hw=>by
 rcases h with rfl | ⟨x,y,rfl,_,h1,h2⟩ | rfl
 ·cases hw
 ·have:w=(x,y):=by simpa using hw
  rw [this]
  exact ⟨h1,h2⟩
 ·have e1:Sz 22 (1:Rat):=sz_small (k:=22) (i:=1) (by decide) (by decide)
  have e0:Sz 22 (0:Rat):=sz_zero (by decide)
  have:w=(1,0)∨w=(0,1):=by simpa using hw
  rcases this with rfl | rfl
  ·exact ⟨e1,e0⟩
  ·exact ⟨e0,e1⟩
theorem WaysOk.len {ws:List (Rat×Rat)}(h:WaysOk ws):ws.length≤2:=by
 rcases h with rfl | ⟨x,y,rfl,_⟩ | rfl <;> simp
theorem GoodP.snoc {pins:List PinD}{p:PinD}(g:GoodP pins)(h1:p.nm∉pins.map (·.nm))(h2:p.sp∉pins.map (·.sp))(h3:Sz 24 p.sp.1∧Sz 24 p.sp.2)(h4:WaysOk p.ws):GoodP (pins++[p]):=by
 refine ⟨?_,?_,fun q hq=> ?_,fun q hq=> ?_⟩
 ·rw [List.map_append,List.nodup_append]
  refine ⟨g.np,by simp,fun a ha b hb e=>h1 ?_⟩
  have:b=p.nm:=by simpa using hb
  rw [← this, ← e]
  exact ha
 ·rw [List.map_append,List.nodup_append]
  refine ⟨g.ns,by simp,fun a ha b hb e=>h2 ?_⟩
  have:b=p.sp:=by simpa using hb
  rw [← this, ← e]
  exact ha
 ·rcases List.mem_append.mp hq with z | z
  ·exact g.sz q z
  ·rw [List.mem_singleton.mp z]
   exact h3
 ·rcases List.mem_append.mp hq with z | z
  ·exact g.ws q z
  ·rw [List.mem_singleton.mp z]
   exact h4
structure GoodB (pins:List PinD)(bars:List BarD):Prop where
 nb:(bars.map (·.nm)).Nodup
 ends:∀b∈bars,b.one∈pins∧b.other∈pins∧b.one.nm≠b.other.nm
theorem paired_snoc {α β:Type}{F:α→β→Prop}:∀{l₁:List α} {l₂:List β} {a:α} {b:β},Paired F l₁ l₂→F a b→Paired F (l₁++[a]) (l₂++[b])
 | _,_,_,_,.nil,h=>.cons h .nil
 | _,_,_,_,.cons h t,h' =>.cons h (paired_snoc t h')
theorem seq_rest {t u:TS}{D:Ends}{σ:L2.St}{H:Hp}(inv:L2.St→Hp→Prop)(h1:∀N:L2.St→Hp→Prop,(∀σ' H',inv σ' H' →N σ' H')→t {D with nx:=N} σ H)(h2:∀σ' H',inv σ' H' →u D σ' H'):tSeq t u D σ H:=h1 _ h2
theorem goodF {pins:List PinD}{bars:List BarD}(g:GoodP pins)(b:GoodB pins bars)(lp:pins.length≤7)(lb:bars.length≤8):GoodF pins bars:=
 ⟨g.np,b.nb,b.ends,fun p hp=>⟨(g.sz p hp).1,(g.sz p hp).2,(g.ws p hp).sz⟩,lp,lb,fun p hp=>(g.ws p hp).len⟩
theorem b_min:bootBuiltins "min"=some (.builtin "min"):=by decide+kernel
def cnt (pins:List PinD)(x:Rat):Nat:=(pins.filter fun p=>decide (x≤p.sp.1)).length
theorem cnt_le (x:Rat):∀pins:List PinD,cnt pins (x+1)≤cnt pins x
 | []=>Nat.le_refl _
 | p::ps=>by
  have ih:=cnt_le x ps
  unfold cnt at ih ⊢
  rw [List.filter_cons,List.filter_cons]
  by_cases c:x+1≤p.sp.1
  ·have c2:x≤p.sp.1:=by grind
   rw [if_pos (decide_eq_true c),if_pos (decide_eq_true c2)]
   simpa using ih
  ·rw [if_neg (by simpa using c)]
   split
   ·rw [List.length_cons]
    omega
   ·exact ih
theorem cnt_lt {x:Rat}:∀{pins:List PinD},(∃p∈pins,p.sp.1=x)→cnt pins (x+1) < cnt pins x
 | [],⟨p,h,_⟩=>by simp at h
 | p::ps,⟨q,hq,e⟩=>by
  unfold cnt
  rw [List.filter_cons,List.filter_cons]
  by_cases c0:p.sp.1=x
  ·have c:¬ x+1≤p.sp.1:=by grind
   have c2:x≤p.sp.1:=by grind
   rw [if_neg (by simpa using c),if_pos (decide_eq_true c2),List.length_cons]
   have:=cnt_le x ps
   unfold cnt at this
   omega
  ·have hq' :q∈ps:=by
    rcases List.mem_cons.mp hq with z | z
    ·exact absurd (by rw [← z];exact e) c0
    ·exact z
   have ih:=cnt_lt (pins:=ps) ⟨q,hq',e⟩
   unfold cnt at ih
   by_cases c:x+1≤p.sp.1
   ·have c2:x≤p.sp.1:=by grind
    rw [if_pos (decide_eq_true c),if_pos (decide_eq_true c2)]
    simpa using ih
   ·rw [if_neg (by simpa using c)]
    split
    ·rw [List.length_cons]
     omega
    ·exact ih
theorem cnt_len (pins:List PinD)(x:Rat):cnt pins x≤pins.length:=List.length_filter_le _ _
theorem qr_succ (r:Rat):addI (qr r) (1,1)=qr (r+1):=by
 have e:addI (qr r) (1,1)=((qr r).1+(qr r).2,(qr r).2):=by
  unfold addI
  simp
 have g:Int.gcd ((qr r).1+(qr r).2) (qr r).2=1:=by
  have:=qr_gcd r
  rw [← this]
  simp
 rw [e,qr_of (q:=((qr r).1+(qr r).2,(qr r).2)) (qr_pos r) g]
 congr 1
 have z:=ratz (r:=r)
 have v:=vl_qr r
 unfold vl at v ⊢
 push_cast
 grind
theorem ns_sz {k:Nat}{r:Rat}(h:Sz k r):Ns k (qr r):=⟨Nat.le_of_lt (intBits_le_iff.mp h.top),Nat.le_of_lt (intBits_le_iff.mp h.bot)⟩
theorem many_at:∀i:Fin 10,∃N:Fin 6,atI [V.int 0,.int 1,.int 2,.int 2,.int 3,.int 3,.int 3,.int 4,.int 4,.int 5] (i.val:Int)=some (.int (N.val:Int)):=by decide+kernel
theorem names_len:∀st:Fin 3,∀a:Fin 6,∀k:Fin 12,1≤(nameOf (st.val:Int) (a.val:Int) (k.val:Int)).length∧(nameOf (st.val:Int) (a.val:Int) (k.val:Int)).length≤40:=by decide+kernel
inductive spPinsL (K:Frag)(vs:List V)(H:Hp)(Q:VK)(E_:XK):Prop where
 | mk (sA:Addr) (ns:List Int) (_:vs=[.ref sA]) (_:SqL K H sA (ns.map V.int)) (_:∀(l:Addr) (us:List V) (pins:List PinD) (H' :Hp),Same H H' →H l=none→H' l=some (.lst us)→Paired (PinR K H') us pins→GoodP pins→pins.length≤5→(∀p∈pins,(1≤p.nm.length∧p.nm.length≤40)∧p.sp.1≤500010)→Q (.ref l) H'):spPinsL K vs H Q E_
theorem sc_bh:FnScope ["_law_script","_law_cell","_law_many","_law_kind","_law_pins_here","_law_k","_law_spot_here"] ["_law_script"] (defScope s_bh):=sq
theorem ok_bh (D:Def K mg "_law_pins" s_bh ["_law_script"])(m_range:mg "range"=none)(m_min:mg "min"=none)(G_ad:Fn P w K mg base (CXr P w) 1 "_law_cell_at" ["_law_script","_law_k"] (spCell K))(G_ay:Fn P w K mg base (CXr P w) 1 "_law_field" ["_law_cell","_law_prime","_law_many"] spField)
  (G_bf:Fn P w K mg base (CXr P w) 34 "_law_spot" ["_law_cell","_law_kind"] (spSpotL K)) (G_bg:Fn P w K mg base (CXr P w) 34 "_law_ways" ["_law_cell"] (spWaysL K)) (G_be:Fn P w K mg base (CXr P w) 2 "_law_name" ["_law_cell","_law_k"] spName) (G_bp:Fn P w K mg base (CXr P w) 1 "_law_sum" ["_law_one","_law_other"] (spSumI K addI)):
  Fn P w K mg base (CXr P w) 35 "_law_pins" ["_law_script"] (spPinsL K):=by
 refine D.ok sc_bh (fun vs H Q E h=> ?_) (fun f cdv A outer s H vs Q E hr h=> ?_)
 ·obtain ⟨sA,ns,rfl,_⟩:=h
  rfl
 obtain ⟨sA,ns,rfl,hS,q⟩:=h
 have L2:2≤sizeLine:=by decide
 have L3:3≤sizeLine:=by decide
 refine ⟨_,(pss_cons (ps_set (i:=1) sc_bh.nd rfl (Or.inl rfl) (pe_fn G_ad hr.mo pX (pac (pv 0) (pac pe_int pa_nil))))
  (pss_cons (ps_set (i:=2) sc_bh.nd rfl (Or.inl rfl) (pe_ix ix_list (pe_lst (pac pe_int (pac pe_int (pac pe_int (pac pe_int (pac pe_int (pac pe_int (pac pe_int (pac pe_int (pac pe_int (pac pe_int pa_nil))))))))))) (pe_fn G_ay hr.mo pX (pac (pv 1) (pac pe_int (pac pe_int pa_nil)))) (fun _ _=>rfl)))
  (pss_cons (ps_set (i:=3) sc_bh.nd rfl (Or.inl rfl) (pe_fn G_ay hr.mo pX (pac (pv 1) (pac pe_int (pac pe_int pa_nil)))))
  (pss_cons (ps_if (pt_cmpR op_eq (pv 3) pe_int (nomark _)) (pss_one (ps_set (i:=2) sc_bh.nd rfl (Or.inl rfl) (pe_callB (call_min2 rfl) rfl m_min b_min (pac (pv 2) (pac pe_int pa_nil))))) pss_nil)
  (pss_cons (ps_set (i:=4) sc_bh.nd rfl (Or.inl rfl) (pe_lst pa_nil))
  (pss_cons (ps_for PassesOwn.never rfl (pi_range1 rfl m_range (pac (pv 2) pa_nil)) (pg_name (i:=5) sc_bh.nd rfl (Or.inl rfl)) (pss_cons (ps_set (i:=6) sc_bh.nd rfl (Or.inl rfl) (pe_fn G_bf hr.mo pX (pac (pe_fn G_ad hr.mo pX (pac (pv 0) (pac (pe_op op_add pe_int (pv 5)) pa_nil))) (pac (pv 3) pa_nil))))
   (pss_cons (ps_while PassesOwn.never (pt_cmpR (op_inPt hr.units) (pv 6) (pe_comp (tn:=["_law_pin"]) (fr:=[]) (caps:=[]) rfl ⟨rfl,by decide+kernel,rfl,by decide+kernel,by decide+kernel,rfl,trivial,trivial⟩ (pi_list (pv 4)) (fun _ _ _ _=>(pg_name (i:=0) (show (["_law_pin"]:List Str).Nodup from by decide+kernel) rfl (Or.inl rfl))) (fun _ _ _ _=>pf_nil) (fun _ _ _ _=>(pe_ix (ix_tupK (K:=K) rfl) (pv 0) pe_int (fun _ _=>rfl)))) rfl) (pss_one (ps_set (i:=6) sc_bh.nd rfl (Or.inl rfl) (pe_tup (pac (pe_fn G_bp hr.mo pX (pac (pe_tx (pv 6)) (pac (pe_tup (pac pe_int (pac pe_int pa_nil))) pa_nil))) (pac (pe_tx (pv 6)) pa_nil))))))
   (pss_one (ps_expr (pe_bm PySem.F.plainAttrs_list PySem.F.slot_list_append PySem.F.type_list_append mt_append (pv 4) (pac (pe_tup (pac (pe_fn G_be hr.mo pX (pac (pv 1) (pac (pv 5) pa_nil))) (pac (pv 6) (pac (pe_fn G_bg hr.mo pX (pac (pe_fn G_ad hr.mo pX (pac (pv 0) (pac (pe_op op_add pe_int (pv 5)) pa_nil))) pa_nil)) pa_nil)))) pa_nil)))))))
  (pss_one (ps_ret (pv 4))))))))),?_⟩
 refine ⟨_,rfl,sA,ns,0,rfl,hS,by decide,by decide,?_⟩
 generalize cell ns 0=c0
 refine ⟨(by show 10≤sizeLine;decide),?_⟩
 intro t0 nt0;generalize eX:upd _ t0 _=H0;have ⟨st0,et0⟩:=nw nt0 eX;clear eX
 have i1:=field_in (c:=c0) (p:=1009) (m:=10) (by decide)
 refine ⟨_,rfl,_,_,_,rfl,by decide,by decide,by decide,?_⟩
 generalize field c0 1009 10=fi at i1 ⊢
 obtain ⟨fn,rfl⟩:∃n:Nat,fi=(n:Int):=⟨fi.toNat,by omega⟩
 obtain ⟨N,eN⟩:=many_at ⟨fn,by omega⟩
 refine ⟨t0,_,_,_,rfl,rfl,SqL.of et0,eN,?_⟩
 refine ⟨_,rfl,_,_,_,rfl,by decide,by decide,by decide,?_⟩
 generalize field c0 2003 3=kind
 dsimp only
 refine seq_rest (fun σ' H' =>∃N:Nat,N≤5∧σ' =[some (.ref sA),some (.int c0),some (.int (N:Int)),some (.int kind),none,none,none]∧H' =H0) (fun Nx hNx=> ?_) ?_
 ·refine ⟨_,rfl,rfl,_,rfl,?_⟩
  refine ite2 (fun _=> ?_) (fun _=> ?_)
  ·have hN:=N.isLt
   refine ⟨_,rfl,_,_,rfl,?_⟩
   refine hNx _ _ ⟨min N.val 4,by omega,?_,rfl⟩
   have:(if (4:Int) < (N.val:Int) then (4:Int) else (N.val:Int))=((min N.val 4:Nat):Int):=by
    split <;> omega
   rw [this]
   rfl
  ·exact hNx _ _ ⟨N.val,by have:=N.isLt;omega,rfl,rfl⟩
 rintro σ' H' ⟨N,hN,rfl,rfl⟩
 refine ⟨(by show 0≤sizeLine;decide),?_⟩
 intro lp np;generalize eX:upd _ lp _=H1;have ⟨sp,ep⟩:=nw np eX;clear eX
 have s01:=st0.trans sp
 have nlp:H lp=none:=st0.free np
 refine ⟨_,rfl,(N:Int),rfl,by omega,by omega,for_range (lo:=0) (n:=N) (fun i σ H' =>∃(o5 o6:Option V) (us:List V) (pins:List PinD),σ=[some (.ref sA),some (.int c0),some (.int (N:Int)),some (.int kind),some (.ref lp),o5,o6]∧Same H H' ∧H' lp=some (.lst us)∧Paired (PinX K H' lp) us pins∧GoodP pins∧pins.length=i∧∀p∈pins,∃j,j < i∧p.nm=nameOf (field c0 3001 3) (field c0 4001 6) (j:Int)∧p.sp.1≤500010) ⟨none,none,[],[],rfl,s01,ep,.nil,⟨by simp,by simp,by simp,by simp⟩,rfl,by simp⟩ ?_ ?_⟩
 ·rintro i σ H2 hi ⟨o5,o6,us,pins,rfl,s2,e2,pp,gp,lpi,nm⟩
  have ei:(0:Int)+(i:Int)=(i:Int):=Int.zero_add _
  rw [ei]
  have lu:us.length=pins.length:=Paired.length pp
  refine ⟨_,rfl,_,rfl,_,_,rfl,rfl,sA,ns,_,rfl,s2.seq hS,by omega,by omega,_,rfl,?_⟩
  refine ⟨_,_,rfl,fun p3 x0 y0 H3 s3 zx zy xb h3=> ?_⟩
  have s23:=s2.trans s3
  have h30:PtR K H3 (.ref p3) (x0+((0:Nat):Rat),y0):=by
   have e:x0+((0:Nat):Rat)=x0:=by
    have:((0:Nat):Rat)=0:=by rfl
    rw [this]
    grind
   rw [e]
   exact h3
  dsimp only
  refine seq_rest (fun σ' H' =>∃(sv:V) (x:Rat),σ' =[some (.ref sA),some (.int c0),some (.int (N:Int)),some (.int kind),some (.ref lp),some (.int (i:Int)),some sv]∧Same H3 H' ∧PtR K H' sv (x,y0)∧(Sz 24 x∧x≤500010)∧(x,y0)∉pins.map (·.sp)) (fun Nx hNx=> ?_) ?_
  ·refine ⟨fun m σ H' =>∃(sv:V) (j:Nat),σ=[some (.ref sA),some (.int c0),some (.int (N:Int)),some (.int kind),some (.ref lp),some (.int (i:Int)),some sv]∧Same H3 H' ∧PtR K H' sv (x0+(j:Rat),y0)∧m=cnt pins (x0+(j:Rat))∧j+cnt pins (x0+(j:Rat))≤pins.length,⟨_,_,0,rfl,Same.refl _,h30,rfl,by have:=cnt_len pins (x0+((0:Nat):Rat));omega⟩,?_⟩
   rintro m σ H4 ⟨sv,j,rfl,s4,h4,rfl,hj⟩
   have e4:=(s3.trans s4) _ _ e2
   have pp4:Paired (PinX K H4 lp) us pins:=Paired.mapP pp fun _ _ z=>z.same (s3.trans s4)
   have zj:Sz 24 (x0+(j:Rat)):=(zx.add (sz_int (i:=(j:Int)) (k:=3) (show _ < 8 by omega) (by decide))).up (by decide)
   refine ⟨_,rfl,_,rfl,lp,rfl,⟨_,SqL.of e4⟩,fun D1 n1=> ?_⟩
   refine comp_list (cap:=[]) (K:=K) (a:=lp) (xs:=us) (fun i v H=>∃p,pins[i]? =some p∧PtR K H v p.sp) n1 (by rw [lu];exact Nat.lt_of_le_of_lt (show pins.length≤1000 by omega) (by decide)) (fun H2 s2=>SqL.of (s2 _ _ e4)) (fun _ _ _ _ _ h0 ks h=>by
     obtain ⟨p,h1,h2⟩:=h
     refine ⟨p,h1,h2.sameT fun b xs r=> ?_⟩
     rcases r with r | ⟨o',r⟩
     ·exact .inl (ks _ _ (fun e=>by rw [e,h0] at r;cases r) r)
     ·exact .inr ⟨o',ks _ _ (fun e=>by rw [e,h0] at r;cases r) r⟩) ?_ ?_
   ·intro jj u H6 R hu s6 k
    obtain ⟨p,ep',hp⟩:=paired_get pp4 hu
    obtain ⟨a,l,sv,us',rfl,h1,h2,_⟩:=hp
    exact ⟨_,rfl,a,_,_,_,rfl,rfl,Ty.Same.seqT s6 h1,rfl,k _ _ (Same.refl _) ⟨p,ep',h2.same s6⟩⟩
   intro ys H6 hy hrel s6 hD
   have pq:PtsR K H6 ys (pins.map (·.sp)):=paired_of (by rw [List.length_map,hy,lu]) fun j u q' e1' e2' =>by
    obtain ⟨p,h1,h2⟩:=hrel j u e1'
    rw [List.getElem?_map,h1] at e2'
    cases e2'
    exact h2
   have h6:=h4.same s6
   refine ⟨(x0+(j:Rat),y0),D1,ys,_,rfl,SqL.of hD,h6,pq,_,rfl,?_⟩
   refine ite2 (fun cc=> ?_) (fun cc=> ?_)
   ·have mem:(x0+(j:Rat),y0)∈pins.map (·.sp):=by simpa using cc
    obtain ⟨p,hp,ep'⟩:=List.mem_map.mp mem
    have lt:=cnt_lt (x:=x0+(j:Rat)) ⟨p,hp,by rw [ep']⟩
    have ej:x0+(j:Rat)+1=x0+((j+1:Nat):Rat):=by
     push_cast
     grind
    rw [ej] at lt
    refine ⟨fun σ' H' =>∃(sv:V),σ' =[some (.ref sA),some (.int c0),some (.int (N:Int)),some (.int kind),some (.ref lp),some (.int (i:Int)),some sv]∧Same H3 H' ∧PtR K H' sv (x0+((j+1:Nat):Rat),y0),fun σ' H' ⟨sv',h1,h2,h3⟩=>⟨_,lt,sv',j+1,h1,h2,h3,rfl,by omega⟩,?_⟩
    obtain ⟨sa,u1,u2,rfl,hsq,hn1,hn2⟩:=h6
    refine ⟨_,rfl,sa,_,_,_,rfl,rfl,hsq,at0,L2,?_⟩
    intro p7 n7;generalize eX:upd _ p7 _=H7;have ⟨s7,e7⟩:=nw n7 eX;clear eX
    refine ⟨u1,.ref p7,qr (x0+(j:Rat)),(1,1),24,1,rfl,hn1.same s7,⟨p7,rfl,SqT.of e7⟩,ns_sz zj,⟨by decide,by decide⟩,by decide,fun p8 H8 s8 e8=> ?_⟩
    rw [qr_succ,ej] at e8
    refine ⟨_,rfl,sa,_,_,_,rfl,rfl,Ty.Same.seqT (s7.trans s8) hsq,at1,L2,?_⟩
    intro p9 n9;generalize eX:upd _ p9 _=H9;have ⟨s9,e9⟩:=nw n9 eX;clear eX
    have s69:=(s7.trans s8).trans s9
    exact ⟨.ref p9,rfl,(s4.trans s6).trans s69,pt_of e9 ((nm_of e8).same s9) (hn2.same s69)⟩
   ·have fresh:(x0+(j:Rat),y0)∉pins.map (·.sp):=by simpa using cc
    exact hNx _ _ ⟨sv,x0+(j:Rat),rfl,s4.trans s6,h6,⟨zj,(by have hj' :((j:Int):Rat)≤((5:Int):Rat):=Rat.intCast_le_intCast.mpr (by omega);have e1:((j:Int):Rat)=(j:Rat):=rfl;have e2:((5:Int):Rat)=5:=rfl;rw [e1,e2] at hj';grind)⟩,fresh⟩
  rintro σ' H4 ⟨sv,x,rfl,s4,h4,⟨zx',xb'⟩,fresh⟩
  have s24:=s3.trans s4
  have s04:=s2.trans s24
  have e4:=s24 _ _ e2
  have pp4:Paired (PinX K H4 lp) us pins:=Paired.mapP pp fun _ _ z=>z.same s24
  refine ⟨_,rfl,.inl ⟨rfl,_,SqL.of e4⟩,_,rfl,_,rfl,_,_,rfl,by omega,by omega,_,rfl,?_⟩
  refine ⟨_,rfl,_,rfl,_,_,rfl,rfl,sA,ns,_,rfl,s04.seq hS,by omega,by omega,?_⟩
  refine ⟨_,rfl,fun l8 us8 ws H8 wk s8 n8 e8 p8=>⟨L3,?_⟩⟩
  intro p9 n9;generalize eX:upd _ p9 _=H9;have ⟨s9,e9⟩:=nw n9 eX;clear eX
  have s49:=s8.trans s9
  have e49:=s49 _ _ e4
  have pp9:Paired (PinX K H9 lp) us pins:=Paired.mapP pp4 fun _ _ z=>z.same s49
  refine ⟨lp,_,_,rfl,rfl,e49,(by rw [lu];exact Nat.lt_of_le_of_lt (show pins.length≤1000 by omega) (by decide)),?_⟩
  have hsp:PinX K H9 lp (.ref p9) ⟨nameOf (field c0 3001 3) (field c0 4001 6) (i:Int),(x,y0),ws⟩:=⟨p9,l8,sv,us8,rfl,SqT.of e9,h4.same s49,s9 _ _ e8,p8.same s9,fun z=>by rw [z,e4] at n8;cases n8⟩
  refine ⟨_,_,_,pins++[⟨nameOf (field c0 3001 3) (field c0 4001 6) (i:Int),(x,y0),ws⟩],rfl,fun b o z=> ?_,upd_same,paired_snoc (Paired.mapP pp9 fun _ _ z=>z.upd e49) (hsp.upd e49),gp.snoc (fun z=> ?_) fresh ⟨zx',zy.up (by decide)⟩ wk,by simp [lpi],fun p hp=> ?_⟩
  ·rw [upd_ne (ne_of_none z nlp)]
   exact s49 _ _ (s04 _ _ z)
  ·obtain ⟨p,hp,ep'⟩:=List.mem_map.mp z
   obtain ⟨j,hj,ej,_⟩:=nm p hp
   have i3:=field_in (c:=c0) (p:=3001) (m:=3) (by decide)
   have i4:=field_in (c:=c0) (p:=4001) (m:=6) (by decide)
   have:=names_ne ⟨(field c0 3001 3).toNat,by omega⟩ ⟨(field c0 4001 6).toNat,by omega⟩ ⟨j,by omega⟩ ⟨i,by omega⟩ (fun z=>by
    have:=congrArg Fin.val z
    simp at this
    omega)
   refine this ?_
   show nameOf (((field c0 3001 3).toNat:Nat):Int) (((field c0 4001 6).toNat:Nat):Int) (j:Int)=nameOf (((field c0 3001 3).toNat:Nat):Int) (((field c0 4001 6).toNat:Nat):Int) (i:Int)
   rw [show (((field c0 3001 3).toNat:Nat):Int)=field c0 3001 3 by omega,show (((field c0 4001 6).toNat:Nat):Int)=field c0 4001 6 by omega, ← ej]
   exact ep'
  ·rcases List.mem_append.mp hp with z | z
   ·obtain ⟨j,hj,ej,eb⟩:=nm p z
    exact ⟨j,by omega,ej,eb⟩
   ·rw [List.mem_singleton.mp z]
    exact ⟨i,by omega,rfl,xb'⟩
 ·rintro σ H2 ⟨o5,o6,us,pins,rfl,s2,e2,pp,gp,lpi,nm⟩
  refine ⟨_,rfl,q lp us pins H2 s2 nlp e2 (Paired.mapP pp fun _ _ z=>z.r) gp (by omega) fun p hp=> ?_⟩
  obtain ⟨j,hj,ej,eb⟩:=nm p hp
  refine ⟨?_,eb⟩
  rw [ej]
  have f1:=field_in (c:=c0) (p:=3001) (m:=3) (by decide)
  have f2:=field_in (c:=c0) (p:=4001) (m:=6) (by decide)
  obtain ⟨u,hu⟩:∃n:Nat,field c0 3001 3=(n:Int):=⟨(field c0 3001 3).toNat,by omega⟩
  obtain ⟨v,hv⟩:∃n:Nat,field c0 4001 6=(n:Int):=⟨(field c0 4001 6).toNat,by omega⟩
  rw [hu,hv]
  exact names_len ⟨u,by omega⟩ ⟨v,by omega⟩ ⟨j,by omega⟩
inductive spBarsL (K:Frag)(vs:List V)(H:Hp)(Q:VK)(E_:XK):Prop where
 | mk (sA pA:Addr) (ns:List Int) (us:List V) (pins:List PinD) (_:vs=[.ref sA,.ref pA]) (_:SqL K H sA (ns.map V.int)) (_:H pA=some (.lst us)) (_:us.length=pins.length) (_:(pins.map (·.nm)).Nodup) (_:pins.length≤6) (_:∀(l:Addr) (vs' :List V) (bars:List BarD) (H' :Hp),Same H H' →H l=none→H' l=some (.lst vs')→Paired (BarR K H' pins) vs' bars→GoodB pins bars→bars.length≤7→Q (.ref l) H'):spBarsL K vs H Q E_
theorem GoodB.snoc {pins:List PinD}{bars:List BarD}{b:BarD}(g:GoodB pins bars)(h1:b.nm∉bars.map (·.nm))(h2:b.one∈pins∧b.other∈pins∧b.one.nm≠b.other.nm):GoodB pins (bars++[b]):=by
 refine ⟨?_,fun q hq=> ?_⟩
 ·rw [List.map_append,List.nodup_append]
  refine ⟨g.nb,by simp,fun a ha c hc e=>h1 ?_⟩
  have:c=b.nm:=by simpa using hc
  rw [← this, ← e]
  exact ha
 ·rcases List.mem_append.mp hq with z | z
  ·exact g.ends q z
  ·rw [List.mem_singleton.mp z]
   exact h2
theorem sc_bl:FnScope ["_law_script","_law_pins_here","_law_cell","_law_many","_law_bars_here","_law_k","_law_one","_law_step"] ["_law_script","_law_pins_here"] (defScope s_bl):=sq
theorem ok_bl (D:Def K mg "_law_bars" s_bl ["_law_script","_law_pins_here"])(m_range:mg "range"=none)(m_len:mg "len"=none)(G_ad:Fn P w K mg base (CXr P w) 1 "_law_cell_at" ["_law_script","_law_k"] (spCell K))(G_ay:Fn P w K mg base (CXr P w) 1 "_law_field" ["_law_cell","_law_prime","_law_many"] spField)(G_be:Fn P w K mg base (CXr P w) 2 "_law_name" ["_law_cell","_law_k"] spName):
  Fn P w K mg base (CXr P w) 3 "_law_bars" ["_law_script","_law_pins_here"] (spBarsL K):=by
 refine D.ok sc_bl (fun vs H Q E h=> ?_) (fun f cdv A outer s H vs Q E hr h=> ?_)
 ·obtain ⟨sA,pA,ns,us,pins,rfl,_⟩:=h
  rfl
 obtain ⟨sA,pA,ns,us,pins,rfl,hS,hp,lu,np,lp,q⟩:=h
 have L3:3≤sizeLine:=by decide
 refine ⟨_,(pss_cons (ps_set (i:=2) sc_bl.nd rfl (Or.inl rfl) (pe_fn G_ad hr.mo pX (pac (pv 0) (pac pe_int pa_nil))))
  (pss_cons (ps_set (i:=3) sc_bl.nd rfl (Or.inl rfl) (pe_fn G_ay hr.mo pX (pac (pv 2) (pac pe_int (pac pe_int pa_nil)))))
  (pss_cons (ps_if (pt_cmpR op_lt (pe_callB call_len_seq rfl m_len b_len (pac (pv 1) pa_nil)) pe_int (nomark _)) (pss_one (ps_set (i:=3) sc_bl.nd rfl (Or.inl rfl) pe_int)) pss_nil)
  (pss_cons (ps_set (i:=4) sc_bl.nd rfl (Or.inl rfl) (pe_lst pa_nil))
  (pss_cons (ps_for PassesOwn.never rfl (pi_range1 rfl m_range (pac (pv 3) pa_nil)) (pg_name (i:=5) sc_bl.nd rfl (Or.inl rfl)) (pss_cons (ps_set (i:=6) sc_bl.nd rfl (Or.inl rfl) (pe_fn G_ay hr.mo pX (pac (pe_fn G_ad hr.mo pX (pac (pv 0) (pac (pe_op op_add pe_int (pv 5)) pa_nil))) (pac pe_int (pac (pe_callB call_len_seq rfl m_len b_len (pac (pv 1) pa_nil)) pa_nil)))))
   (pss_cons (ps_set (i:=7) sc_bl.nd rfl (Or.inl rfl) (pe_op op_add pe_int (pe_fn G_ay hr.mo pX (pac (pe_fn G_ad hr.mo pX (pac (pv 0) (pac (pe_op op_add pe_int (pv 5)) pa_nil))) (pac pe_int (pac (pe_op op_sub (pe_callB call_len_seq rfl m_len b_len (pac (pv 1) pa_nil)) pe_int) pa_nil))))))
   (pss_one (ps_expr (pe_bm PySem.F.plainAttrs_list PySem.F.slot_list_append PySem.F.type_list_append mt_append (pv 4) (pac (pe_tup (pac (pe_fn G_be hr.mo pX (pac (pv 2) (pac (pv 5) pa_nil))) (pac (pv 6) (pac (pe_op op_modB (pe_op op_add (pv 6) (pv 7)) (pe_callB call_len_seq rfl m_len b_len (pac (pv 1) pa_nil))) pa_nil)))) pa_nil)))))))
  (pss_one (ps_ret (pv 4)))))))),?_⟩
 refine ⟨_,rfl,sA,ns,1,rfl,hS,by decide,by decide,?_⟩
 generalize cell ns 1=c0
 have i1:=field_in (c:=c0) (p:=1009) (m:=8) (by decide)
 refine ⟨_,rfl,_,_,_,rfl,by decide,by decide,by decide,?_⟩
 generalize field c0 1009 8=fi at i1 ⊢
 obtain ⟨fn,rfl⟩:∃n:Nat,fi=(n:Int):=⟨fi.toNat,by omega⟩
 dsimp only
 refine seq_rest (fun σ' H' =>∃N:Nat,N≤7∧(0 < N→2≤pins.length)∧σ' =[some (.ref sA),some (.ref pA),some (.int c0),some (.int (N:Int)),none,none,none,none]∧H' =H) (fun Nx hNx=> ?_) ?_
 ·refine ⟨_,rfl,pA,_,rfl,.inl (SqL.of hp),_,_,rfl,rfl,_,rfl,?_⟩
  refine ite2 (fun _=> ?_) (fun c=> ?_)
  ·exact hNx _ _ ⟨0,by omega,by omega,rfl,rfl⟩
  ·have c' :¬ (us.length:Int) < 2:=fun z=>c (decide_eq_true z)
   exact hNx _ _ ⟨fn,by omega,fun _=>by omega,rfl,rfl⟩
 rintro σ' Hy ⟨N,hN,hN2,rfl,rfl⟩
 refine ⟨(by show 0≤sizeLine;decide),?_⟩
 intro lb nb;generalize eX:upd _ lb _=H1;have ⟨sb,eb⟩:=nw nb eX;clear eX
 refine ⟨_,rfl,(N:Int),rfl,by omega,by omega,for_range (lo:=0) (n:=N) (fun i σ H' =>∃(o5 o6 o7:Option V) (vs' :List V) (bars:List BarD),σ=[some (.ref sA),some (.ref pA),some (.int c0),some (.int (N:Int)),some (.ref lb),o5,o6,o7]∧Same Hy H' ∧H' lb=some (.lst vs')∧Paired (BarR K H' pins) vs' bars∧GoodB pins bars∧bars.length=i∧∀b∈bars,∃j,j < i∧b.nm=nameOf (field c0 3001 3) (field c0 4001 6) (j:Int)) ⟨none,none,none,[],[],rfl,sb,eb,.nil,⟨by simp,by simp⟩,rfl,by simp⟩ ?_ ?_⟩
 ·rintro i σ H2 hi ⟨o5,o6,o7,vs',bars,rfl,s2,e2,pb,gb,lbi,nm⟩
  have ei:(0:Int)+(i:Int)=(i:Int):=Int.zero_add _
  rw [ei]
  have n2:2≤pins.length:=hN2 (by omega)
  have lv:vs'.length=bars.length:=Paired.length pb
  have sp:=SqL.of (K:=K) (s2 _ _ hp)
  refine ⟨_,rfl,_,rfl,_,_,rfl,rfl,sA,ns,_,rfl,s2.seq hS,by omega,by omega,_,rfl,pA,_,rfl,.inl sp,_,_,_,rfl,by decide,by decide,by omega,?_⟩
  have j1:=field_in (c:=cell ns (8+(i:Int))) (p:=1009) (m:=(us.length:Int)) (by omega)
  have j2:=field_in (c:=cell ns (8+(i:Int))) (p:=2003) (m:=(us.length:Int) - 1) (by omega)
  refine ⟨_,rfl,_,rfl,_,_,rfl,rfl,sA,ns,_,rfl,s2.seq hS,by omega,by omega,_,rfl,pA,_,rfl,.inl sp,_,_,rfl,rfl,_,_,_,rfl,by decide,by decide,by omega,_,_,rfl,rfl,?_⟩
  generalize field (cell ns (8+(i:Int))) 1009 (us.length:Int)=one at j1 ⊢
  generalize field (cell ns (8+(i:Int))) 2003 ((us.length:Int) - 1)=step at j2 ⊢
  obtain ⟨on,rfl⟩:∃n:Nat,one=(n:Int):=⟨one.toNat,by omega⟩
  have oo:∃m:Nat,((on:Int)+(1+step)).fmod (us.length:Int)=(m:Int)∧m < us.length∧m≠on:=by
   have f:=fmod_in (x:=(on:Int)+(1+step)) (m:=(us.length:Int)) (by omega)
   refine ⟨(((on:Int)+(1+step)).fmod (us.length:Int)).toNat,by omega,by omega,fun z=> ?_⟩
   have e:((on:Int)+(1+step)).fmod (us.length:Int)=(on:Int):=by omega
   rw [Int.fmod_eq_emod_of_nonneg _ (by omega)] at e
   by_cases c:(on:Int)+(1+step) < (us.length:Int)
   ·rw [Int.emod_eq_of_lt (by omega) c] at e
    omega
   ·rw [← Int.sub_emod_right,Int.emod_eq_of_lt (by omega) (by omega)] at e
    omega
  obtain ⟨on2,e2',l2',ne2⟩:=oo
  refine ⟨_,rfl,.inl ⟨rfl,_,SqL.of e2⟩,_,rfl,_,rfl,_,_,rfl,by omega,by omega,_,rfl,_,rfl,_,rfl,_,_,rfl,rfl,_,rfl,pA,_,rfl,.inl sp,_,_,rfl,rfl,nz (by omega),L3,?_⟩
  intro p9 n9;generalize eX:upd _ p9 _=H9;have ⟨s9,e9⟩:=nw n9 eX;clear eX
  have e9:H9 p9=some (.tup [.str (nameOf (field c0 3001 3) (field c0 4001 6) (i:Int)),.int (on:Int),.int (((on:Int)+(1+step)).fmod (us.length:Int))]):=e9
  rw [e2'] at e9
  have e29:=s9 _ _ e2
  refine ⟨lb,_,_,rfl,rfl,e29,(by rw [lv];exact Nat.lt_of_le_of_lt (show bars.length≤1000 by omega) (by decide)),?_⟩
  have l1:on < pins.length:=by omega
  have l2:on2 < pins.length:=by omega
  have st:SameT H9 (upd H9 lb (.lst (vs' ++[.ref p9]))):=.list e29
  have ns9:∀(v:V) (b:BarD),BarR K H2 pins v b→BarR K (upd H9 lb (.lst (vs' ++[.ref p9]))) pins v b:=fun v b h=>by
   obtain ⟨a,i',j',e,h1,h2,h3⟩:=h.same s9
   exact ⟨a,i',j',e,st.seqT h1,h2,h3⟩
  refine ⟨_,_,_,vs' ++[.ref p9],bars++[⟨nameOf (field c0 3001 3) (field c0 4001 6) (i:Int),pins[on],pins[on2]⟩],rfl,fun b o z=> ?_,upd_same,paired_snoc (Paired.mapP pb fun _ _ z=>ns9 _ _ z) ?_,gb.snoc (fun z=> ?_) ⟨List.getElem_mem l1,List.getElem_mem l2,fun z=> ?_⟩,by simp [lbi],fun b hb=> ?_⟩
  ·rw [upd_ne (ne_of_none z nb)]
   exact s9 _ _ (s2 _ _ z)
  ·exact ⟨p9,on,on2,rfl,st.seqT (SqT.of e9),gE l1,gE l2⟩
  ·obtain ⟨b,hb,ep'⟩:=List.mem_map.mp z
   obtain ⟨j,hj,ej⟩:=nm b hb
   have i3:=field_in (c:=c0) (p:=3001) (m:=3) (by decide)
   have i4:=field_in (c:=c0) (p:=4001) (m:=6) (by decide)
   have:=names_ne ⟨(field c0 3001 3).toNat,by omega⟩ ⟨(field c0 4001 6).toNat,by omega⟩ ⟨j,by omega⟩ ⟨i,by omega⟩ (fun z=>by
    have:=congrArg Fin.val z
    simp at this
    omega)
   refine this ?_
   show nameOf (((field c0 3001 3).toNat:Nat):Int) (((field c0 4001 6).toNat:Nat):Int) (j:Int)=nameOf (((field c0 3001 3).toNat:Nat):Int) (((field c0 4001 6).toNat:Nat):Int) (i:Int)
   rw [show (((field c0 3001 3).toNat:Nat):Int)=field c0 3001 3 by omega,show (((field c0 4001 6).toNat:Nat):Int)=field c0 4001 6 by omega, ← ej]
   exact ep'
  ·have q1:(pins.map (·.nm))[on]? =some pins[on].nm:=by rw [List.getElem?_map,gE l1];rfl
   have q2:(pins.map (·.nm))[on2]? =some pins[on].nm:=by rw [List.getElem?_map,gE l2];exact congrArg some z.symm
   exact ne2 ((List.getElem?_inj (by rw [List.length_map];omega) np).mp (q1.trans q2.symm)).symm
  ·rcases List.mem_append.mp hb with z | z
   ·obtain ⟨j,hj,ej⟩:=nm b z
    exact ⟨j,by omega,ej⟩
   ·rw [List.mem_singleton.mp z]
    exact ⟨i,by omega,rfl⟩
 ·rintro σ H2 ⟨o5,o6,o7,vs',bars,rfl,s2,e2,pb,gb,lbi,nm⟩
  exact ⟨_,rfl,q lb vs' bars H2 s2 nb e2 pb gb (by omega)⟩
theorem no_ways (v:V):List.lookup ("ways":Str) [(("way":Str),v)]=none:=by
 have h:(("ways":Str)=="way")=false:=by decide+kernel
 simp [List.lookup,h]
inductive spFrameL (K:Frag)(C:Addr)(vs:List V)(H:Hp)(Q:VK)(E_:XK):Prop where
 | mk (pA bA:Addr) (us vs' :List V) (pins:List PinD) (bars:List BarD) (_:vs=[.ref pA,.ref bA]) (_:H pA=some (.lst us)) (_:Paired (PinR K H) us pins) (_:H bA=some (.lst vs')) (_:Paired (BarR K H pins) vs' bars) (_:GoodP pins) (_:GoodB pins bars) (_:pins.length≤6) (_:bars.length≤8) (_:∀(a:Addr) (H' :Hp),Same H H' →FrA K H' C a pins bars→Q (.ref a) H'):spFrameL K C vs H Q E_
theorem sc_b0:FnScope ["_law_pins_here","_law_bars_here","_law_frame_here","_law_name_here","_law_spot_here","_law_ways_here","_law_one","_law_other"] ["_law_pins_here","_law_bars_here"] (defScope s_b0):=sq
theorem ok_b0 {C CR CF fI fR:Addr}{fdI fdR:FuncData}(D:Def K mg "_law_frame" s_b0 ["_law_pins_here","_law_bars_here"])(m_len:mg "len"=none)(M_c4:Mk K C fI)(m_c4:mg "Frame"=some (.ref C))(G_ar:FnOk P w K mg base (CXr P w) 1 fI fdI ["self"] (spFInit K C))(b_ar:Binds K fdI ["self"] [])
  (m_bz:mg "Roller"=some (.ref CR)) (m_c5:mg "Fixed"=some (.ref CF)) (M_c5:Mk0 K CF) (M_bz:Mk K CR fR) (G_ai:FnOk P w K mg base (CXr P w) 1 fR fdR ["self","x","y"] (spRInit K CR)) (b_ai:Binds K fdR ["self","x","y"] [])
  (wR:MtdOk P w K mg base (CXr P w) 2 CR "ways" ["self"] (spRWays K CR)) (wF:MtdOk P w K mg base (CXr P w) 2 CF "ways" ["self"] (spFixed K))
  (MPb:MtdOk P w K mg base (CXr P w) 3 C "put_bar" ["self","name","one","other"] (spPutBar K C)) (MPp:MtdOk P w K mg base (CXr P w) 3 C "put_pin" ["self","name","x","y","hold"] (spPutPinW P w K mg base C)) (MPd:MtdOkD P w K mg base (CXr P w) 3 C "put_pin" ["self","name","x","y","hold"] [.none] (spPutPinW P w K mg base C)):
  Fn P w K mg base (CXr P w) 4 "_law_frame" ["_law_pins_here","_law_bars_here"] (spFrameL K C):=by
 refine D.ok sc_b0 (fun vs H Q E h=> ?_) (fun f cdv A outer s H vs Q E hr h=> ?_)
 ·obtain ⟨pA,bA,us,vs',pins,bars,rfl,_⟩:=h
  rfl
 obtain ⟨pA,bA,us,vs',pins,bars,rfl,hp,pp,hb,pb,gp,gb,lp6,lb8,q⟩:=h
 have lu:us.length=pins.length:=Paired.length pp
 refine ⟨_,(pss_cons (ps_set (i:=2) sc_b0.nd rfl (Or.inl rfl) (pe_make0 M_c4 G_ar hr.mo rfl m_c4 b_ar .nil (pY P w)))
  (pss_cons (ps_for PassesOwn.never rfl (pi_list (pv 0)) (pg_tup rfl (pgs_cons (pg_name (i:=3) sc_b0.nd rfl (Or.inl rfl)) (pgs_cons (pg_name (i:=4) sc_b0.nd rfl (Or.inl rfl)) (pgs_cons (pg_name (i:=5) sc_b0.nd rfl (Or.inl rfl)) pgs_nil)))) (pss_cons (ps_if (pt_cmpR op_eq (pe_callB call_len_seq rfl m_len b_len (pac (pv 5) pa_nil)) pe_int (nomark _)) (pss_one (ps_expr (pe_mtdD (k:=3) (pv 2) hr.mo (pY P w) (pac (pv 3) (pac (pe_tx (pv 4)) (pac (pe_tx (pv 4)) pa_nil)))))) pss_nil)
   (pss_cons (ps_if (pt_cmpR op_eq (pe_callB call_len_seq rfl m_len b_len (pac (pv 5) pa_nil)) pe_int (nomark _)) (pss_one (ps_expr (pe_mtd (k:=3) (pv 2) hr.mo (pY P w) (pac (pv 3) (pac (pe_tx (pv 4)) (pac (pe_tx (pv 4)) (pac (pe_make M_bz G_ai hr.mo rfl m_bz b_ai .nil (pY P w) (pac (pe_tx (pe_lx (pv 5))) (pac (pe_tx (pe_lx (pv 5))) pa_nil))) pa_nil))))))) pss_nil)
   (pss_one (ps_if (pt_cmpR op_eq (pe_callB call_len_seq rfl m_len b_len (pac (pv 5) pa_nil)) pe_int (nomark _)) (pss_one (ps_expr (pe_mtd (k:=3) (pv 2) hr.mo (pY P w) (pac (pv 3) (pac (pe_tx (pv 4)) (pac (pe_tx (pv 4)) (pac (pe_mk0 M_c5 rfl m_c5) pa_nil))))))) pss_nil)))))
  (pss_cons (ps_for PassesOwn.never rfl (pi_list (pv 1)) (pg_tup rfl (pgs_cons (pg_name (i:=3) sc_b0.nd rfl (Or.inl rfl)) (pgs_cons (pg_name (i:=6) sc_b0.nd rfl (Or.inl rfl)) (pgs_cons (pg_name (i:=7) sc_b0.nd rfl (Or.inl rfl)) pgs_nil)))) (pss_one (ps_expr (pe_mtd (k:=3) (pv 2) hr.mo (pY P w) (pac (pv 3) (pac (pe_tx (pe_ix ix_list (pv 0) (pv 6) (fun _ _=>rfl))) (pac (pe_tx (pe_ix ix_list (pv 0) (pv 7) (fun _ _=>rfl))) pa_nil)))))))
  (pss_one (ps_ret (pv 2)))))),?_⟩
 intro a dx na ndx nad
 have sF:Same H (upd (upd H dx (.own a)) a (.ins C dx [])):=fun b o e=>by rw [upd_ne (ne_of_none e na),upd_ne (ne_of_none e ndx)];exact e
 refine ⟨a,dx,rfl,upd_same,fun pP pW pB H1 k1 nP nW nB R1=>⟨rfl,?_⟩⟩
 have s1:Same H H1:=fun b o e=>k1 b o (ne_of_none e na) (sF _ _ e)
 have nP:=none_back sF nP
 have nW:=none_back sF nW
 have nB:=none_back sF nB
 refine ⟨_,rfl,pA,rfl,⟨_,SqL.of (s1 _ _ hp)⟩,for_list (K:=K) (a:=pA) (xs:=us) (fun i σ H' =>∃(o4 o5 o6:Option V) (kP kW:List (Key×V)),σ=[some (.ref pA),some (.ref bA),some (.ref a),o4,o5,o6,none,none]∧Same H H' ∧FrR K H' C a dx pP pW pB ((pins.take i).map fun p=>(p.nm,ptQ p.sp)) [] kP kW []∧WyR K H' ((pins.take i).map fun p=>(p.nm,p.ws)) kW) ⟨none,none,none,[],[],rfl,s1,R1,.nil⟩ (fun i σ H' _ h=>by
   obtain ⟨_,_,_,_,_,_,s,_⟩:=h
   exact SqL.of (s _ _ hp)) ?_ ?_⟩
 ·rintro i u σ H2 hu ⟨o4,o5,o6,kP,kW,rfl,s2,R2,W2⟩
  obtain ⟨p,ep,hpr⟩:=paired_get pp hu
  have mp:p∈pins:=List.mem_of_getElem? ep
  obtain ⟨ta,l,sv,ws,rfl,h1,h2,h3,h4⟩:=hpr.same s2
  obtain ⟨sa,x1,y1,rfl,hsq,hn1,hn2⟩:=h2
  refine ⟨ta,_,rfl,h1,rfl,_,_,rfl,_,_,rfl,_,_,rfl,rfl,?_⟩
  have tk:=take_snoc ep
  have il:i < pins.length:=(List.getElem?_eq_some_iff.mp ep).1
  have nlP:l≠pP:=fun z=>by rw [z,R2.pl] at h3;cases h3
  have nlW:l≠pW:=fun z=>by rw [z,R2.wy] at h3;cases h3
  have fin:∀(hv:V) (H5:Hp) (Q5:VK) (E5:XK),Same H2 H5→HoldY P w K mg base H5 hv p.ws→
    (∀H' kP' kW',Same H H' →H' l=some (.lst ws)→FrR K H' C a dx pP pW pB ((pins.take (i+1)).map fun p=>(p.nm,ptQ p.sp)) [] kP' kW' []→WyR K H' ((pins.take (i+1)).map fun p=>(p.nm,p.ws)) kW' →Q5 .non H')→spPutPinW P w K mg base C [.ref a,.str p.nm,x1,y1,hv] H5 Q5 E5:=fun hv H5 Q5 E5 s5 hY fin=>by
   refine ⟨a,dx,pP,pW,pB,_,_,kP,kW,_,_,p.nm,x1,y1,hv,ptQ p.sp,p.ws,rfl,R2.same s5,W2.same s5,by rw [List.map_map,List.map_map];rfl,hn1.same s5,hn2.same s5,fun z=> ?_,fun z hz e=> ?_,?_,hY,fun H' kP' kW' k' R' W' => ?_⟩
   ·rw [List.map_map] at z
    obtain ⟨p',hp',e'⟩:=List.mem_map.mp z
    exact take_new (nm:=PinD.nm) gp.np ep hp' e'
   ·obtain ⟨p',hp',e'⟩:=List.mem_map.mp hz
    rw [← e'] at e
    have e1:=congrArg Prod.fst e
    have e2:=congrArg Prod.snd e
    have e3:p'.sp=p.sp:=Prod.ext (qr_inj e1) (qr_inj e2)
    obtain ⟨j,hj,ej⟩:=List.mem_iff_getElem.mp hp'
    rw [List.getElem_take] at ej
    rw [List.length_take] at hj
    have q1:(pins.map (·.sp))[j]? =some p.sp:=by rw [List.getElem?_map,gE (by omega),ej, ← e3];rfl
    have q2:(pins.map (·.sp))[i]? =some p.sp:=by rw [List.getElem?_map,ep];rfl
    have:=(List.getElem?_inj (by rw [List.length_map];omega) gp.ns).mp (q1.trans q2.symm)
    omega
   ·rw [List.length_map,List.length_take]
    omega
   ·refine fin H' kP' kW' (fun b o z=>k' b o (ne_of_none z nP) (ne_of_none z nW) (s5 _ _ (s2 _ _ z))) (k' _ _ nlP nlW (s5 _ _ h3)) ?_ ?_
    ·rw [tk,List.map_append]
     exact R'
    ·rw [tk,List.map_append]
     exact W'
  have l2:=SqL.of (K:=K) h3
  have lw:ws.length=p.ws.length:=Paired.length h4
  refine ⟨_,rfl,l,_,rfl,.inl l2,rfl,_,rfl,?_⟩
  rcases gp.ws p mp with hw | ⟨wx,wy,hw,wn,_,_⟩ | hw
  ·rw [hw] at lw
   refine ite2 (fun _=> ?_) (fun c=>by rw [lw] at c;simp at c)
   refine ⟨_,rfl,a,C,dx,_,_,_,rfl,R2.obj,rfl,MPd,_,rfl,_,rfl,sa,_,_,_,rfl,rfl,hsq,at0,_,rfl,sa,_,_,_,rfl,rfl,hsq,at1,?_⟩
   dsimp only [tNil]
   refine fin .non H2 _ _ (Same.refl _) (.inl ⟨rfl,hw⟩) fun H' kP' kW' s' l' R' W' => ?_
   have l' :=SqL.of (K:=K) l'
   refine ⟨_,rfl,l,_,rfl,.inl l',rfl,_,rfl,?_⟩
   refine ite2 (fun c=>by rw [lw] at c;simp at c) (fun _=> ?_)
   refine ⟨_,rfl,l,_,rfl,.inl l',rfl,_,rfl,?_⟩
   refine ite2 (fun c=>by rw [lw] at c;simp at c) (fun _=> ?_)
   exact ⟨_,_,_,kP',kW',rfl,s',R',W'⟩
  ·rw [hw] at lw h4
   obtain ⟨w0,rfl⟩:∃w0,ws=[w0]:=by
    match ws,lw with
    | [w0],_=>exact ⟨w0,rfl⟩
   have hw0:PtR K H2 w0 (wx,wy):=by
    cases h4 with
    | cons h _=>exact h
   obtain ⟨wa,y2,y3,rfl,hsw,hm1,hm2⟩:=hw0
   refine ite2 (fun c=>by simp at c) (fun _=> ?_)
   refine ⟨_,rfl,l,_,rfl,.inl l2,rfl,_,rfl,?_⟩
   refine ite2 (fun _=> ?_) (fun c=>absurd rfl c)
   refine ⟨_,rfl,a,C,dx,_,_,_,rfl,R2.obj,rfl,MPp,_,rfl,_,rfl,sa,_,_,_,rfl,rfl,hsq,at0,_,rfl,sa,_,_,_,rfl,rfl,hsq,at1,?_⟩
   refine ⟨_,rfl,l,_,_,_,rfl,rfl,l2,rfl,wa,_,_,_,rfl,rfl,hsw,at0,_,rfl,l,_,_,_,rfl,rfl,l2,rfl,wa,_,_,_,rfl,rfl,hsw,at1,?_⟩
   intro h1' d1 nh1 nd1 ne1
   have s4:Same H2 (upd (upd H2 d1 (.own h1')) h1' (.ins CR d1 [])):=fun b o e=>by rw [upd_ne (ne_of_none e nh1),upd_ne (ne_of_none e nd1)];exact e
   have e4:(upd (upd H2 d1 (.own h1')) h1' (.ins CR d1 [])) h1' =some (.ins CR d1 []):=upd_same
   generalize upd (upd H2 d1 (.own h1')) h1' (.ins CR d1 [])=H4 at s4 e4 ⊢
   refine ⟨h1',d1,y2,y3,wx,wy,rfl,e4,hm1.same s4,hm2.same s4,wn,fun p5 n5=>⟨rfl,?_⟩⟩
   have hne:p5≠h1' :=fun z=>by rw [z,e4] at n5;cases n5
   have s5:Same H2 (upd (upd H4 p5 (.tup [y2,y3])) h1' (.ins CR d1 [("way",.ref p5)])):=fun b o e=>by
    have z:b≠h1' :=fun z=>by rw [z,nh1] at e;cases e
    rw [upd_ne z]
    exact same_new n5 _ _ _ (s4 _ _ e)
   have e5:(upd (upd H4 p5 (.tup [y2,y3])) h1' (.ins CR d1 [("way",.ref p5)])) h1' =some (.ins CR d1 [("way",.ref p5)]):=upd_same
   have t5:(upd (upd H4 p5 (.tup [y2,y3])) h1' (.ins CR d1 [("way",.ref p5)])) p5=some (.tup [y2,y3]):=by rw [upd_ne hne,upd_same]
   generalize upd (upd H4 p5 (.tup [y2,y3])) h1' (.ins CR d1 [("way",.ref p5)])=H5 at s5 e5 t5 ⊢
   have hway:PtR K H5 (.ref p5) (wx,wy):=pt_of t5 (hm1.same s5) (hm2.same s5)
   dsimp only [tNil]
   refine fin (.ref h1') H5 _ _ s5 (.inr ⟨h1',CR,d1,_,["self"],spRWays K CR,rfl,e5,no_ways _,wR,fun H6 e6 t6 Q' an=>⟨h1',d1,p5,(wx,wy),rfl,e6,hway.sameT t6,by rw [hw] at an;exact an⟩⟩) fun H' kP' kW' s' l' R' W' => ?_
   refine ⟨_,rfl,l,_,rfl,.inl (SqL.of (K:=K) l'),rfl,_,rfl,?_⟩
   refine ite2 (fun c=>by simp at c) (fun _=> ?_)
   exact ⟨_,_,_,kP',kW',rfl,s',R',W'⟩
  ·rw [hw] at lw
   refine ite2 (fun c=>by rw [lw] at c;simp at c) (fun _=> ?_)
   refine ⟨_,rfl,l,_,rfl,.inl l2,rfl,_,rfl,?_⟩
   refine ite2 (fun c=>by rw [lw] at c;simp at c) (fun _=> ?_)
   refine ⟨_,rfl,l,_,rfl,.inl l2,rfl,_,rfl,?_⟩
   refine ite2 (fun _=> ?_) (fun c=>by rw [lw] at c;simp at c)
   refine ⟨_,rfl,a,C,dx,_,_,_,rfl,R2.obj,rfl,MPp,_,rfl,_,rfl,sa,_,_,_,rfl,rfl,hsq,at0,_,rfl,sa,_,_,_,rfl,rfl,hsq,at1,?_⟩
   intro h1' d1 nh1 nd1 ne1
   have s4:Same H2 (upd (upd H2 d1 (.own h1')) h1' (.ins CF d1 [])):=fun b o e=>by rw [upd_ne (ne_of_none e nh1),upd_ne (ne_of_none e nd1)];exact e
   have e4:(upd (upd H2 d1 (.own h1')) h1' (.ins CF d1 [])) h1' =some (.ins CF d1 []):=upd_same
   generalize upd (upd H2 d1 (.own h1')) h1' (.ins CF d1 [])=H4 at s4 e4 ⊢
   dsimp only [tNil]
   refine fin (.ref h1') H4 _ _ s4 (.inr ⟨h1',CF,d1,_,["self"],spFixed K,rfl,e4,rfl,wF,fun H6 _ _ Q' an=>⟨h1',rfl,by rw [hw] at an;exact an⟩⟩) fun H' kP' kW' s' l' R' W' => ?_
   exact ⟨_,_,_,kP',kW',rfl,s',R',W'⟩
 ·rintro σ H2 ⟨o4,o5,o6,kP,kW,rfl,s2,R2,W2⟩
  rw [lu,List.take_length] at R2 W2
  have lv:vs'.length=bars.length:=Paired.length pb
  refine ⟨_,rfl,bA,rfl,⟨_,SqL.of (s2 _ _ hb)⟩,for_list (K:=K) (a:=bA) (xs:=vs') (fun i σ H' =>∃(o3 o7 o8:Option V) (kB:List (Key×V)),σ=[some (.ref pA),some (.ref bA),some (.ref a),o3,o5,o6,o7,o8]∧Same H H' ∧FrR K H' C a dx pP pW pB (pins.map fun p=>(p.nm,ptQ p.sp)) ((bars.take i).map fun b=>(b.nm,b.one.nm,b.other.nm)) kP kW kB∧WyR K H' (pins.map fun p=>(p.nm,p.ws)) kW) ⟨_,none,none,[],rfl,s2,R2,W2⟩ (fun i σ H' _ h=>by
    obtain ⟨_,_,_,_,_,s,_⟩:=h
    exact SqL.of (s _ _ hb)) ?_ ?_⟩
  ·rintro i u σ H3 hu ⟨o3,o7,o8,kB,rfl,s3,R3,W3⟩
   obtain ⟨b,ebr,hbr⟩:=paired_get pb hu
   have mb:b∈bars:=List.mem_of_getElem? ebr
   obtain ⟨ta,i1,j1,rfl,h1,g1,g2⟩:=hbr.same s3
   obtain ⟨m1,m2,m3⟩:=gb.ends b mb
   have tk:=take_snoc ebr
   have il:i < bars.length:=(List.getElem?_eq_some_iff.mp ebr).1
   have at1' :∀(k:Nat) (p:PinD),pins[k]? =some p→∃(c la:Addr) (sv:V),atI us (k:Int)=some (.ref c)∧SqT K H3 c [.str p.nm,sv,.ref la]:=fun k p ek=>by
    obtain ⟨u',eu',hu'⟩:=paired_get (paired_flip pp) ek
    obtain ⟨c,la,sv,ws,rfl,q1,_⟩:=PinR.same hu' s3
    exact ⟨c,la,sv,atI_nat eu',q1⟩
   obtain ⟨c1,la1,sv1,ea1,q1⟩:=at1' _ _ g1
   obtain ⟨c2,la2,sv2,ea2,q2⟩:=at1' _ _ g2
   refine ⟨ta,_,rfl,h1,rfl,_,_,rfl,_,_,rfl,_,_,rfl,rfl,?_⟩
   have lp3:=SqL.of (K:=K) (s3 _ _ hp)
   refine ⟨_,rfl,a,C,dx,_,_,_,rfl,R3.obj,rfl,MPb,_,rfl,_,rfl,_,rfl,pA,_,_,_,rfl,rfl,lp3,ea1,c1,_,_,_,rfl,rfl,q1,rfl,_,rfl,_,rfl,pA,_,_,_,rfl,rfl,lp3,ea2,c2,_,_,_,rfl,rfl,q2,rfl,?_⟩
   refine ⟨a,dx,pP,pW,pB,_,_,kP,kW,kB,b.nm,b.one.nm,b.other.nm,rfl,R3,fun z=> ?_,?_,?_,m3,?_,fun H' kB' k' R' => ?_⟩
   ·rw [List.map_map] at z
    obtain ⟨b',hb',e'⟩:=List.mem_map.mp z
    exact take_new (nm:=BarD.nm) gb.nb ebr hb' e'
   ·rw [List.map_map]
    exact List.mem_map.mpr ⟨_,m1,rfl⟩
   ·rw [List.map_map]
    exact List.mem_map.mpr ⟨_,m2,rfl⟩
   ·rw [List.length_map,List.length_take]
    omega
   ·refine ⟨_,_,_,kB',rfl,fun c o z=>k' c o (ne_of_none z nB) (s3 _ _ z),?_,?_⟩
    ·rw [tk,List.map_append]
     exact R'
    ·refine Paired.mapP W3 fun p' kv z=>⟨z.1,?_⟩
     obtain ⟨l',us',z1,z2,z3⟩:=z.2
     refine ⟨l',us',z1,k' _ _ (fun z=>by rw [z,R3.br] at z2;cases z2) z2,z3.sameT fun c xs r=> ?_⟩
     rcases r with r | ⟨o',r⟩
     ·exact .inl (k' _ _ (fun e=>by rw [e,R3.br] at r;cases r) r)
     ·exact .inr ⟨o',k' _ _ (fun e=>by rw [e,R3.br] at r;cases r) r⟩
  ·rintro σ H3 ⟨o3,o7,o8,kB,rfl,s3,R3,W3⟩
   rw [lv,List.take_length] at R3
   exact ⟨_,rfl,q a H3 s3 ⟨⟨dx,pP,pW,pB,kP,kW,kB,R3,W3⟩⟩⟩
theorem names_of {α:Type}{nm:α→Str}{l:List α}{ys:List V}(hl:ys.length=l.length)(h:∀(i:Nat) (v:V),ys[i]? =some v→∃p,l[i]? =some p∧v=V.str (nm p)):ys=(l.map nm).map V.str:=by
 refine List.ext_getElem? fun i=> ?_
 by_cases hi:i < ys.length
 ·obtain ⟨p,e1,e2⟩:=h i ys[i] (gE hi)
  rw [gE hi,e2,List.getElem?_map,List.getElem?_map,e1]
  rfl
 ·rw [List.getElem?_eq_none (by omega),List.getElem?_eq_none (by rw [List.length_map,List.length_map];omega)]
theorem strs_rel (xs:List Str):Paired (fun u (x:Str)=>u=V.str x) (xs.map V.str) xs:=by
 induction xs with
 | nil=>exact .nil
 | cons x xs ih=>exact .cons rfl ih
theorem strs_back:∀{us:List V} {xs:List Str},Paired (fun u (x:Str)=>u=V.str x) us xs→us=xs.map V.str
 | _,_,.nil=>rfl
 | _,_,.cons h t=>by rw [h,strs_back t];rfl
inductive spStrange (K:Frag)(vs:List V)(H:Hp)(Q:VK)(E_:XK):Prop where
 | mk (sA pA bA:Addr) (ns:List Int) (us vs' :List V) (pins:List PinD) (bars:List BarD) (_:vs=[.ref sA,.ref pA,.ref bA]) (_:SqL K H sA (ns.map V.int)) (_:H pA=some (.lst us)) (_:Paired (PinR K H) us pins) (_:pins.length≤5) (_:(∀p∈pins,1≤p.nm.length∧p.nm.length≤40)) (_:H bA=some (.lst vs')) (_:Paired (BarR K H pins) vs' bars) (_:bars.length≤7) (_:∀(l:Addr) (xs:List Str) (H' :Hp),Same H H' →H l=none→H' l=some (.lst (xs.map V.str))→1≤xs.length→xs.length≤2→xs.Nodup→(∀x∈xs,x∉pins.map (·.nm))→Q (.ref l) H'):spStrange K vs H Q E_
theorem sc_ak:FnScope ["_law_script","_law_pins_here","_law_bars_here","_law_cell","_law_some","_law_name_here","_law_spot_here","_law_ways_here","_law_one","_law_other","_law_names","_law_first","_law_second"] ["_law_script","_law_pins_here","_law_bars_here"] (defScope s_ak):=sq
theorem ok_ak (D:Def K mg "_law_strange" s_ak ["_law_script","_law_pins_here","_law_bars_here"])(m_len:mg "len"=none)(G_ad:Fn P w K mg base (CXr P w) 1 "_law_cell_at" ["_law_script","_law_k"] (spCell K))(G_ay:Fn P w K mg base (CXr P w) 1 "_law_field" ["_law_cell","_law_prime","_law_many"] spField):
  Fn P w K mg base (CXr P w) 3 "_law_strange" ["_law_script","_law_pins_here","_law_bars_here"] (spStrange K):=by
 refine D.ok sc_ak (fun vs H Q E h=> ?_) (fun f cdv A outer s H vs Q E hr h=> ?_)
 ·obtain ⟨sA,pA,bA,ns,us,vs',pins,bars,rfl,_⟩:=h
  rfl
 obtain ⟨sA,pA,bA,ns,us,vs',pins,bars,rfl,hS,hp,pp,lp,ln,hb,pb,lb,q⟩:=h
 have lu:us.length=pins.length:=Paired.length pp
 have lv:vs'.length=bars.length:=Paired.length pb
 have sz:∀{n:Nat},n≤100→n≤sizeLine:=fun h=>Nat.le_trans h (by decide)
 refine ⟨_,(pss_cons (ps_set (i:=3) sc_ak.nd rfl (Or.inl rfl) (pe_fn G_ad hr.mo pX (pac (pv 0) (pac pe_int pa_nil))))
  (pss_cons (ps_set (i:=4) sc_ak.nd rfl (Or.inl rfl) (pe_lst (pa_strs ["zz","z","pppppppppp","","1230 "] (by decide+kernel))))
  (pss_cons (ps_for PassesOwn.never rfl (pi_list (pv 1)) (pg_tup rfl (pgs_cons (pg_name (i:=5) sc_ak.nd rfl (Or.inl rfl)) (pgs_cons (pg_name (i:=6) sc_ak.nd rfl (Or.inl rfl)) (pgs_cons (pg_name (i:=7) sc_ak.nd rfl (Or.inl rfl)) pgs_nil)))) (pss_one (ps_set (i:=4) sc_ak.nd rfl (Or.inl rfl) (pe_op op_cat (pv 4) (pe_lst (pac (pe_op op_add_str (pv 5) pe_str) (pac (pe_slice sl_str (pv 5) po_none (po_some (pe_un un_neg pe_int))) (pac (pe_op op_add_str pe_str (pv 5)) pa_nil))))))))
  (pss_cons (ps_for PassesOwn.never rfl (pi_list (pv 2)) (pg_tup rfl (pgs_cons (pg_name (i:=5) sc_ak.nd rfl (Or.inl rfl)) (pgs_cons (pg_name (i:=8) sc_ak.nd rfl (Or.inl rfl)) (pgs_cons (pg_name (i:=9) sc_ak.nd rfl (Or.inl rfl)) pgs_nil)))) (pss_one (ps_expr (pe_bm PySem.F.plainAttrs_list PySem.F.slot_list_append PySem.F.type_list_append mt_append (pv 4) (pac (pv 5) pa_nil)))))
  (pss_cons (ps_set (i:=10) sc_ak.nd rfl (Or.inr rfl) (pe_comp (tn:=["_law_pin"]) (fr:=[]) (caps:=[]) rfl ⟨rfl,by decide+kernel,rfl,by decide+kernel,by decide+kernel,rfl,trivial,trivial⟩ (pi_list (pv 1)) (fun _ _ _ _=>(pg_name (i:=0) (show (["_law_pin"]:List Str).Nodup from by decide+kernel) rfl (Or.inl rfl))) (fun _ _ _ _=>pf_nil) (fun _ _ _ _=>(pe_ix (ix_tupK (K:=K) rfl) (pv 0) pe_int (fun _ _=>rfl)))))
  (pss_cons (ps_setC (i:=4) sc_ak.nd rfl (Or.inl rfl) (tn:=["_law_one"]) (fr:=["_law_names"]) (caps:=[10]) rfl ⟨rfl,by decide+kernel,rfl,by decide+kernel,by decide+kernel,rfl,⟨(by first | exact Or.inl rfl | exact Or.inr rfl),trivial⟩,⟨(by first | exact Or.inl rfl | exact Or.inr rfl),trivial⟩⟩ (pi_list (pv 4)) (fun _ _ _ _=>(pg_name (i:=0) (show (["_law_one","_law_names"]:List Str).Nodup from by decide+kernel) rfl (Or.inl rfl))) (fun _ _ _ _=>(pf_one (pt_cmpR (op_notIn_seqK (K:=K) rfl) (pv 0) (pv 1) rfl))) (fun _ _ _ _=>(pv 0)))
  (pss_cons (ps_set (i:=11) sc_ak.nd rfl (Or.inl rfl) (pe_ix ix_list (pv 4) (pe_fn G_ay hr.mo pX (pac (pv 3) (pac pe_int (pac (pe_callB call_len_seq rfl m_len b_len (pac (pv 4) pa_nil)) pa_nil)))) (fun _ _=>rfl)))
  (pss_cons (ps_set (i:=12) sc_ak.nd rfl (Or.inl rfl) (pe_ix ix_list (pv 4) (pe_fn G_ay hr.mo pX (pac (pv 3) (pac pe_int (pac (pe_callB call_len_seq rfl m_len b_len (pac (pv 4) pa_nil)) pa_nil)))) (fun _ _=>rfl)))
  (pss_cons (ps_if (pt_cmpR op_eq (pv 12) (pv 11) (nomark _)) (pss_one (ps_ret (pe_lst (pac (pv 11) pa_nil)))) pss_nil)
  (pss_one (ps_ret (pe_lst (pac (pv 11) (pac (pv 12) pa_nil)))))))))))))),?_⟩
 refine ⟨_,rfl,sA,ns,2,rfl,hS,by decide,by decide,?_⟩
 generalize cell ns 2=c0
 refine ⟨(by show 5≤sizeLine;decide),?_⟩
 intro l0 n0;generalize eX:upd _ l0 _=H0;have ⟨s0,e0⟩:=nw n0 eX;clear eX
 refine ⟨_,rfl,pA,rfl,⟨_,SqL.of (s0 _ _ hp)⟩,for_list (K:=K) (a:=pA) (xs:=us) (fun i σ H' =>∃(o5 o6 o7:Option V) (l:Addr) (ss:List Str),σ=[some (.ref sA),some (.ref pA),some (.ref bA),some (.int c0),some (.ref l),o5,o6,o7,none,none,none,none,none]∧Same H H' ∧H l=none∧H' l=some (.lst (ss.map V.str))∧("":Str)∈ss∧ss.length≤5+3*i) ⟨none,none,none,l0,["zz","z","pppppppppp","","1230 "],rfl,s0,n0,e0,by simp,Nat.le_refl _⟩ (fun i σ H' _ h=>by
   obtain ⟨_,_,_,_,_,_,h,_⟩:=h
   exact SqL.of (h _ _ hp)) ?_ ?_⟩
 ·rintro i u σ H2 hu ⟨o5,o6,o7,l,ss,rfl,s2,nl,el,me,ls⟩
  obtain ⟨p,ep,hpr⟩:=paired_get pp hu
  have mp:p∈pins:=List.mem_of_getElem? ep
  have il:i < pins.length:=(List.getElem?_eq_some_iff.mp ep).1
  obtain ⟨n1,n40⟩:=ln p mp
  obtain ⟨ta,l',sv,ws,rfl,h1,_⟩:=hpr.same s2
  have lp1:("p":Str).length=1:=by decide+kernel
  refine ⟨ta,_,rfl,h1,rfl,_,_,rfl,_,_,rfl,_,_,rfl,rfl,?_⟩
  refine ⟨_,rfl,_,rfl,_,_,rfl,rfl,sz (by omega),_,rfl,_,rfl,_,rfl,p.nm,rfl,sz (by omega),_,rfl,_,_,rfl,rfl,sz (by omega),(by show 3≤sizeLine;decide),?_⟩
  intro l3 n3;generalize eX:upd _ l3 _=H3;have ⟨s3,e3⟩:=nw n3 eX;clear eX
  refine ⟨l,l3,_,_,rfl,rfl,s3 _ _ el,e3,sz (by rw [List.length_map];show ss.length+3≤100;omega),?_⟩
  intro l4 n4;generalize eX:upd _ l4 _=H4;have ⟨s4,e4⟩:=nw n4 eX;clear eX
  refine ⟨_,_,_,l4,ss++[p.nm++("p":Str),Txt.slice p.nm none (some (-1)),("p":Str)++p.nm],rfl,s2.trans (s3.trans s4),(s2.trans s3).free n4,?_,List.mem_append_left _ me,?_⟩
  ·rw [e4,List.map_append]
   rfl
  ·rw [List.length_append]
   show ss.length+3≤_
   omega
 rintro σ H2 ⟨o5,o6,o7,l,ss,rfl,s2,nl,el,me,ls⟩
 rw [lu] at ls
 refine ⟨_,rfl,bA,rfl,⟨_,SqL.of (s2 _ _ hb)⟩,for_list (K:=K) (a:=bA) (xs:=vs') (fun i σ H' =>∃(o5 o8 o9:Option V) (ss:List Str),σ=[some (.ref sA),some (.ref pA),some (.ref bA),some (.int c0),some (.ref l),o5,o6,o7,o8,o9,none,none,none]∧Same H H' ∧H' l=some (.lst (ss.map V.str))∧("":Str)∈ss∧ss.length≤20+i) ⟨_,none,none,ss,rfl,s2,el,me,by omega⟩ (fun i σ H' _ h=>by
   obtain ⟨_,_,_,_,_,h,_⟩:=h
   exact SqL.of (h _ _ hb)) ?_ ?_⟩
 ·rintro i u σ H3 hu ⟨o5,o8,o9,ss,rfl,s3,el,me,ls⟩
  obtain ⟨b,eb,hbr⟩:=paired_get pb hu
  have il:i < bars.length:=(List.getElem?_eq_some_iff.mp eb).1
  obtain ⟨ta,i',j',rfl,h1,_⟩:=hbr.same s3
  refine ⟨ta,_,rfl,h1,rfl,_,_,rfl,_,_,rfl,_,_,rfl,rfl,?_⟩
  refine ⟨_,rfl,.inl ⟨rfl,_,SqL.of el⟩,_,rfl,l,_,_,rfl,rfl,el,(by rw [List.length_map];exact Nat.lt_of_le_of_lt (show ss.length≤1000 by omega) (by decide)),?_⟩
  refine ⟨_,_,_,ss++[b.nm],rfl,fun c o z=> ?_,?_,List.mem_append_left _ me,?_⟩
  ·rw [upd_ne (ne_of_none z nl)]
   exact s3 _ _ z
  ·rw [upd_same,List.map_append]
   rfl
  ·rw [List.length_append]
   show ss.length+1≤_
   omega
 rintro σ H3 ⟨o5',o8,o9,ss,rfl,s3,el,me,ls⟩
 rw [lv] at ls
 have hp3:=s3 _ _ hp
 refine ⟨_,rfl,pA,rfl,⟨_,SqL.of hp3⟩,fun D1 n1=> ?_⟩
 refine comp_list (cap:=[]) (K:=K) (a:=pA) (xs:=us) (fun i v _=>∃p,pins[i]? =some p∧v=.str p.nm) n1 (by rw [lu];exact Nat.lt_of_le_of_lt (show pins.length≤1000 by omega) (by decide)) (fun H2 s2=>SqL.of (s2 _ _ hp3)) (fun _ _ _ _ _ _ _ h=>h) ?_ ?_
 ·intro j u H6 Rq hu s6 k
  obtain ⟨p,ep',hp'⟩:=paired_get pp hu
  obtain ⟨ta,l',sv,us',rfl,h1,_⟩:=hp'.same (s3.trans s6)
  exact ⟨_,rfl,ta,_,_,_,rfl,rfl,h1,rfl,k _ _ (Same.refl _) ⟨p,ep',rfl⟩⟩
 intro ys H4 hy hrel s4 hD
 rw [names_of (nm:=PinD.nm) (by rw [hy,lu]) hrel] at hD
 have no:("":Str)∉pins.map (·.nm):=fun z=>by
  obtain ⟨p,mp,e⟩:=List.mem_map.mp z
  have:=(ln p mp).1
  rw [e] at this
  exact absurd this (by decide+kernel)
 generalize pins.map (·.nm)=nms at hD no q
 have el4:=s4 _ _ el
 refine ⟨_,rfl,l,rfl,⟨_,SqL.of el4⟩,fun D2 n2=> ?_⟩
 refine comp_listF (K:=K) (a:=l) (xs:=ss.map V.str) (zs:=ss) (Rl:=fun u (x:Str)=>u=V.str x) (cap:=[some (.ref D1)]) (fun x=> !inV (.str x) (nms.map V.str)) (strs_rel ss) n2 (by rw [List.length_map];exact Nat.lt_of_le_of_lt (show ss.length≤1000 by omega) (by decide)) (fun H2 s2=>SqL.of (s2 _ _ el4)) ?_ ?_ ?_
 ·intro x z HC RC hz mz sC kC
  rw [hz]
  exact ⟨_,rfl,_,rfl,D1,_,rfl,.inl (SqL.of (sC _ _ hD)),rfl,flat_strs _,_,rfl,kC _ (Same.refl _)⟩
 ·intro x z HC RC hz sC k
  exact ⟨_,rfl,k⟩
 intro us5 H5 p5 s5 e5
 rw [strs_back p5] at e5
 have mem5:∀x∈ss.filter (fun x=> !inV (.str x) (nms.map V.str)),x∉nms:=fun x h=>by
  have:=(List.mem_filter.mp h).2
  rw [inV_strs] at this
  simpa using this
 have pos:0 < (ss.filter (fun x=> !inV (.str x) (nms.map V.str))).length:=List.length_pos_of_mem (List.mem_filter.mpr ⟨me,by rw [inV_strs];simpa using no⟩)
 generalize ss.filter (fun x=> !inV (.str x) (nms.map V.str))=fs at e5 mem5 pos
 have s05:=s3.trans (s4.trans s5)
 have f1:=field_in (c:=c0) (p:=1009) (m:=((fs.map V.str).length:Int)) (by rw [List.length_map];omega)
 have f2:=field_in (c:=c0) (p:=2003) (m:=((fs.map V.str).length:Int)) (by rw [List.length_map];omega)
 obtain ⟨k1,ek1⟩:∃n:Nat,field c0 1009 ((fs.map V.str).length:Int)=(n:Int):=⟨(field c0 1009 ((fs.map V.str).length:Int)).toNat,by omega⟩
 obtain ⟨k2,ek2⟩:∃n:Nat,field c0 2003 ((fs.map V.str).length:Int)=(n:Int):=⟨(field c0 2003 ((fs.map V.str).length:Int)).toNat,by omega⟩
 rw [ek1,List.length_map] at f1
 rw [ek2,List.length_map] at f2
 obtain ⟨x1,ex1⟩:∃x,fs[k1]? =some x:=⟨_,gE (by omega)⟩
 obtain ⟨x2,ex2⟩:∃x,fs[k2]? =some x:=⟨_,gE (by omega)⟩
 have pos' :(0:Int) < ((fs.map V.str).length:Int):=by rw [List.length_map];omega
 refine ⟨_,rfl,_,rfl,_,rfl,D2,_,rfl,.inl (SqL.of e5),c0,1009,_,rfl,by decide,by decide,pos',D2,_,_,_,rfl,rfl,SqL.of e5,(by rw [ek1];exact atI_nat (by rw [List.getElem?_map,ex1];rfl)),?_⟩
 refine ⟨_,rfl,_,rfl,_,rfl,D2,_,rfl,.inl (SqL.of e5),c0,2003,_,rfl,by decide,by decide,pos',D2,_,_,_,rfl,rfl,SqL.of e5,(by rw [ek2];exact atI_nat (by rw [List.getElem?_map,ex2];rfl)),?_⟩
 have m1:=mem5 x1 (List.mem_of_getElem? ex1)
 have m2:=mem5 x2 (List.mem_of_getElem? ex2)
 refine ⟨_,rfl,_,rfl,rfl,_,rfl,?_⟩
 refine ite2 (fun _=> ?_) (fun c=> ?_)
 ·refine ⟨_,rfl,(by show 1≤sizeLine;decide),?_⟩
  intro l9 n9;generalize eX:upd _ l9 _=H9;have ⟨s9,e9⟩:=nw n9 eX;clear eX
  exact q l9 [x1] H9 (s05.trans s9) (s05.free n9) e9 (Nat.le_refl _) (by simp) (by simp) (fun x hx=>by rw [List.mem_singleton.mp hx];exact m1)
 ·have ne:x2≠x1:=fun z=>c (decide_eq_true (by rw [z]))
  refine ⟨_,rfl,_,rfl,(by show 2≤sizeLine;decide),?_⟩
  intro l9 n9;generalize eX:upd _ l9 _=H9;have ⟨s9,e9⟩:=nw n9 eX;clear eX
  exact q l9 [x1,x2] H9 (s05.trans s9) (s05.free n9) e9 (by simp) (by simp) (by simp;exact fun z=>ne z.symm) (fun x hx=>by
   have:x=x1∨x=x2:=by simpa using hx
   rcases this with rfl | rfl
   ·exact m1
   ·exact m2)
theorem PtD.put {K:Frag}{H:Hp}{kvs:List (Key×V)}{F:Str→Option (Rat×Rat)}(h:PtD K H kvs F){x:Str}{v:V}{q:Rat×Rat}(n:PtR K H v q):PtD K H (putK kvs (.inr x) v) (fun nm=>if nm=x then some q else F nm):=fun nm=>by
 show (valV (putK kvs (.inr x) v) (.inr nm)=none∧(if nm=x then some q else F nm)=none)∨∃v' p,valV (putK kvs (.inr x) v) (.inr nm)=some v' ∧(if nm=x then some q else F nm)=some p∧PtR K H v' p
 rw [valV_put]
 by_cases c:nm=x
 ·subst c
  rw [if_pos rfl,if_pos rfl]
  exact .inr ⟨v,q,rfl,rfl,n⟩
 ·rw [if_neg (fun e=>c (by injection e)),if_neg c]
  exact h nm
def ordL (n1 n2 n3 xs:List Str):List Str:=n1++xs.take 1++n2++xs.drop 1++n3
structure LoadL (K:Frag)(H:Hp)(d:Addr)(kvs:List (Key×V))(L:Str→Option (Rat×Rat))(pins:List PinD)(xs:List Str):Prop where
 hd:H d=some (.dK kvs)
 hP:PtD K H kvs L
 zL:mvSz L
 nd:(kvs.map (·.1)).Nodup
 ks:∃n1 n2 n3:List Str,kvs.map (·.1)=(ordL n1 n2 n3 xs).map (fun x=>(Sum.inr x:Key))∧∀x∈n1++n2++n3,x∈pins.map (·.nm)
theorem ord_perm (t1 t2 t3 x1 x2:List Str):(t1++x1++t2++x2++t3).Perm (t1++t2++t3++(x1++x2)):=by
 rw [List.perm_iff_count]
 intro a
 simp only [List.count_append]
 omega
inductive spLoadL (K:Frag)(vs:List V)(H:Hp)(Q:VK)(E_:XK):Prop where
 | mk (sA pA xA:Addr) (ns:List Int) (us:List V) (pins:List PinD) (xs:List Str) (_:vs=[.ref sA,.ref pA,.ref xA]) (_:SqL K H sA (ns.map V.int)) (_:H pA=some (.lst us)) (_:Paired (PinR K H) us pins) (_:(pins.map (·.nm)).Nodup) (_:pins.length≤5) (_:H xA=some (.lst (xs.map V.str))) (_:1≤xs.length) (_:xs.length≤2) (_:xs.Nodup) (_:(∀x∈xs,x∉pins.map (·.nm))) (_:∀(d:Addr) (kvs:List (Key×V)) (L:Str→Option (Rat×Rat)) (H' :Hp),Same H H' →H d=none→LoadL K H' d kvs L pins xs→Q (.ref d) H'):spLoadL K vs H Q E_
theorem sc_bm:FnScope ["_law_script","_law_pins_here","_law_strange_here","_law_cell","_law_names","_law_at","_law_later","_law_order","_law_load_here","_law_k","_law_some","_law_x"] ["_law_script","_law_pins_here","_law_strange_here"] (defScope s_bm):=sq
theorem ok_bm (D:Def K mg "_law_load" s_bm ["_law_script","_law_pins_here","_law_strange_here"])(m_range:mg "range"=none)(m_len:mg "len"=none)(G_ad:Fn P w K mg base (CXr P w) 1 "_law_cell_at" ["_law_script","_law_k"] (spCell K))(G_ay:Fn P w K mg base (CXr P w) 1 "_law_field" ["_law_cell","_law_prime","_law_many"] spField):
  Fn P w K mg base (CXr P w) 3 "_law_load" ["_law_script","_law_pins_here","_law_strange_here"] (spLoadL K):=by
 refine D.ok sc_bm (fun vs H Q E h=> ?_) (fun f cdv A outer s H vs Q E hr h=> ?_)
 ·obtain ⟨sA,pA,xA,ns,us,pins,xs,rfl,_⟩:=h
  rfl
 obtain ⟨sA,pA,xA,ns,us,pins,xs,rfl,hS,hp,pp,np,lp,hx,lx1,lx,nx,nn,q⟩:=h
 have lu:us.length=pins.length:=Paired.length pp
 have sz:∀{n:Nat},n≤100→n≤sizeLine:=fun h=>Nat.le_trans h (by decide)
 refine ⟨_,(pss_cons (ps_set (i:=3) sc_bm.nd rfl (Or.inl rfl) (pe_fn G_ad hr.mo pX (pac (pv 0) (pac pe_int pa_nil))))
  (pss_cons (ps_setC (i:=4) sc_bm.nd rfl (Or.inl rfl) (tn:=["_law_pin"]) (fr:=[]) (caps:=[]) rfl ⟨rfl,by decide+kernel,rfl,by decide+kernel,by decide+kernel,rfl,trivial,trivial⟩ (pi_list (pv 1)) (fun _ _ _ _=>(pg_name (i:=0) (show (["_law_pin"]:List Str).Nodup from by decide+kernel) rfl (Or.inl rfl))) (fun _ _ _ _=>pf_nil) (fun _ _ _ _=>(pe_ix (ix_tupK (K:=K) rfl) (pv 0) pe_int (fun _ _=>rfl))))
  (pss_cons (ps_set (i:=4) sc_bm.nd rfl (Or.inl rfl) (pe_slice sl_list (pv 4) po_none (po_some (pe_fn G_ay hr.mo pX (pac (pv 3) (pac pe_int (pac (pe_op op_add (pe_callB call_len_seq rfl m_len b_len (pac (pv 4) pa_nil)) pe_int) pa_nil)))))))
  (pss_cons (ps_set (i:=5) sc_bm.nd rfl (Or.inl rfl) (pe_fn G_ay hr.mo pX (pac (pv 3) (pac pe_int (pac (pe_op op_add (pe_callB call_len_seq rfl m_len b_len (pac (pv 4) pa_nil)) pe_int) pa_nil)))))
  (pss_cons (ps_set (i:=6) sc_bm.nd rfl (Or.inl rfl) (pe_op op_add (pv 5) (pe_fn G_ay hr.mo pX (pac (pv 3) (pac pe_int (pac (pe_op op_sub (pe_op op_add (pe_callB call_len_seq rfl m_len b_len (pac (pv 4) pa_nil)) pe_int) (pv 5)) pa_nil))))))
  (pss_cons (ps_set (i:=7) sc_bm.nd rfl (Or.inl rfl) (pe_op op_cat (pe_op op_cat (pe_slice sl_list (pv 4) po_none (po_some (pv 5))) (pe_slice sl_list (pv 2) po_none (po_some pe_int))) (pe_slice sl_list (pv 4) (po_some (pv 5)) (po_some (pv 6)))))
  (pss_cons (ps_set (i:=7) sc_bm.nd rfl (Or.inl rfl) (pe_op op_cat (pe_op op_cat (pv 7) (pe_slice sl_list (pv 2) (po_some pe_int) po_none)) (pe_slice sl_list (pv 4) (po_some (pv 6)) po_none)))
  (pss_cons (ps_set (i:=8) sc_bm.nd rfl (Or.inl rfl) pe_dnewK)
  (pss_cons (ps_for PassesOwn.never rfl (pi_range1 rfl m_range (pac (pe_callB call_len_seq rfl m_len b_len (pac (pv 7) pa_nil)) pa_nil)) (pg_name (i:=9) sc_bm.nd rfl (Or.inl rfl)) (pss_cons (ps_set (i:=10) sc_bm.nd rfl (Or.inl rfl) (pe_fn G_ad hr.mo pX (pac (pv 0) (pac (pe_op op_add pe_int (pv 9)) pa_nil))))
   (pss_cons (ps_set (i:=11) sc_bm.nd rfl (Or.inl rfl) (pe_tup (pac (pe_op op_sub (pe_fn G_ay hr.mo pX (pac (pv 10) (pac pe_int (pac pe_int pa_nil)))) pe_int) (pac pe_int pa_nil))))
   (pss_one (ps_dput (hu_of hr) (pv 8) (pe_ix ix_list (pv 7) (pv 9) (fun _ _=>rfl)) (pe_tup (pac (pv 11) (pac (pe_tup (pac (pe_op op_sub (pe_fn G_ay hr.mo pX (pac (pv 10) (pac pe_int (pac pe_int pa_nil)))) pe_int) (pac pe_int pa_nil))) pa_nil))) rfl)))))
  (pss_one (ps_ret (pv 8)))))))))))),?_⟩
 refine ⟨_,rfl,sA,ns,2,rfl,hS,by decide,by decide,?_⟩
 generalize cell ns 2=c0
 refine ⟨_,rfl,pA,rfl,⟨_,SqL.of hp⟩,fun D1 n1=> ?_⟩
 refine comp_list (cap:=[]) (K:=K) (a:=pA) (xs:=us) (fun i v _=>∃p,pins[i]? =some p∧v=.str p.nm) n1 (by rw [lu];exact Nat.lt_of_le_of_lt (show pins.length≤1000 by omega) (by decide)) (fun H2 s2=>SqL.of (s2 _ _ hp)) (fun _ _ _ _ _ _ _ h=>h) ?_ ?_
 ·intro j u H6 Rq hu s6 k
  obtain ⟨p,ep',hp'⟩:=paired_get pp hu
  obtain ⟨ta,l',sv,us',rfl,h1,_⟩:=hp'.same s6
  exact ⟨_,rfl,ta,_,_,_,rfl,rfl,h1,rfl,k _ _ (Same.refl _) ⟨p,ep',rfl⟩⟩
 intro ys H1 hy hrel s1 hD
 rw [names_of (nm:=PinD.nm) (by rw [hy,lu]) hrel] at hD
 generalize hnm:pins.map (·.nm)=nms at hD np nn q
 have ln:nms.length=pins.length:=by rw [← hnm,List.length_map]
 have i1:=field_in (c:=c0) (p:=3001) (m:=((nms.map V.str).length:Int)+1) (by omega)
 refine ⟨_,rfl,_,rfl,_,rfl,D1,_,rfl,.inl (SqL.of hD),_,_,rfl,rfl,c0,3001,_,rfl,by decide,by decide,by omega,_,rfl,D1,_,rfl,SqL.of hD,?_⟩
 generalize field c0 3001 (((nms.map V.str).length:Nat)+1)=f1 at i1 ⊢
 obtain ⟨m1,rfl⟩:∃n:Nat,f1=(n:Int):=⟨f1.toNat,by omega⟩
 rw [List.length_map] at i1
 rw [cutV_to (by rw [List.length_map];omega)]
 intro D2 n2;generalize eX:upd _ D2 _=H2;have ⟨s2,e2⟩:=nw n2 eX;clear eX
 rw [← List.map_take] at e2
 have lt:(nms.take m1).length=m1:=by rw [List.length_take];omega
 generalize htk:nms.take m1=ts at e2 lt
 have i2:=field_in (c:=c0) (p:=4001) (m:=((ts.map V.str).length:Int)+1) (by omega)
 refine ⟨_,rfl,_,rfl,D2,_,rfl,.inl (SqL.of e2),_,_,rfl,rfl,c0,4001,_,rfl,by decide,by decide,by omega,?_⟩
 generalize field c0 4001 (((ts.map V.str).length:Nat)+1)=f2 at i2 ⊢
 obtain ⟨a1,rfl⟩:∃n:Nat,f2=(n:Int):=⟨f2.toNat,by omega⟩
 rw [List.length_map] at i2
 have i3:=field_in (c:=c0) (p:=5003) (m:=((ts.map V.str).length:Int)+1 - (a1:Int)) (by rw [List.length_map];omega)
 refine ⟨_,rfl,_,rfl,_,rfl,D2,_,rfl,.inl (SqL.of e2),_,_,rfl,rfl,_,rfl,_,_,rfl,rfl,c0,5003,_,rfl,by decide,by decide,by rw [List.length_map];omega,_,_,rfl,rfl,?_⟩
 generalize field c0 5003 (((ts.map V.str).length:Nat)+1 - (a1:Int))=f3 at i3 ⊢
 obtain ⟨b1,rfl⟩:∃n:Nat,f3=(n:Int):=⟨f3.toNat,by omega⟩
 rw [List.length_map] at i3
 have eab:(a1:Int)+(b1:Int)=((a1+b1:Nat):Int):=by push_cast;rfl
 rw [eab]
 have hx2:H2 xA=some (.lst (xs.map V.str)):=s2 _ _ (s1 _ _ hx)
 refine ⟨_,rfl,_,rfl,_,rfl,D2,_,rfl,SqL.of e2,?_⟩
 rw [cutV_to (by rw [List.length_map];omega)]
 intro l3 n3;generalize eX:upd _ l3 _=H3;have ⟨s3,e3⟩:=nw n3 eX;clear eX
 refine ⟨_,rfl,1,rfl,xA,_,rfl,SqL.of (s3 _ _ hx2),?_⟩
 have c1:cutV (xs.map V.str) none (some 1)=(xs.map V.str).take 1:=cutV_to (i:=1) (by rw [List.length_map];omega)
 rw [c1]
 intro l4 n4;generalize eX:upd _ l4 _=H4;have ⟨s4,e4⟩:=nw n4 eX;clear eX
 refine ⟨l3,l4,_,_,rfl,rfl,s4 _ _ e3,e4,sz (by rw [List.length_take,List.length_take,List.length_map,List.length_map];omega),?_⟩
 intro l5 n5;generalize eX:upd _ l5 _=H5;have ⟨s5,e5⟩:=nw n5 eX;clear eX
 have s25:=s3.trans (s4.trans s5)
 refine ⟨_,rfl,_,rfl,_,rfl,_,rfl,_,rfl,D2,_,rfl,SqL.of (s25 _ _ e2),?_⟩
 rw [cutV_mid (by omega) (by rw [List.length_map];omega)]
 intro l6 n6;generalize eX:upd _ l6 _=H6;have ⟨s6,e6⟩:=nw n6 eX;clear eX
 refine ⟨l5,l6,_,_,rfl,rfl,s6 _ _ e5,e6,sz (by simp only [List.length_append,List.length_take,List.length_drop,List.length_map];omega),?_⟩
 intro l7 n7;generalize eX:upd _ l7 _=H7;have ⟨s7,e7⟩:=nw n7 eX;clear eX
 have s27:=s25.trans (s6.trans s7)
 refine ⟨_,rfl,_,rfl,1,rfl,xA,_,rfl,SqL.of (s27 _ _ hx2),?_⟩
 have c2:cutV (xs.map V.str) (some 1) none=(xs.map V.str).drop 1:=cutV_from (i:=1) (by rw [List.length_map];omega)
 rw [c2]
 intro l8 n8;generalize eX:upd _ l8 _=H8;have ⟨s8,e8⟩:=nw n8 eX;clear eX
 refine ⟨l7,l8,_,_,rfl,rfl,s8 _ _ e7,e8,sz (by simp only [List.length_append,List.length_take,List.length_drop,List.length_map];omega),?_⟩
 intro l9 n9;generalize eX:upd _ l9 _=H9;have ⟨s9,e9⟩:=nw n9 eX;clear eX
 have s29:=s27.trans (s8.trans s9)
 refine ⟨_,rfl,_,rfl,_,rfl,D2,_,rfl,SqL.of (s29 _ _ e2),?_⟩
 rw [cutV_from (by rw [List.length_map];omega)]
 intro lA nA;generalize eX:upd _ lA _=HA;have ⟨sB,eA⟩:=nw nA eX;clear eX
 refine ⟨l9,lA,_,_,rfl,rfl,sB _ _ e9,eA,sz (by simp only [List.length_append,List.length_take,List.length_drop,List.length_map];omega),?_⟩
 intro lO nO;generalize eX:upd _ lO _=HZ;have ⟨sO,eO⟩:=nw nO eX;clear eX
 have eO' :HZ lO=some (.lst ((ordL (ts.take a1) ((ts.drop a1).take (a1+b1 - a1)) (ts.drop (a1+b1)) xs).map V.str)):=by
  rw [eO]
  simp only [ordL,List.map_append,List.map_take,List.map_drop]
 have s2Z:=s29.trans (sB.trans sO)
 have sZ:Same H HZ:=s1.trans (s2.trans s2Z)
 have lord:(ordL (ts.take a1) ((ts.drop a1).take (a1+b1 - a1)) (ts.drop (a1+b1)) xs).length≤10:=by
  simp only [ordL,List.length_append,List.length_take,List.length_drop]
  omega
 have nts:ts.Nodup:=by
  rw [← htk]
  exact List.Nodup.sublist (List.take_sublist _ _) np
 have tsn:∀x∈ts,x∈nms:=fun x h=>by
  rw [← htk] at h
  exact List.mem_of_mem_take h
 have e123:ts.take a1++(ts.drop a1).take (a1+b1 - a1)++ts.drop (a1+b1)=ts:=by
  rw [show a1+b1 - a1=b1 by omega, ← List.drop_drop,List.append_assoc,List.take_append_drop,List.take_append_drop]
 generalize ts.take a1=t1 at eO' lord e123
 generalize (ts.drop a1).take (a1+b1 - a1)=t2 at eO' lord e123
 generalize ts.drop (a1+b1)=t3 at eO' lord e123
 have nord:(ordL t1 t2 t3 xs).Nodup:=by
  have hp' :(ordL t1 t2 t3 xs).Perm (ts++xs):=by
   rw [← e123]
   unfold ordL
   have e:=ord_perm t1 t2 t3 (xs.take 1) (xs.drop 1)
   rw [List.take_append_drop] at e
   exact e
  rw [hp'.nodup_iff,List.nodup_append]
  exact ⟨nts,nx,fun a ha b hb e=>nn b hb (e▸tsn a ha)⟩
 generalize ho:ordL t1 t2 t3 xs=ord at eO' lord nord
 intro d nd;generalize eX:upd _ d _=HY;have ⟨sd,ed⟩:=nw nd eX;clear eX
 have nd0:=sZ.free nd
 refine ⟨_,rfl,lO,_,rfl,.inl (SqL.of (sd _ _ eO')),((ord.map V.str).length:Int),rfl,by omega,by rw [List.length_map];omega,for_range (lo:=0) (n:=(ord.map V.str).length) (fun i σ H' =>∃(o9 oA oB:Option V) (kvs:List (Key×V)) (L:Str→Option (Rat×Rat)),σ=[some (.ref sA),some (.ref pA),some (.ref xA),some (.int c0),some (.ref D2),some (.int (a1:Int)),some (.int ((a1+b1:Nat):Int)),some (.ref lO),some (.ref d),o9,oA,oB]∧(∀b o,b≠d→HZ b=some o→H' b=some o)∧H' d=some (.dK kvs)∧kvs.map (·.1)=(ord.take i).map (fun x=>(Sum.inr x:Key))∧PtD K H' kvs L∧mvSz L) ⟨none,none,none,[],fun _=>none,rfl,fun b o _ z=>sd _ _ z,ed,rfl,fun nm=>.inl ⟨rfl,rfl⟩,fun x=>⟨sz_zero (by decide),sz_zero (by decide)⟩⟩ ?_ ?_⟩
 ·rintro i σ H' hi ⟨o9,oA,oB,kvs,L,rfl,k',hd',ks,hP,zL⟩
  have ei:(0:Int)+(i:Int)=(i:Int):=Int.zero_add _
  rw [ei]
  rw [List.length_map] at hi
  have sY:Same H H' :=fun b o z=>k' b o (ne_of_none z nd0) (sZ _ _ z)
  have lOd:lO≠d:=ne_of_none eO' nd
  have eY:=k' _ _ lOd eO'
  refine ⟨_,rfl,_,rfl,_,_,rfl,rfl,sA,ns,_,rfl,sY.seq hS,by omega,by omega,?_⟩
  generalize cell ns (16+(i:Int))=c1
  have f1:=field_in (c:=c1) (p:=1009) (m:=199) (by decide)
  have f2:=field_in (c:=c1) (p:=2003) (m:=199) (by decide)
  refine ⟨_,rfl,c1,1009,199,rfl,by decide,by decide,by decide,_,_,rfl,rfl,(by show 2≤sizeLine;decide),?_⟩
  obtain ⟨g1,eg1,b1'⟩:∃g:Int,field c1 1009 199 - 99=g∧g.natAbs < 1000:=⟨_,rfl,by omega⟩
  obtain ⟨g2,eg2,b2'⟩:∃g:Int,field c1 2003 199 - 99=g∧g.natAbs < 1000:=⟨_,rfl,by omega⟩
  rw [eg1]
  intro p1 q1;generalize eX:upd _ p1 _=Ha;have ⟨w1,v1⟩:=nw q1 eX;clear eX
  refine ⟨_,rfl,_,rfl,c1,2003,199,rfl,by decide,by decide,by decide,_,_,rfl,rfl,(by show 2≤sizeLine;decide),?_⟩
  rw [eg2]
  intro p2 q2;generalize eX:upd _ p2 _=Hb;have ⟨w2,v2⟩:=nw q2 eX;clear eX
  refine ⟨(by show 2≤sizeLine;decide),?_⟩
  intro p3 q3;generalize eX:upd _ p3 _=Hc;have ⟨w3,v3⟩:=nw q3 eX;clear eX
  have wc:Same H' Hc:=w1.trans (w2.trans w3)
  have hpt:PtR K Hc (.ref p3) ((g1:Rat),(g2:Rat)):=pt_of v3 (nm_lit g1 (w3 _ _ (w2 _ _ v1))) (nm_lit g2 (w3 _ _ v2))
  obtain ⟨x,ex⟩:∃x,ord[i]? =some x:=⟨_,gE hi⟩
  have hdc:=wc _ _ hd'
  have lk:kvs.length≤1000:=by
   have:=congrArg List.length ks
   rw [List.length_map,List.length_map,List.length_take] at this
   omega
  refine ⟨_,rfl,_,rfl,_,rfl,lO,_,_,_,rfl,rfl,SqL.of (wc _ _ eY),atI_nat (by rw [List.getElem?_map,ex];rfl),d,_,rfl,DPut.k (k:=.inr x) hdc (Nat.lt_of_le_of_lt lk (by decide)),?_⟩
  have fresh:valV kvs (.inr x)=none:=valV_none (by
   rw [ks]
   intro z
   obtain ⟨y,hy,ey⟩:=List.mem_map.mp z
   have:=take_new (nm:=id) (by rw [List.map_id];exact nord) ex hy
   exact this (Sum.inr.inj ey))
  have t7:SameT Hc (upd Hc d (.dK (putK kvs (.inr x) (.ref p3)))):=.dict hdc
  refine ⟨_,_,_,putK kvs (.inr x) (.ref p3),fun nm=>if nm=x then some ((g1:Rat),(g2:Rat)) else L nm,rfl,fun b o n z=> ?_,upd_same,?_,PtD.put (F:=L) (fun nm=> ?_) (hpt.sameT t7),fun nm=> ?_⟩
  ·rw [upd_ne n]
   exact wc _ _ (k' b o n z)
  ·rw [putK_new _ fresh,List.map_append,ks,take_snoc ex,List.map_append]
   rfl
  ·rcases hP nm with h | ⟨v,m,h1,h2,h3⟩
   ·exact .inl h
   ·exact .inr ⟨v,m,h1,h2,(h3.same wc).sameT t7⟩
  ·have z:=zL nm
   unfold mv at z ⊢
   dsimp only
   by_cases c:nm=x
   ·rw [if_pos c]
    exact ⟨(sz_small (k:=45) (by omega) (by decide)),(sz_small (k:=45) (by omega) (by decide))⟩
   ·rw [if_neg c]
    exact z
 ·rintro σ H' ⟨o9,oA,oB,kvs,L,rfl,k',hd',ks,hP,zL⟩
  rw [List.length_map,List.take_length] at ks
  refine ⟨_,rfl,q d kvs L H' (fun b o z=>k' b o (ne_of_none z nd0) (sZ _ _ z)) nd0 ⟨hd',hP,zL,?_,t1,t2,t3,?_,fun x hx' => ?_⟩⟩
  ·rw [ks]
   exact nodup_inr nord
  ·rw [ks,ho]
  ·rw [e123] at hx'
   rw [hnm]
   exact tsn x hx'
mutual
theorem is_self {H:Hp}:∀(d:Da) (x:V),Is K H d x→alike d d=true∧eqDa d d=true
 | .v a,x,h=>by
  unfold Is at h
  unfold alike eqDa
  exact ⟨rfl,eqV_refl h.2⟩
 | .t ds,x,h=>by
  unfold Is at h
  unfold alike eqDa
  obtain ⟨p,xs,_,_,k⟩:=h
  exact iss_self ds xs k
 | .l ds,x,h=>by
  unfold Is at h
  unfold alike eqDa
  obtain ⟨p,xs,_,_,k⟩:=h
  exact iss_self ds xs k
theorem iss_self {H:Hp}:∀(ds:List Da) (xs:List V),Iss K H ds xs→alikes ds ds=true∧eqDas ds ds=true
 | [],_,_=>⟨rfl,rfl⟩
 | d::ds,[],h=>by unfold Iss at h;exact h.elim
 | d::ds,x::xs,h=>by
  unfold Iss at h
  unfold alikes eqDas
  obtain ⟨a1,a2⟩:=is_self d x h.1
  obtain ⟨b1,b2⟩:=iss_self ds xs h.2
  rw [a1,a2,b1,b2]
  exact ⟨rfl,rfl⟩
end
theorem deps_map {α:Type}{f:α→Da}(h:∀a,dep (f a)≤60):∀l:List α,deps (l.map f)≤60
 | []=>Nat.zero_le _
 | a::l=>by
  show max (dep (f a)) (deps (l.map f))≤60
  have h1:=h a
  have h2:=deps_map h l
  omega
theorem iss_map {α:Type}{H:Hp}{f:α→Da}{R:V→α→Prop}(h:∀u a,R u a→Is K H (f a) u):∀{us:List V} {l:List α},Paired R us l→Iss K H (l.map f) us
 | [],[],.nil=>by
  unfold Iss
  trivial
 | _::_,_::_,.cons z t=>by
  show Iss K H (_::_) _
  unfold Iss
  exact ⟨h _ _ z,iss_map h t⟩
theorem is_str {H:Hp}(x:Str):Is K H (.v (.str x)) (.str x):=by
 unfold Is
 exact ⟨rfl,rfl⟩
theorem strs_pair (xs:List Str):Paired (fun u (x:Str)=>u=V.str x) (xs.map V.str) xs:=by
 induction xs with
 | nil=>exact .nil
 | cons x xs ih=>exact .cons rfl ih
theorem is_strs {H:Hp}{l:Addr}{xs:List Str}(h:SqL K H l (xs.map V.str)):Is K H (.l (xs.map fun x=>.v (.str x))) (.ref l):=by
 unfold Is
 exact ⟨l,_,rfl,h,iss_map (fun u a z=>by rw [z];exact is_str a) (strs_pair xs)⟩
theorem ne_l {H:Hp}{ds:List Da}{x y:V}{Q:VK}(h1:Is K H (.l ds) x)(h2:Is K H (.l ds) y)(hd:deps ds≤60)(q:Q (.bl false) H):rNeDa K x y H Q:=by
 have h:=h1
 unfold Is at h
 obtain ⟨p,xs,_,_,k⟩:=h
 obtain ⟨b1,b2⟩:=iss_self ds xs k
 refine ⟨ds,ds,.inr ⟨h1,h2⟩,b1,hd,?_⟩
 rw [b2]
 exact q
theorem dep0 (x:Str):dep (.v (.str x))≤60:=Nat.zero_le _
theorem nmsV {α:Type}{nm:α→Str}{l:List α}{ys:List V}(hl:ys.length=l.length)(h:∀(i:Nat) (v:V),ys[i]? =some v→∃p,l[i]? =some p∧v=V.str (nm p)):ys=(l.map nm).map V.str:=by
 refine List.ext_getElem? fun i=> ?_
 by_cases hi:i < ys.length
 ·obtain ⟨p,e1,e2⟩:=h i ys[i] (gE hi)
  rw [gE hi,e2,List.getElem?_map,List.getElem?_map,e1]
  rfl
 ·rw [List.getElem?_eq_none (by omega),List.getElem?_eq_none (by rw [List.length_map,List.length_map];omega)]
theorem first_one {pins:List PinD}{kvs:List (Key×V)}{t t' :Nat}{x x' :Str}{y y' :V}(e:kvs[t]? =some (.inr x,y))(n:x∉pins.map (·.nm))(k:KeysIn pins (kvs.take t))(e' :kvs[t']? =some (.inr x',y'))(n' :x' ∉pins.map (·.nm))(k' :KeysIn pins (kvs.take t')):x' =x:=by
 have key:∀{t t' :Nat} {x:Str} {y:V},kvs[t]? =some (.inr x,y)→x∉pins.map (·.nm)→KeysIn pins (kvs.take t')→¬ t < t' :=fun {t t' x y} e n k' h=>by
  have m:((.inr x,y):Key×V)∈kvs.take t' :=by
   refine List.mem_of_getElem? (i:=t) ?_
   rw [List.getElem?_take_of_lt h]
   exact e
  obtain ⟨z,hz,ez⟩:=k' _ m
  exact n (Sum.inr.inj ez▸hz)
 have h1:=key e n k'
 have h2:=key e' n' k
 have:t=t' :=by omega
 subst this
 rw [e] at e'
 exact (Sum.inr.inj (Prod.mk.inj (Option.some.inj e')).1).symm
structure StrangeL (K:Frag)(H:Hp)(C a d:Addr)(pins:List PinD)(bars:List BarD)(kvs:List (Key×V))(L:Str→Option (Rat×Rat))(x:Str):Prop where
 R:FrA K H C a pins bars
 g:GoodF pins bars
 hd:H d=some (.dK kvs)
 hP:PtD K H kvs L
 zL:mvSz L
 hk:∀kv∈kvs,∃x:Str,kv.1=.inr x
 st:∃(t:Nat) (y:V),kvs[t]? =some (.inr x,y)∧x∉pins.map (·.nm)∧KeysIn pins (kvs.take t)
theorem StrangeL.same {H H' :Hp}{C a d:Addr}{pins:List PinD}{bars:List BarD}{kvs:List (Key×V)}{L:Str→Option (Rat×Rat)}{x:Str}(h:StrangeL K H C a d pins bars kvs L x)(s:Same H H'):StrangeL K H' C a d pins bars kvs L x:=⟨h.R.same s,h.g,s _ _ h.hd,h.hP.same s,h.zL,h.hk,h.st⟩
theorem StrangeL.asks {H:Hp}{C CN a d:Addr}{pins:List PinD}{bars:List BarD}{kvs:List (Key×V)}{L:Str→Option (Rat×Rat)}{x:Str}(h:StrangeL K H C a d pins bars kvs L x){Q:VK}{E:XK}(q:raisesF H E CN "pin" (.str x)):spRestX K C CN [.ref a,.ref d] H Q E:=by
 obtain ⟨t,y,e,n,k⟩:=h.st
 refine ⟨a,d,pins,bars,kvs,L,rfl,h.R,h.g,h.hd,h.hP,h.zL,h.hk,fun t' x' y' e' n' k' => ?_,fun p z ws H' ki _ _ _=> ?_⟩
 ·rw [first_one e n k e' n' k']
  exact q
 ·obtain ⟨z,hz,ez⟩:=ki _ (List.mem_of_getElem? e)
  exact absurd (Sum.inr.inj ez▸hz) n
inductive spRefused (K:Frag)(C:Addr)(vs:List V)(H:Hp)(Q:VK)(E_:XK):Prop where
 | mk (a d:Addr) (pins:List PinD) (bars:List BarD) (kvs:List (Key×V)) (L:Str→Option (Rat×Rat)) (x:Str) (_:vs=[.ref a,.ref d]) (_:StrangeL K H C a d pins bars kvs L x) (_:∀(l:Addr) (H' :Hp),Same H H' →H' l=some (.lst [.str x])→Q (.ref l) H'):spRefused K C vs H Q E_
theorem sc_al:FnScope ["_law_frame_here","_law_load_here","_law_found","e"] ["_law_frame_here","_law_load_here"] (defScope s_al):=sq
theorem ok_al {C CN CB CT CO:Addr}(D:Def K mg "_law_refused" s_al ["_law_frame_here","_law_load_here"])(m_c2:mg "NoPin"=some (.ref CN))(m_c3:mg "NoBar"=some (.ref CB))(m_bw:mg "TooMany"=some (.ref CT))(m_c0:mg "NoLoad"=some (.ref CO))(m_isinstance:mg "isinstance"=none)(xn:TyExc.ExcF K CN "pin")
  (em:PySem.W.exmOne K (.ref CN) (.ref CN)=some true) (kb:PySem.W.kitOne K (.ref CN) (.ref CB)=some false) (kt:PySem.W.kitOne K (.ref CN) (.ref CT)=some false) (ko:PySem.W.kitOne K (.ref CN) (.ref CO)=some false)
  (G_bu:Fn P w K mg base (CXr P w) 39 "rest_of" ["F","load"] (spRestX K C CN)):Fn P w K mg base (CXr P w) 40 "_law_refused" ["_law_frame_here","_law_load_here"] (spRefused K C):=by
 refine D.ok sc_al (fun vs H Q E h=> ?_) (fun f cdv A outer s H vs Q E hr h=> ?_)
 ·obtain ⟨a,d,pins,bars,kvs,L,x,rfl,_⟩:=h
  rfl
 obtain ⟨a,d,pins,bars,kvs,L,x,rfl,S,q⟩:=h
 refine ⟨_,(pss_cons (ps_set (i:=2) sc_al.nd rfl (Or.inl rfl) (pe_lst pa_nil))
  (pss_cons (ps_try ⟨rfl,rfl⟩ (psx_expr (px_fn G_bu hr.mo (pac (pv 0) (pac (pv 1) pa_nil)))) (ph_as (i:=3) (ClsN.own m_c2) sc_al.nd rfl rfl (fun a=>(pss_cons (ps_expr (pe_bmK (K:=K) rfl PySem.F.plainAttrs_list PySem.F.slot_list_append PySem.F.type_list_append mt_append (pv 2) (pac (pe_excGK (K:=K) rfl (pv 3) rfl) pa_nil)))
   (pss_one (ps_if (PW.pt (pw_or (pt_val (pe_callB (call_isiX (K:=K) rfl) rfl m_isinstance b_isinstance (pac (pv 3) (pac (pe_cls rfl m_c3) pa_nil)))) (pw_or (pt_val (pe_callB (call_isiX (K:=K) rfl) rfl m_isinstance b_isinstance (pac (pv 3) (pac (pe_cls rfl m_bw) pa_nil)))) (pw_or1 (pt_val (pe_callB (call_isiX (K:=K) rfl) rfl m_isinstance b_isinstance (pac (pv 3) (pac (pe_cls rfl m_c0) pa_nil)))))))) (pss_one (ps_expr (pe_bmK (K:=K) rfl PySem.F.plainAttrs_list PySem.F.slot_list_append PySem.F.type_list_append mt_append (pv 2) (pac (pe_excGK (K:=K) rfl (pv 3) rfl) pa_nil)))) pss_nil)))) ph_nil))
  (pss_one (ps_ret (pv 2))))),?_⟩
 refine ⟨(by show 0≤sizeLine;decide),?_⟩
 intro l nl;generalize eX:upd _ l _=H1;have ⟨sl,el⟩:=nw nl eX;clear eX
 refine ⟨_,rfl,_,rfl,(S.same sl).asks fun e H' sH nd hd=> ?_⟩
 refine ⟨true,em,iteT fun ea na=> ?_⟩
 have hl' :=sH _ _ el
 have hla:l≠ea:=ne_of_none hl' na
 have hda:e≠ea:=ne_of_none hd na
 have sE:Same H' (upd H' ea (excO (.ref CN) ea (some e))):=same_new na _
 have ee:(upd H' ea (excO (.ref CN) ea (some e))) ea=some (excO (.ref CN) ea (some e)):=upd_same
 generalize upd H' ea (excO (.ref CN) ea (some e))=H2 at sE ee ⊢
 have l2:=sE _ _ hl'
 have ed:e≠l:=fun z=>by rw [z,el] at nd;cases nd
 refine ⟨_,rfl,.inl ⟨rfl,_,SqL.of l2⟩,_,rfl,ea,CN,e,_,.str x,rfl,ee,sE _ _ hd,xn,look1 _ _,l,_,_,rfl,rfl,l2,(by show 0 < sizeLine;decide),?_⟩
 have e3:(upd H2 l (.lst ([]++[.str x]))) ea=some (excO (.ref CN) ea (some e)):=by rw [upd_ne (Ne.symm hla)];exact ee
 have l3:(upd H2 l (.lst ([]++[.str x]))) l=some (.lst [.str x]):=upd_same
 have s3:Same H (upd H2 l (.lst ([]++[.str x]))):=fun b o z=>by rw [upd_ne (ne_of_none z nl)];exact sE _ _ (sH _ _ (sl _ _ z))
 generalize upd H2 l (.lst ([]++[.str x]))=H3 at e3 l3 s3 ⊢
 refine ⟨_,rfl,ea,CN,_,false,_,rfl,rfl,e3,xn.k,kb,_,rfl,?_⟩
 refine ite2 (fun c=>nomatch c) (fun _=> ?_)
 refine ⟨_,rfl,ea,CN,_,false,_,rfl,rfl,e3,xn.k,kt,_,rfl,?_⟩
 refine ite2 (fun c=>nomatch c) (fun _=> ?_)
 refine ⟨_,rfl,ea,CN,_,false,_,rfl,rfl,e3,xn.k,ko,_,rfl,?_⟩
 refine ite2 (fun c=>nomatch c) (fun _=> ?_)
 exact ⟨_,rfl,q l H3 s3 l3⟩
inductive spAny (K:Frag)(C:Addr)(vs:List V)(H:Hp)(Q:VK)(E_:XK):Prop where
 | mk (a d:Addr) (pins:List PinD) (bars:List BarD) (kvs:List (Key×V)) (L:Str→Option (Rat×Rat)) (x:Str) (_:vs=[.ref a,.ref d]) (_:StrangeL K H C a d pins bars kvs L x) (_:∀H',Same H H' →Q (.bl true) H'):spAny K C vs H Q E_
theorem sc_a0:FnScope ["_law_frame_here","_law_load_here","e"] ["_law_frame_here","_law_load_here"] (defScope s_a0):=sq
theorem ok_a0 {C CN CY:Addr}(D:Def K mg "_law_refused_by_any" s_a0 ["_law_frame_here","_law_load_here"])(m_bb:mg "YardError"=some (.ref CY))(m_isinstance:mg "isinstance"=none)(m_ValueError:mg "ValueError"=none)(xn:TyExc.ExcF K CN "pin")
  (em:PySem.W.exmOne K (.ref CN) (.ref CY)=some true) (kv:PySem.W.kitOne K (.ref CN) (.type "ValueError")=some true)
  (G_bu:Fn P w K mg base (CXr P w) 39 "rest_of" ["F","load"] (spRestX K C CN)):Fn P w K mg base (CXr P w) 40 "_law_refused_by_any" ["_law_frame_here","_law_load_here"] (spAny K C):=by
 refine D.ok sc_a0 (fun vs H Q E h=> ?_) (fun f cdv A outer s H vs Q E hr h=> ?_)
 ·obtain ⟨a,d,pins,bars,kvs,L,x,rfl,_⟩:=h
  rfl
 obtain ⟨a,d,pins,bars,kvs,L,x,rfl,S,q⟩:=h
 refine ⟨_,(pss_cons (ps_try ⟨rfl,rfl⟩ (psx_expr (px_fn G_bu hr.mo (pac (pv 0) (pac (pv 1) pa_nil)))) (ph_as (i:=2) (ClsN.own m_bb) sc_a0.nd rfl rfl (fun a=>(pss_one (ps_ret (pe_callB (call_isiX (K:=K) rfl) rfl m_isinstance b_isinstance (pac (pv 2) (pac (pe_ty rfl m_ValueError b_ValueError) pa_nil)))))) ph_nil))
  (pss_one (ps_ret pe_bl))),?_⟩
 refine ⟨_,rfl,_,rfl,S.asks fun e H' sH nd hd=> ?_⟩
 refine ⟨true,em,iteT fun ea na=> ?_⟩
 have sE:Same H' (upd H' ea (excO (.ref CN) ea (some e))):=same_new na _
 exact ⟨_,rfl,ea,CN,_,true,_,rfl,rfl,upd_same,xn.k,kv,q _ fun b o z=>sE _ _ (sH _ _ z)⟩
theorem strange_at {kvs:List (Key×V)}{ps:List PinD}{pre post:List Str}{x:Str}(e:kvs.map (·.1)=(pre++x::post).map (fun x=>(Sum.inr x:Key)))(hpre:∀z∈pre,z∈ps.map (·.nm))(hx:x∉ps.map (·.nm)):∃(t:Nat) (y:V),kvs[t]? =some (.inr x,y)∧x∉ps.map (·.nm)∧KeysIn ps (kvs.take t):=by
 have e1:(kvs.map (·.1))[pre.length]? =some (Sum.inr x):=by
  rw [e,List.getElem?_map,List.getElem?_append_right (Nat.le_refl _),Nat.sub_self]
  rfl
 rw [List.getElem?_map] at e1
 obtain ⟨kv,h1,h2⟩:=Option.map_eq_some_iff.mp e1
 refine ⟨pre.length,kv.2,?_,hx,fun kv' h=> ?_⟩
 ·rw [h1]
  obtain ⟨a,b⟩:=kv
  have h2' :a=Sum.inr x:=h2
  rw [h2']
 ·have m:kv'.1∈(kvs.take pre.length).map (·.1):=List.mem_map.mpr ⟨kv',h,rfl⟩
  rw [List.map_take,e, ← List.map_take,List.take_left] at m
  obtain ⟨z,hz,ez⟩:=List.mem_map.mp m
  exact ⟨z,hpre z hz,ez.symm⟩
theorem keys_in {kvs:List (Key×V)}{ps:List PinD}{ord:List Str}(e:kvs.map (·.1)=ord.map (fun x=>(Sum.inr x:Key)))(h:∀z∈ord,z∈ps.map (·.nm)):KeysIn ps kvs:=fun kv hk=>by
 have m:kv.1∈kvs.map (·.1):=List.mem_map.mpr ⟨kv,hk,rfl⟩
 rw [e] at m
 obtain ⟨z,hz,ez⟩:=List.mem_map.mp m
 exact ⟨z,h z hz,ez.symm⟩
theorem keys_str {kvs:List (Key×V)}{ord:List Str}(e:kvs.map (·.1)=ord.map (fun x=>(Sum.inr x:Key))):∀kv∈kvs,∃x:Str,kv.1=.inr x:=fun kv hk=>by
 have m:kv.1∈kvs.map (·.1):=List.mem_map.mpr ⟨kv,hk,rfl⟩
 rw [e] at m
 obtain ⟨z,hz,ez⟩:=List.mem_map.mp m
 exact ⟨z,ez.symm⟩
def strP:Nat→List Str→List PinD
 | _,[]=>[]
 | k,x::xs=>⟨x,(((1000001+k:Nat):Rat),0),[]⟩::strP (k+1) xs
theorem strP_nm:∀(k:Nat) (xs:List Str),(strP k xs).map (·.nm)=xs
 | _,[]=>rfl
 | k,x::xs=>congrArg (x::·) (strP_nm (k+1) xs)
theorem LoadL.strange {H:Hp}{d:Addr}{kvs:List (Key×V)}{L:Str→Option (Rat×Rat)}{pins:List PinD}{xs:List Str}(ld:LoadL K H d kvs L pins xs)(l2:xs.length≤2)(nx:xs.Nodup)(xn:∀x∈xs,x∉pins.map (·.nm)){k:Nat}{x:Str}(ex:xs[k]? =some x):∃(t:Nat) (y:V),kvs[t]? =some (.inr x,y)∧x∉(pins++strP 0 (xs.take k)).map (·.nm)∧KeysIn (pins++strP 0 (xs.take k)) (kvs.take t):=by
 obtain ⟨n1,n2,n3,e,hn⟩:=ld.ks
 have nms:(pins++strP 0 (xs.take k)).map (·.nm)=pins.map (·.nm)++xs.take k:=by rw [List.map_append,strP_nm]
 match xs,k,l2,nx,xn,ex,e,nms with
 | [x0],0,_,_,xn,ex,e,nms=>
  cases ex
  refine strange_at (pre:=n1) (post:=n2++n3) (by rw [e];simp [ordL]) (fun z hz=> ?_) ?_
  ·rw [nms]
   exact List.mem_append_left _ (hn z (by simp [hz]))
  ·rw [nms]
   simpa using xn x (by simp)
 | [x0,x1],0,_,_,xn,ex,e,nms=>
  cases ex
  refine strange_at (pre:=n1) (post:=n2++[x1]++n3) (by rw [e];simp [ordL]) (fun z hz=> ?_) ?_
  ·rw [nms]
   exact List.mem_append_left _ (hn z (by simp [hz]))
  ·rw [nms]
   simpa using xn x (by simp)
 | [x0,x1],1,_,nx,xn,ex,e,nms=>
  cases ex
  refine strange_at (pre:=n1++[x0]++n2) (post:=n3) (by rw [e];simp [ordL]) (fun z hz=> ?_) ?_
  ·rw [nms]
   simp at hz ⊢
   rcases hz with h | h | h
   ·exact .inl (by simpa using hn z (by simp [h]))
   ·exact .inr h
   ·exact .inl (by simpa using hn z (by simp [h]))
  ·rw [nms]
   have h1:=xn x (by simp)
   have h2:x0≠x:=by simpa using nx
   simp at h1 ⊢
   exact ⟨h1,fun z=>h2 z.symm⟩
theorem strP_mem {p:PinD}:∀{k:Nat} {xs:List Str},p∈strP k xs→∃j,k≤j∧j < k+xs.length∧p.sp=(((1000001+j:Nat):Rat),0)∧p.ws=[]
 | _,[],h=>nomatch h
 | k,x::xs,h=>by
  rcases List.mem_cons.mp h with h | h
  ·rw [h]
   exact ⟨k,Nat.le_refl _,by simp,rfl,rfl⟩
  ·obtain ⟨j,h1,h2,h3,h4⟩:=strP_mem h
   refine ⟨j,by omega,?_,h3,h4⟩
   rw [List.length_cons]
   omega
theorem strP_len:∀(k:Nat) (xs:List Str),(strP k xs).length=xs.length
 | _,[]=>rfl
 | k,_::xs=>congrArg (·+1) (strP_len (k+1) xs)
theorem good_more {pins:List PinD}{bars:List BarD}(g:GoodF pins bars)(lp:pins.length≤5){xs:List Str}(l2:xs.length≤2)(nx:xs.Nodup)(xn:∀x∈xs,x∉pins.map (·.nm))(k:Nat):GoodF (pins++strP 0 (xs.take k)) bars:=by
 have lt:(xs.take k).length≤2:=by rw [List.length_take];omega
 refine ⟨?_,g.nb,fun b hb=> ?_,fun p hp=> ?_,?_,g.lb,fun p hp=> ?_⟩
 ·rw [List.map_append,strP_nm,List.nodup_append]
  exact ⟨g.np,List.Nodup.sublist (List.take_sublist _ _) nx,fun a ha b hb e=>xn b (List.mem_of_mem_take hb) (e▸ha)⟩
 ·obtain ⟨m1,m2,m3⟩:=g.ends b hb
  exact ⟨List.mem_append_left _ m1,List.mem_append_left _ m2,m3⟩
 ·rcases List.mem_append.mp hp with h | h
  ·exact g.sz p h
  ·obtain ⟨j,_,h2,h3,h4⟩:=strP_mem h
   rw [h3,h4]
   have e:(((1000001+j:Nat):Int):Rat)=((1000001+j:Nat):Rat):=rfl
   exact ⟨e▸sz_int (i:=((1000001+j:Nat):Int)) (k:=24) (show _ < 16777216 by omega) (by decide),sz_zero (by decide),fun w hw=>nomatch hw⟩
 ·rw [List.length_append,strP_len]
  omega
 ·rcases List.mem_append.mp hp with h | h
  ·exact g.lw p h
  ·obtain ⟨j,_,_,_,h4⟩:=strP_mem h
   rw [h4]
   exact Nat.zero_le _
theorem place_new {pins:List PinD}(pb:∀p∈pins,p.sp.1≤500010){xs:List Str}{k:Nat}:∀p∈pins++strP 0 (xs.take k),p.sp≠(((1000001+k:Nat):Rat),0):=fun p hp e=>by
 rcases List.mem_append.mp hp with h | h
 ·have h1:=pb p h
  rw [e] at h1
  have h2:(((1000001+k:Nat):Int):Rat)≤((500010:Int):Rat):=h1
  have:=Rat.intCast_le_intCast.mp h2
  omega
 ·obtain ⟨j,_,h2,h3,_⟩:=strP_mem h
  rw [List.length_take] at h2
  rw [e] at h3
  have h4:(((1000001+k:Nat):Int):Rat)=(((1000001+j:Nat):Int):Rat):=congrArg Prod.fst h3
  have:=Rat.intCast_inj.mp h4
  omega
theorem strP_app:∀(k:Nat) (xs:List Str) (x:Str),strP k (xs++[x])=strP k xs++[⟨x,(((1000001+(k+xs.length):Nat):Rat),0),[]⟩]
 | _,[],_=>rfl
 | k,y::xs,x=>by
  show _::strP (k+1) (xs++[x])=_
  rw [strP_app (k+1) xs x,List.length_cons,show k+1+xs.length=k+(xs.length+1) by omega]
  rfl
def keyS:Key→Str
 | .inr x=>x
 | .inl _=> ""
def daI (L:Str→Option (Rat×Rat))(kv:Key×V):Da:=.t [.v (kV kv.1),.t (spotD (ptQ ((L (keyS kv.1)).getD (0,0))))]
theorem paired_mem {α β:Type}{R:α→β→Prop}:∀{us:List α} {l:List β},Paired R us l→Paired (fun u a=>a∈l∧R u a) us l
 | _,_,.nil=>.nil
 | _,_,.cons h t=>.cons ⟨List.mem_cons_self,h⟩ (Paired.mapP (paired_mem t) fun _ _ z=>⟨List.mem_cons_of_mem _ z.1,z.2⟩)
theorem items_is {H:Hp}{l:Addr}{us:List V}{kvs:List (Key×V)}{L:Str→Option (Rat×Rat)}(hP:PtD K H kvs L)(nd:(kvs.map (·.1)).Nodup)(hk:∀kv∈kvs,∃x:Str,kv.1=.inr x)(hl:SqL K H l us)(p:Paired (fun u (kv:Key×V)=>∃p,u=.ref p∧H p=some (.tup [kV kv.1,kv.2])) us kvs):Is K H (.l (kvs.map (daI L))) (.ref l):=by
 unfold Is
 refine ⟨l,_,rfl,hl,iss_map (fun u kv z=> ?_) (paired_mem p)⟩
 obtain ⟨m,a,rfl,ha⟩:=z
 obtain ⟨x,ex⟩:=hk kv m
 obtain ⟨i,hi,ei⟩:=List.mem_iff_getElem.mp m
 obtain ⟨k,y⟩:=kv
 have ex' :k=.inr x:=ex
 subst ex'
 have vy:valV kvs (.inr x)=some y:=valV_at' nd (t:=i) (by rw [gE hi,ei])
 rcases hP x with ⟨h,_⟩ | ⟨v,r,h1,h2,h3⟩
 ·rw [vy] at h
  cases h
 rw [vy] at h1
 cases h1
 unfold daI
 show Is K H (.t [.v (.str x),.t (spotD (ptQ ((L x).getD (0,0))))]) (.ref a)
 rw [h2]
 unfold Is
 refine ⟨a,_,rfl,SqT.of ha,?_⟩
 unfold Iss
 refine ⟨is_str x,?_⟩
 unfold Iss
 refine ⟨Spot.is (p:=ptQ r) h3,?_⟩
 unfold Iss
 trivial
theorem dep_item (L:Str→Option (Rat×Rat))(kv:Key×V):dep (daI L kv)≤60:=Nat.le_trans (show dep (daI L kv)≤3 by simp [daI,dep,deps]) (by decide)
theorem sc_law:FnScope ["_law_script","_law_pins_here","_law_bars_here","_law_frame_here","_law_strange_here","_law_load_here","_law_handed","_law_k","_law_told"] ["_law_script"] (defScope s_law):=sq
theorem ok_law {f:Addr}{fd:FuncData}{C CN:Addr}(F:Fun K "law" "law" s_law f fd)(m_range:mg "range"=none)(m_len:mg "len"=none)(m_list:mg "list"=none)(m_dict:mg "dict"=none)(m_isinstance:mg "isinstance"=none)(m_tuple:mg "tuple"=none)
  (G_bh:Fn P w K mg base (CXr P w) 35 "_law_pins" ["_law_script"] (spPinsL K)) (G_bl:Fn P w K mg base (CXr P w) 3 "_law_bars" ["_law_script","_law_pins_here"] (spBarsL K)) (G_b0:Fn P w K mg base (CXr P w) 4 "_law_frame" ["_law_pins_here","_law_bars_here"] (spFrameL K C))
  (G_ak:Fn P w K mg base (CXr P w) 3 "_law_strange" ["_law_script","_law_pins_here","_law_bars_here"] (spStrange K)) (G_bm:Fn P w K mg base (CXr P w) 3 "_law_load" ["_law_script","_law_pins_here","_law_strange_here"] (spLoadL K))
  (G_al:Fn P w K mg base (CXr P w) 40 "_law_refused" ["_law_frame_here","_law_load_here"] (spRefused K C)) (G_a0:Fn P w K mg base (CXr P w) 40 "_law_refused_by_any" ["_law_frame_here","_law_load_here"] (spAny K C))
  (MPn:MtdOk P w K mg base (CXr P w) 1 C "pins" ["self"] (spPins K C)) (MPp:MtdOkD P w K mg base (CXr P w) 3 C "put_pin" ["self","name","x","y","hold"] [.none] (spPutPinW P w K mg base C)) (G_bu:Fn P w K mg base (CXr P w) 39 "rest_of" ["F","load"] (spRestX K C CN)):
  FnOk P w K mg base (CXr P w) 42 f fd ["_law_script"] (spLaw K):=by
 refine F.okG sc_law (fun vs H Q E h=> ?_) (fun cdv A outer s H vs Q E hr h=> ?_)
 ·obtain ⟨a,ns,rfl,_⟩:=h
  rfl
 obtain ⟨sA,ns,rfl,hS,hn,hb,q⟩:=h
 refine ⟨_,(pss_cons (ps_set (i:=1) sc_law.nd rfl (Or.inl rfl) (pe_fn G_bh hr.mo (pY P w) (pac (pv 0) pa_nil)))
  (pss_cons (ps_set (i:=2) sc_law.nd rfl (Or.inl rfl) (pe_fn G_bl hr.mo (pY P w) (pac (pv 0) (pac (pv 1) pa_nil))))
  (pss_cons (ps_set (i:=3) sc_law.nd rfl (Or.inl rfl) (pe_fn G_b0 hr.mo (pY P w) (pac (pv 1) (pac (pv 2) pa_nil))))
  (pss_cons (ps_set (i:=4) sc_law.nd rfl (Or.inl rfl) (pe_fn G_ak hr.mo (pY P w) (pac (pv 0) (pac (pv 1) (pac (pv 2) pa_nil)))))
  (pss_cons (ps_set (i:=5) sc_law.nd rfl (Or.inl rfl) (pe_fn G_bm hr.mo (pY P w) (pac (pv 0) (pac (pv 1) (pac (pv 4) pa_nil)))))
  (pss_cons (ps_set (i:=6) sc_law.nd rfl (Or.inl rfl) (pe_callTy call_dictD rfl m_dict b_dict (pac (pv 5) pa_nil)))
  (pss_cons (ps_if (PW.pt (pw_or (pt_cmpR (op_neDa hr.units) (pe_fn G_al hr.mo (pY P w) (pac (pv 3) (pac (pv 6) pa_nil))) (pe_lst (pac (pe_lx (pv 4)) pa_nil)) (nomark _)) (pw_or1 (pt_not (pt_val (pe_fn G_a0 hr.mo (pY P w) (pac (pv 3) (pac (pv 6) pa_nil)))))))) (pss_one (ps_ret pe_bl)) pss_nil)
  (pss_cons (ps_if (pt_cmpR (op_neDa hr.units) (pe_listIs rfl rfl m_list (pv 6)) (pe_listIs rfl rfl m_list (pv 5)) (nomark _)) (pss_one (ps_ret pe_bl)) pss_nil)
  (pss_cons (ps_if (pt_cmpR (op_neDa hr.units) (pe_mtd0 (k:=1) (pv 3) hr.mo (pY P w)) (pe_comp (tn:=["_law_pin"]) (fr:=[]) (caps:=[]) rfl ⟨rfl,by decide+kernel,rfl,by decide+kernel,by decide+kernel,rfl,trivial,trivial⟩ (pi_list (pv 1)) (fun _ _ _ _=>(pg_name (i:=0) (show (["_law_pin"]:List Str).Nodup from by decide+kernel) rfl (Or.inl rfl))) (fun _ _ _ _=>pf_nil) (fun _ _ _ _=>(pe_ix (ix_tupK (K:=K) rfl) (pv 0) pe_int (fun _ _=>rfl)))) (nomark _)) (pss_one (ps_ret pe_bl)) pss_nil)
  (pss_cons (ps_for PassesOwn.never rfl (pi_range1 rfl m_range (pac (pe_callB call_len_seq rfl m_len b_len (pac (pv 4) pa_nil)) pa_nil)) (pg_name (i:=7) sc_law.nd rfl (Or.inl rfl)) (pss_cons (ps_if (pt_cmpR (op_neDa hr.units) (pe_fn G_al hr.mo (pY P w) (pac (pv 3) (pac (pv 6) pa_nil))) (pe_lst (pac (pe_ix ix_list (pv 4) (pv 7) (fun _ _=>rfl)) pa_nil)) (nomark _)) (pss_one (ps_ret pe_bl)) pss_nil)
   (pss_one (ps_expr (pe_mtdD (k:=3) (pv 3) hr.mo (pY P w) (pac (pe_ix ix_list (pv 4) (pv 7) (fun _ _=>rfl)) (pac (pe_tup (pac (pe_op op_add pe_int (pv 7)) (pac pe_int pa_nil))) (pac (pe_tup (pac pe_int (pac pe_int pa_nil))) pa_nil))))))))
  (pss_cons (ps_set (i:=8) sc_law.nd rfl (Or.inl rfl) (pe_fn G_bu hr.mo (pY P w) (pac (pv 3) (pac (pv 6) pa_nil))))
  (pss_one (ps_ret (pe_and (pe_callB call_isiT rfl m_isinstance b_isinstance (pac (pv 8) (pac (pe_ty rfl m_tuple b_tuple) pa_nil))) (pe_one (pe_cmpR op_in_seq (pe_tx (pv 8)) (pe_lst (pac pe_str (pac pe_str pa_nil))) rfl)))))))))))))))),?_⟩
 refine ⟨_,rfl,sA,ns,rfl,hS,fun lP us pins H1 s1 nP eP pp gp lp pn=> ?_⟩
 have lu:us.length=pins.length:=Paired.length pp
 refine ⟨_,rfl,_,rfl,sA,lP,ns,us,pins,rfl,s1.seq hS,eP,lu,gp.np,by omega,fun lB vs bars H2 s2 nB eB pb gb lb=> ?_⟩
 have pp2:Paired (PinR K H2) us pins:=Paired.mapP pp fun _ _ z=>z.same s2
 have eP2:=s2 _ _ eP
 refine ⟨_,rfl,_,rfl,lP,lB,us,vs,pins,bars,rfl,eP2,pp2,eB,pb,gp,gb,by omega,by omega,fun fA H3 s3 R=> ?_⟩
 have s13:=s1.trans (s2.trans s3)
 have pp3:Paired (PinR K H3) us pins:=Paired.mapP pp2 fun _ _ z=>z.same s3
 have pb3:Paired (BarR K H3 pins) vs bars:=Paired.mapP pb fun _ _ z=>z.same s3
 refine ⟨_,rfl,_,rfl,_,rfl,sA,lP,lB,ns,us,vs,pins,bars,rfl,s13.seq hS,s3 _ _ eP2,pp3,lp,(fun p hp=>(pn p hp).1),s3 _ _ eB,pb3,by omega,fun lX xs H4 s4 nX eX lx1 lx2 nx xn=> ?_⟩
 have pp4:Paired (PinR K H4) us pins:=Paired.mapP pp3 fun _ _ z=>z.same s4
 refine ⟨_,rfl,_,rfl,_,rfl,sA,lP,lX,ns,us,pins,xs,rfl,(s13.trans s4).seq hS,s4 _ _ (s3 _ _ eP2),pp4,gp.np,lp,eX,lx1,lx2,nx,xn,fun d kvs L H5 s5 nd ld=> ?_⟩
 refine ⟨_,rfl,d,kvs,rfl,.inl ld.hd,?_⟩
 intro d2 n2;generalize eX:upd _ d2 _=H6;have ⟨s6,e6⟩:=nw n2 eX;clear eX
 have R6:=R.same (s4.trans (s5.trans s6))
 have g:=goodF gp gb (by omega) (by omega)
 have ld6P:=ld.hP.same s6
 obtain ⟨t1,t2,t3,eks,_⟩:=ld.ks
 have stg:∀(k:Nat) (x:Str) (H' :Hp),xs[k]? =some x→FrA K H' C fA (pins++strP 0 (xs.take k)) bars→H' d2=some (.dK kvs)→PtD K H' kvs L→StrangeL K H' C fA d2 (pins++strP 0 (xs.take k)) bars kvs L x:=fun k x H' ex R' h1 h2=>⟨R',good_more g lp lx2 nx xn k,h1,h2,ld.zL,keys_str eks,ld.strange lx2 nx xn ex⟩
 obtain ⟨x0,ex0⟩:∃x,xs[0]? =some x:=⟨_,gE lx1⟩
 have eX6:=s6 _ _ (s5 _ _ eX)
 have S6:=stg 0 x0 H6 ex0 (by simpa [strP] using R6) e6 ld6P
 refine ⟨_,rfl,_,rfl,fA,d2,_,bars,kvs,L,x0,rfl,S6,fun l7 H7 s7 e7=> ?_⟩
 refine ⟨_,rfl,lX,_,_,_,rfl,rfl,SqL.of (s7 _ _ eX6),atI_nat (j:=0) (by rw [List.getElem?_map,ex0];rfl),(by show 1≤sizeLine;decide),?_⟩
 intro l8 n8;generalize eX:upd _ l8 _=H8;have ⟨s8,e8⟩:=nw n8 eX;clear eX
 refine ne_l (is_strs (xs:=[x0]) (SqL.of (s8 _ _ e7))) (is_strs (xs:=[x0]) (SqL.of e8)) (deps_map dep0 _) ⟨_,rfl,?_⟩
 refine ite2 (fun c=>nomatch c) (fun _=> ?_)
 have s68:=s7.trans s8
 refine ⟨_,rfl,_,rfl,fA,d2,_,bars,kvs,L,x0,rfl,S6.same s68,fun H9 s9=>⟨_,rfl,?_⟩⟩
 refine ite2 (fun c=>nomatch c) (fun _=> ?_)
 have s69:=s68.trans s9
 refine ⟨_,rfl,d2,kvs,rfl,s69 _ _ e6,fun lI ui HI sI nI eI pI=> ?_⟩
 have s5I:=s6.trans (s69.trans sI)
 refine ⟨_,rfl,d,kvs,rfl,s5I _ _ ld.hd,fun lJ uj HJ sJ nJ eJ pJ=> ?_⟩
 have s5J:=s5I.trans sJ
 have pI' :=Paired.mapP pI fun (u:V) (kv:Key×V) (z:∃p,u=.ref p∧HI p=some (.tup [kV kv.1,kv.2]))=>(show ∃p,u=.ref p∧HJ p=some (.tup [kV kv.1,kv.2]) from by obtain ⟨p,h1,h2⟩:=z;exact ⟨p,h1,sJ _ _ h2⟩)
 refine ne_l (items_is (ld.hP.same s5J) ld.nd (keys_str eks) (SqL.of (sJ _ _ eI)) pI') (items_is (ld.hP.same s5J) ld.nd (keys_str eks) (SqL.of eJ) pJ) (deps_map (dep_item L) _) ⟨_,rfl,?_⟩
 refine ite2 (fun c=>nomatch c) (fun _=> ?_)
 obtain ⟨dx,pP,pW,pB,kP,kW,kB,F3,W3⟩:=R.ex
 have s3J:Same H3 HJ:=s4.trans (s5.trans s5J)
 have FJ:=F3.same s3J
 have nmb:((pins.map fun p=>(p.nm,ptQ p.sp)).map (·.1))=pins.map (·.nm):=by rw [List.map_map];rfl
 refine ⟨_,rfl,fA,C,dx,_,_,_,rfl,FJ.obj,rfl,MPn,fA,dx,pP,pW,pB,_,_,kP,kW,kB,rfl,FJ,fun lK HK sK nK eK=> ?_⟩
 rw [nmb] at eK
 have s3K:=s3J.trans sK
 have ePK:=s3K _ _ (s3 _ _ eP2)
 refine ⟨_,rfl,lP,rfl,⟨_,SqL.of ePK⟩,fun D1 n1=> ?_⟩
 refine comp_list (cap:=[]) (K:=K) (a:=lP) (xs:=us) (fun i v _=>∃p,pins[i]? =some p∧v=.str p.nm) n1 (by rw [lu];exact Nat.lt_of_le_of_lt (show pins.length≤1000 by omega) (by decide)) (fun H2 s2=>SqL.of (s2 _ _ ePK)) (fun _ _ _ _ _ _ _ h=>h) ?_ ?_
 ·intro j u H6 Rq hu s6 k
  obtain ⟨p,ep',hp'⟩:=paired_get pp3 hu
  obtain ⟨ta,l',sv,us',rfl,h1,_⟩:=hp'.same (s3K.trans s6)
  exact ⟨_,rfl,ta,_,_,_,rfl,rfl,h1,rfl,k _ _ (Same.refl _) ⟨p,ep',rfl⟩⟩
 intro ys HL hy hrel sL hD
 rw [nmsV (nm:=PinD.nm) (by rw [hy,lu]) hrel] at hD
 refine ne_l (is_strs (SqL.of (sL _ _ eK))) (is_strs (SqL.of hD)) (deps_map dep0 _) ⟨_,rfl,?_⟩
 refine ite2 (fun c=>nomatch c) (fun _=> ?_)
 have s3L:=s3K.trans sL
 have FL:=F3.same s3L
 have WL:=W3.same s3L
 have s6L:Same H6 HL:=s69.trans (sI.trans (sJ.trans (sK.trans sL)))
 have d2L:=s6L _ _ e6
 have s35:=s4.trans s5
 have dP:d2≠pP:=fun z=>by rw [z,s35 _ _ F3.pl] at n2;cases n2
 have dW:d2≠pW:=fun z=>by rw [z,s35 _ _ F3.wy] at n2;cases n2
 have eXL:=s6L _ _ eX6
 have tK:∀{H' :Hp},(∀b o,b≠pP→b≠pW→HL b=some o→H' b=some o)→SameT HL H' :=fun {H'} k b xs r=>by
  rcases r with r | ⟨o',r⟩
  ·exact .inl (k _ _ (fun z=>by rw [z,FL.pl] at r;cases r) (fun z=>by rw [z,FL.wy] at r;cases r) r)
  ·exact .inr ⟨o',k _ _ (fun z=>by rw [z,FL.pl] at r;cases r) (fun z=>by rw [z,FL.wy] at r;cases r) r⟩
 have PL:=ld6P.same s6L
 have pK:∀{H' :Hp},(∀b o,b≠pP→b≠pW→HL b=some o→H' b=some o)→PtD K H' kvs L:=fun {H'} k nm=>by
  rcases PL nm with h | ⟨v,r,h1,h2,h3⟩
  ·exact .inl h
  ·exact .inr ⟨v,r,h1,h2,h3.sameT (tK k)⟩
 have lXP:lX≠pP∧lX≠pW:=⟨(fun z=>by rw [z,FL.pl] at eXL;cases eXL),(fun z=>by rw [z,FL.wy] at eXL;cases eXL)⟩
 refine ⟨_,rfl,lX,_,rfl,.inl (SqL.of eXL),((xs.map V.str).length:Int),rfl,by omega,by rw [List.length_map];omega,for_range (lo:=0) (n:=(xs.map V.str).length) (fun i σ H' =>∃(o7:Option V) (kP' kW' :List (Key×V)),σ=[some (.ref sA),some (.ref lP),some (.ref lB),some (.ref fA),some (.ref lX),some (.ref d),some (.ref d2),o7,none]∧(∀b o,b≠pP→b≠pW→HL b=some o→H' b=some o)∧FrR K H' C fA dx pP pW pB ((pins++strP 0 (xs.take i)).map fun p=>(p.nm,ptQ p.sp)) (bars.map fun b=>(b.nm,b.one.nm,b.other.nm)) kP' kW' kB∧WyR K H' ((pins++strP 0 (xs.take i)).map fun p=>(p.nm,p.ws)) kW') ⟨none,kP,kW,rfl,fun _ _ _ _ z=>z,by simpa [strP] using FL,by simpa [strP] using WL⟩ ?_ ?_⟩
 ·rintro i σ H' hi ⟨o7,kP',kW',rfl,k',F',W'⟩
  have ei:(0:Int)+(i:Int)=(i:Int):=Int.zero_add _
  rw [ei]
  rw [List.length_map] at hi
  obtain ⟨x,ex⟩:∃x,xs[i]? =some x:=⟨_,gE hi⟩
  have eX' :=k' _ _ lXP.1 lXP.2 eXL
  have Si:=stg i x H' ex ⟨⟨dx,pP,pW,pB,kP',kW',kB,F',W'⟩⟩ (k' _ _ dP dW d2L) (pK k')
  refine ⟨_,rfl,_,rfl,fA,d2,_,bars,kvs,L,x,rfl,Si,fun l7 H7 s7 e7=> ?_⟩
  refine ⟨_,rfl,_,rfl,lX,_,_,_,rfl,rfl,SqL.of (s7 _ _ eX'),atI_nat (by rw [List.getElem?_map,ex];rfl),(by show 1≤sizeLine;decide),?_⟩
  intro l8 n8;generalize eX:upd _ l8 _=H8;have ⟨s8,e8⟩:=nw n8 eX;clear eX
  refine ne_l (is_strs (xs:=[x]) (SqL.of (s8 _ _ e7))) (is_strs (xs:=[x]) (SqL.of e8)) (deps_map dep0 _) ⟨_,rfl,?_⟩
  refine ite2 (fun c=>nomatch c) (fun _=> ?_)
  have s78:=s7.trans s8
  have F8:=F'.same s78
  refine ⟨_,rfl,fA,C,dx,_,_,_,rfl,F8.obj,rfl,MPp,_,rfl,_,rfl,lX,_,_,_,rfl,rfl,SqL.of (s78 _ _ eX'),atI_nat (by rw [List.getElem?_map,ex];rfl),_,rfl,_,_,rfl,rfl,(by show 2≤sizeLine;decide),?_⟩
  intro p1 m1;generalize eX:upd _ p1 _=Ha;have ⟨w1,v1⟩:=nw m1 eX;clear eX
  refine ⟨(by show 2≤sizeLine;decide),?_⟩
  intro p2 m2;generalize eX:upd _ p2 _=Hb;have ⟨w2,v2⟩:=nw m2 eX;clear eX
  have wb:=s78.trans (w1.trans w2)
  have e1:(1000001:Int)+(i:Int)=((1000001+i:Nat):Int):=by omega
  rw [e1] at v1
  have hn1:NmR K Hb (.ref p1) ((1000001+i:Nat):Rat):=nm_lit _ (w2 _ _ v1)
  have hn2:NmR K Hb (.ref p2) 0:=nm_lit 0 v2
  have tk:=take_snoc ex
  have sp:pins++strP 0 (xs.take (i+1))=(pins++strP 0 (xs.take i))++[⟨x,(((1000001+i:Nat):Rat),0),[]⟩]:=by
   rw [tk,strP_app,List.append_assoc,List.length_take,Nat.min_eq_left (by omega),Nat.zero_add]
  have nmx:x∉(pins++strP 0 (xs.take i)).map (·.nm):=(ld.strange lx2 nx xn ex).elim fun _ h=>h.elim fun _ h=>h.2.1
  refine ⟨fA,dx,pP,pW,pB,_,_,kP',kW',kB,_,x,.ref p1,.ref p2,.non,ptQ (((1000001+i:Nat):Rat),0),[],rfl,F'.same wb,W'.same wb,by rw [List.map_map,List.map_map];rfl,hn1,hn2,?_,fun z hz e=> ?_,?_,.inl ⟨rfl,rfl⟩,fun H9 kP9 kW9 k9 F9 W9=> ?_⟩
  ·rw [List.map_map]
   exact nmx
  ·obtain ⟨p',hp',e'⟩:=List.mem_map.mp hz
   rw [← e'] at e
   exact place_new (fun p hp=>(pn p hp).2) p' hp' (Prod.ext (qr_inj (congrArg Prod.fst e)) (qr_inj (congrArg Prod.snd e)))
  ·have:=(good_more g lp lx2 nx xn i).lp
   rw [List.length_map]
   omega
  ·refine ⟨_,kP9,kW9,rfl,fun b o h1 h2 z=>k9 b o h1 h2 (wb _ _ (k' b o h1 h2 z)),?_,?_⟩
   ·rw [sp,List.map_append]
    exact F9
   ·rw [sp,List.map_append]
    exact W9
 ·rintro σ H' ⟨o7,kP',kW',rfl,k',F',W'⟩
  rw [List.length_map,List.take_length] at F' W'
  have gm:=good_more g lp lx2 nx xn xs.length
  rw [List.take_length] at gm
  obtain ⟨n1,n2',n3,eks',hn'⟩:=ld.ks
  have ki:KeysIn (pins++strP 0 xs) kvs:=keys_in eks' fun z hz=>by
   rw [List.map_append,strP_nm]
   have e:xs=xs.take 1++xs.drop 1:=(List.take_append_drop 1 xs).symm
   have hz' :z∈n1++n2' ++n3∨z∈xs:=by
    rw [e]
    simp only [ordL,List.mem_append] at hz ⊢
    grind
   rcases hz' with h | h
   ·exact List.mem_append_left _ (hn' z h)
   ·exact List.mem_append_right _ h
  refine ⟨_,rfl,_,rfl,fA,d2,_,bars,kvs,L,rfl,⟨⟨dx,pP,pW,pB,kP',kW',kB,F',W'⟩⟩,gm,k' _ _ dP dW d2L,pK k',ld.zL,keys_str eks',fun t x y e n _=> ?_,fun p z ws H9 _ s9 e9 hz=> ?_⟩
  ·obtain ⟨z,hz,ez⟩:=ki _ (List.mem_of_getElem? e)
   exact absurd (Sum.inr.inj ez▸hz) n
  ·refine ⟨_,rfl,p,_,rfl,SqT.of e9,_,rfl,iteT ?_⟩
   refine ⟨_,rfl,p,_,_,_,rfl,rfl,SqT.of e9,atI_nat (j:=0) rfl,(by show 2≤sizeLine;decide),?_⟩
   intro lZ nZ;generalize eX:upd _ lZ _=HZ;have ⟨sZ,eZ⟩:=nw nZ eX;clear eX
   refine ⟨lZ,_,rfl,.inl (SqL.of eZ),rfl,rfl,?_⟩
   have e:inV (.str z) [V.str "rest",.str "moves"]=true:=by
    have:=inV_strs (x:=z) ["rest","moves"]
    rw [show [V.str "rest",.str "moves"]=(["rest","moves"]:List Str).map V.str from rfl,this]
    rcases hz with rfl | rfl <;> simp
   show Q (.bl (inV (.str z) [V.str "rest",.str "moves"])) HZ
   rw [e]
   exact q HZ
end
theorem all_mk {l:PySem.W.OpenLaw}{w:World}{K:Frag}{h:Heap}{mg:Str→Option Value}{fa:Addr}(X:K.In h)(G:h.Ns mainGlobals mg)(hfa:mg "law"=some (.ref fa))
  {nm_c2 qn_c2:Str} {bs_c2 bm_c2:List Value} {hd_c2:Bool} {sn_c2:List Str} {sub_c2:List Value} {ab_c2:Bool} {col_c2:Option Bool} {k0_c2 k1_c2 k2_c2 k3_c2 k5_c2:Option Value}
  (a_a8:nsIn K mainGlobals "difference_of"=some (some (.ref f_a8))) (l_a8:K.lookup f_a8=some ⟨oc_a8,od_a8,.func (fnOf "difference_of" "difference_of" (defArgs s_a8) (defBody s_a8) (defScope s_a8) .none kV_a8 dc_a8 pm_a8 an_a8 cd_a8 ct_a8),sl_a8⟩) (c_a8:codeIn K cd_a8 "difference_of"=true) (k_a8:keepIn K (.ref f_a8)=true) (a_ac:nsIn K mainGlobals "lowest_terms"=some (some (.ref f_ac))) (l_ac:K.lookup f_ac=some ⟨oc_ac,od_ac,.func (fnOf "lowest_terms" "lowest_terms" (defArgs s_ac) (defBody s_ac) (defScope s_ac) .none kV_ac dc_ac pm_ac an_ac cd_ac ct_ac),sl_ac⟩) (c_ac:codeIn K cd_ac "lowest_terms"=true) (k_ac:keepIn K (.ref f_ac)=true) (a_a3:nsIn K mainGlobals "greatest_shared"=some (some (.ref f_a3))) (l_a3:K.lookup f_a3=some ⟨oc_a3,od_a3,.func (fnOf "greatest_shared" "greatest_shared" (defArgs s_a3) (defBody s_a3) (defScope s_a3) .none kV_a3 dc_a3 pm_a3 an_a3 cd_a3 ct_a3),sl_a3⟩) (c_a3:codeIn K cd_a3 "greatest_shared"=true) (k_a3:keepIn K (.ref f_a3)=true) (a_af:nsIn K mainGlobals "arm_between"=some (some (.ref f_af))) (l_af:K.lookup f_af=some ⟨oc_af,od_af,.func (fnOf "arm_between" "arm_between" (defArgs s_af) (defBody s_af) (defScope s_af) .none kV_af dc_af pm_af an_af cd_af ct_af),sl_af⟩) (c_af:codeIn K cd_af "arm_between"=true) (k_af:keepIn K (.ref f_af)=true) (a_a4:nsIn K mainGlobals "pair_difference"=some (some (.ref f_a4))) (l_a4:K.lookup f_a4=some ⟨oc_a4,od_a4,.func (fnOf "pair_difference" "pair_difference" (defArgs s_a4) (defBody s_a4) (defScope s_a4) .none kV_a4 dc_a4 pm_a4 an_a4 cd_a4 ct_a4),sl_a4⟩) (c_a4:codeIn K cd_a4 "pair_difference"=true) (k_a4:keepIn K (.ref f_a4)=true) (a_bi:nsIn K mainGlobals "pair_row"=some (some (.ref f_bi))) (l_bi:K.lookup f_bi=some ⟨oc_bi,od_bi,.func (fnOf "pair_row" "pair_row" (defArgs s_bi) (defBody s_bi) (defScope s_bi) .none kV_bi dc_bi pm_bi an_bi cd_bi ct_bi),sl_bi⟩) (c_bi:codeIn K cd_bi "pair_row"=true) (k_bi:keepIn K (.ref f_bi)=true) (a_bj:nsIn K mainGlobals "load_row"=some (some (.ref f_bj))) (l_bj:K.lookup f_bj=some ⟨oc_bj,od_bj,.func (fnOf "load_row" "load_row" (defArgs s_bj) (defBody s_bj) (defScope s_bj) .none kV_bj dc_bj pm_bj an_bj cd_bj ct_bj),sl_bj⟩) (c_bj:codeIn K cd_bj "load_row"=true) (k_bj:keepIn K (.ref f_bj)=true) (a_bt:nsIn K mainGlobals "bar_row"=some (some (.ref f_bt))) (l_bt:K.lookup f_bt=some ⟨oc_bt,od_bt,.func (fnOf "bar_row" "bar_row" (defArgs s_bt) (defBody s_bt) (defScope s_bt) .none kV_bt dc_bt pm_bt an_bt cd_bt ct_bt),sl_bt⟩) (c_bt:codeIn K cd_bt "bar_row"=true) (k_bt:keepIn K (.ref f_bt)=true) (a_b6:nsIn K mainGlobals "draw_rows"=some (some (.ref f_b6))) (l_b6:K.lookup f_b6=some ⟨oc_b6,od_b6,.func (fnOf "draw_rows" "draw_rows" (defArgs s_b6) (defBody s_b6) (defScope s_b6) .none kV_b6 dc_b6 pm_b6 an_b6 cd_b6 ct_b6),sl_b6⟩) (c_b6:codeIn K cd_b6 "draw_rows"=true) (k_b6:keepIn K (.ref f_b6)=true) (a_a2:nsIn K mainGlobals "pulls_and_pushes"=some (some (.ref f_a2))) (l_a2:K.lookup f_a2=some ⟨oc_a2,od_a2,.func (fnOf "pulls_and_pushes" "pulls_and_pushes" (defArgs s_a2) (defBody s_a2) (defScope s_a2) .none kV_a2 dc_a2 pm_a2 an_a2 cd_a2 ct_a2),sl_a2⟩) (c_a2:codeIn K cd_a2 "pulls_and_pushes"=true) (k_a2:keepIn K (.ref f_a2)=true) (a_ag:nsIn K mainGlobals "motion_from"=some (some (.ref f_ag))) (l_ag:K.lookup f_ag=some ⟨oc_ag,od_ag,.func (fnOf "motion_from" "motion_from" (defArgs s_ag) (defBody s_ag) (defScope s_ag) .none kV_ag dc_ag pm_ag an_ag cd_ag ct_ag),sl_ag⟩) (c_ag:codeIn K cd_ag "motion_from"=true) (k_ag:keepIn K (.ref f_ag)=true) (a_aq:nsIn K mainGlobals "solve_rows"=some (some (.ref f_aq))) (l_aq:K.lookup f_aq=some ⟨oc_aq,od_aq,.func (fnOf "solve_rows" "solve_rows" (defArgs s_aq) (defBody s_aq) (defScope s_aq) .none kV_aq dc_aq pm_aq an_aq cd_aq ct_aq),sl_aq⟩) (c_aq:codeIn K cd_aq "solve_rows"=true) (k_aq:keepIn K (.ref f_aq)=true) (a_bx:nsIn K mainGlobals "turned"=some (some (.ref f_bx))) (l_bx:K.lookup f_bx=some ⟨oc_bx,od_bx,.func (fnOf "turned" "turned" (defArgs s_bx) (defBody s_bx) (defScope s_bx) .none kV_bx dc_bx pm_bx an_bx cd_bx ct_bx),sl_bx⟩) (c_bx:codeIn K cd_bx "turned"=true) (k_bx:keepIn K (.ref f_bx)=true) (a_b5:nsIn K mainGlobals "whole_row"=some (some (.ref f_b5))) (l_b5:K.lookup f_b5=some ⟨oc_b5,od_b5,.func (fnOf "whole_row" "whole_row" (defArgs s_b5) (defBody s_b5) (defScope s_b5) .none kV_b5 dc_b5 pm_b5 an_b5 cd_b5 ct_b5),sl_b5⟩) (c_b5:codeIn K cd_b5 "whole_row"=true) (k_b5:keepIn K (.ref f_b5)=true) (a_ae:nsIn K mainGlobals "solution_of"=some (some (.ref f_ae))) (l_ae:K.lookup f_ae=some ⟨oc_ae,od_ae,.func (fnOf "solution_of" "solution_of" (defArgs s_ae) (defBody s_ae) (defScope s_ae) .none kV_ae dc_ae pm_ae an_ae cd_ae ct_ae),sl_ae⟩) (c_ae:codeIn K cd_ae "solution_of"=true) (k_ae:keepIn K (.ref f_ae)=true) (a_bs:nsIn K mainGlobals "reduced"=some (some (.ref f_bs))) (l_bs:K.lookup f_bs=some ⟨oc_bs,od_bs,.func (fnOf "reduced" "reduced" (defArgs s_bs) (defBody s_bs) (defScope s_bs) .none kV_bs dc_bs pm_bs an_bs cd_bs ct_bs),sl_bs⟩) (c_bs:codeIn K cd_bs "reduced"=true) (k_bs:keepIn K (.ref f_bs)=true) (a_a1:nsIn K mainGlobals "first_not_nought"=some (some (.ref f_a1))) (l_a1:K.lookup f_a1=some ⟨oc_a1,od_a1,.func (fnOf "first_not_nought" "first_not_nought" (defArgs s_a1) (defBody s_a1) (defScope s_a1) .none kV_a1 dc_a1 pm_a1 an_a1 cd_a1 ct_a1),sl_a1⟩) (c_a1:codeIn K cd_a1 "first_not_nought"=true) (k_a1:keepIn K (.ref f_a1)=true) (a_br:nsIn K mainGlobals "cleared"=some (some (.ref f_br))) (l_br:K.lookup f_br=some ⟨oc_br,od_br,.func (fnOf "cleared" "cleared" (defArgs s_br) (defBody s_br) (defScope s_br) .none kV_br dc_br pm_br an_br cd_br ct_br),sl_br⟩) (c_br:codeIn K cd_br "cleared"=true) (k_br:keepIn K (.ref f_br)=true) (a_bq:nsIn K mainGlobals "divided"=some (some (.ref f_bq))) (l_bq:K.lookup f_bq=some ⟨oc_bq,od_bq,.func (fnOf "divided" "divided" (defArgs s_bq) (defBody s_bq) (defScope s_bq) .none kV_bq dc_bq pm_bq an_bq cd_bq ct_bq),sl_bq⟩) (c_bq:codeIn K cd_bq "divided"=true) (k_bq:keepIn K (.ref f_bq)=true) (a_bu:nsIn K mainGlobals "rest_of"=some (some (.ref f_bu))) (l_bu:K.lookup f_bu=some ⟨oc_bu,od_bu,.func (fnOf "rest_of" "rest_of" (defArgs s_bu) (defBody s_bu) (defScope s_bu) .none kV_bu dc_bu pm_bu an_bu cd_bu ct_bu),sl_bu⟩) (c_bu:codeIn K cd_bu "rest_of"=true) (k_bu:keepIn K (.ref f_bu)=true) (a_ad:nsIn K mainGlobals "_law_cell_at"=some (some (.ref f_ad))) (l_ad:K.lookup f_ad=some ⟨oc_ad,od_ad,.func (fnOf "_law_cell_at" "_law_cell_at" (defArgs s_ad) (defBody s_ad) (defScope s_ad) .none kV_ad dc_ad pm_ad an_ad cd_ad ct_ad),sl_ad⟩) (c_ad:codeIn K cd_ad "_law_cell_at"=true) (k_ad:keepIn K (.ref f_ad)=true) (a_ay:nsIn K mainGlobals "_law_field"=some (some (.ref f_ay))) (l_ay:K.lookup f_ay=some ⟨oc_ay,od_ay,.func (fnOf "_law_field" "_law_field" (defArgs s_ay) (defBody s_ay) (defScope s_ay) .none kV_ay dc_ay pm_ay an_ay cd_ay ct_ay),sl_ay⟩) (c_ay:codeIn K cd_ay "_law_field"=true) (k_ay:keepIn K (.ref f_ay)=true) (a_am:nsIn K mainGlobals "_law_lowest"=some (some (.ref f_am))) (l_am:K.lookup f_am=some ⟨oc_am,od_am,.func (fnOf "_law_lowest" "_law_lowest" (defArgs s_am) (defBody s_am) (defScope s_am) .none kV_am dc_am pm_am an_am cd_am ct_am),sl_am⟩) (c_am:codeIn K cd_am "_law_lowest"=true) (k_am:keepIn K (.ref f_am)=true) (a_bp:nsIn K mainGlobals "_law_sum"=some (some (.ref f_bp))) (l_bp:K.lookup f_bp=some ⟨oc_bp,od_bp,.func (fnOf "_law_sum" "_law_sum" (defArgs s_bp) (defBody s_bp) (defScope s_bp) .none kV_bp dc_bp pm_bp an_bp cd_bp ct_bp),sl_bp⟩) (c_bp:codeIn K cd_bp "_law_sum"=true) (k_bp:keepIn K (.ref f_bp)=true) (a_be:nsIn K mainGlobals "_law_name"=some (some (.ref f_be))) (l_be:K.lookup f_be=some ⟨oc_be,od_be,.func (fnOf "_law_name" "_law_name" (defArgs s_be) (defBody s_be) (defScope s_be) .none kV_be dc_be pm_be an_be cd_be ct_be),sl_be⟩) (c_be:codeIn K cd_be "_law_name"=true) (k_be:keepIn K (.ref f_be)=true) (a_bf:nsIn K mainGlobals "_law_spot"=some (some (.ref f_bf))) (l_bf:K.lookup f_bf=some ⟨oc_bf,od_bf,.func (fnOf "_law_spot" "_law_spot" (defArgs s_bf) (defBody s_bf) (defScope s_bf) .none kV_bf dc_bf pm_bf an_bf cd_bf ct_bf),sl_bf⟩) (c_bf:codeIn K cd_bf "_law_spot"=true) (k_bf:keepIn K (.ref f_bf)=true) (a_bg:nsIn K mainGlobals "_law_ways"=some (some (.ref f_bg))) (l_bg:K.lookup f_bg=some ⟨oc_bg,od_bg,.func (fnOf "_law_ways" "_law_ways" (defArgs s_bg) (defBody s_bg) (defScope s_bg) .none kV_bg dc_bg pm_bg an_bg cd_bg ct_bg),sl_bg⟩) (c_bg:codeIn K cd_bg "_law_ways"=true) (k_bg:keepIn K (.ref f_bg)=true) (a_bh:nsIn K mainGlobals "_law_pins"=some (some (.ref f_bh))) (l_bh:K.lookup f_bh=some ⟨oc_bh,od_bh,.func (fnOf "_law_pins" "_law_pins" (defArgs s_bh) (defBody s_bh) (defScope s_bh) .none kV_bh dc_bh pm_bh an_bh cd_bh ct_bh),sl_bh⟩) (c_bh:codeIn K cd_bh "_law_pins"=true) (k_bh:keepIn K (.ref f_bh)=true) (a_bl:nsIn K mainGlobals "_law_bars"=some (some (.ref f_bl))) (l_bl:K.lookup f_bl=some ⟨oc_bl,od_bl,.func (fnOf "_law_bars" "_law_bars" (defArgs s_bl) (defBody s_bl) (defScope s_bl) .none kV_bl dc_bl pm_bl an_bl cd_bl ct_bl),sl_bl⟩) (c_bl:codeIn K cd_bl "_law_bars"=true) (k_bl:keepIn K (.ref f_bl)=true) (a_b0:nsIn K mainGlobals "_law_frame"=some (some (.ref f_b0))) (l_b0:K.lookup f_b0=some ⟨oc_b0,od_b0,.func (fnOf "_law_frame" "_law_frame" (defArgs s_b0) (defBody s_b0) (defScope s_b0) .none kV_b0 dc_b0 pm_b0 an_b0 cd_b0 ct_b0),sl_b0⟩) (c_b0:codeIn K cd_b0 "_law_frame"=true) (k_b0:keepIn K (.ref f_b0)=true) (a_ak:nsIn K mainGlobals "_law_strange"=some (some (.ref f_ak))) (l_ak:K.lookup f_ak=some ⟨oc_ak,od_ak,.func (fnOf "_law_strange" "_law_strange" (defArgs s_ak) (defBody s_ak) (defScope s_ak) .none kV_ak dc_ak pm_ak an_ak cd_ak ct_ak),sl_ak⟩) (c_ak:codeIn K cd_ak "_law_strange"=true) (k_ak:keepIn K (.ref f_ak)=true) (a_bm:nsIn K mainGlobals "_law_load"=some (some (.ref f_bm))) (l_bm:K.lookup f_bm=some ⟨oc_bm,od_bm,.func (fnOf "_law_load" "_law_load" (defArgs s_bm) (defBody s_bm) (defScope s_bm) .none kV_bm dc_bm pm_bm an_bm cd_bm ct_bm),sl_bm⟩) (c_bm:codeIn K cd_bm "_law_load"=true) (k_bm:keepIn K (.ref f_bm)=true) (a_al:nsIn K mainGlobals "_law_refused"=some (some (.ref f_al))) (l_al:K.lookup f_al=some ⟨oc_al,od_al,.func (fnOf "_law_refused" "_law_refused" (defArgs s_al) (defBody s_al) (defScope s_al) .none kV_al dc_al pm_al an_al cd_al ct_al),sl_al⟩) (c_al:codeIn K cd_al "_law_refused"=true) (k_al:keepIn K (.ref f_al)=true) (a_a0:nsIn K mainGlobals "_law_refused_by_any"=some (some (.ref f_a0))) (l_a0:K.lookup f_a0=some ⟨oc_a0,od_a0,.func (fnOf "_law_refused_by_any" "_law_refused_by_any" (defArgs s_a0) (defBody s_a0) (defScope s_a0) .none kV_a0 dc_a0 pm_a0 an_a0 cd_a0 ct_a0),sl_a0⟩) (c_a0:codeIn K cd_a0 "_law_refused_by_any"=true) (k_a0:keepIn K (.ref f_a0)=true) (a_law:nsIn K mainGlobals "law"=some (some (.ref f_law))) (l_law:K.lookup f_law=some ⟨oc_law,od_law,.func (fnOf "law" "law" (defArgs s_law) (defBody s_law) (defScope s_law) .none kV_law dc_law pm_law an_law cd_law ct_law),sl_law⟩) (c_law:codeIn K cd_law "law"=true) (k_law:keepIn K (.ref f_law)=true) (a_ba:nsIn K mainGlobals "MOST_PINS"=some (some (.int 24 tk_ba))) (a_bd:nsIn K mainGlobals "MOST_BARS"=some (some (.int 60 tk_bd))) (a_by:nsIn K mainGlobals "NOUGHT"=some (some (.ref c_by))) (t_by:K.lookup c_by=some ⟨.type "tuple",cd_by,.seq #[.int 0 ck0_by,.int 1 ck1_by] cn_by,cs_by⟩) (a_c7:nsIn K mainGlobals "ONE"=some (some (.ref c_c7))) (t_c7:K.lookup c_c7=some ⟨.type "tuple",cd_c7,.seq #[.int 1 ck0_c7,.int 1 ck1_c7] cn_c7,cs_c7⟩) (a_bv:nsIn K mainGlobals "NO_MOVE"=some (some (.ref c_bv))) (t_bv:K.lookup c_bv=some ⟨.type "tuple",cd_bv,.seq #[.ref c_b8,.ref c_b9] cn_bv,cs_bv⟩) (t_b8:K.lookup c_b8=some ⟨.type "tuple",cd_b8,.seq #[.int 0 ck0_b8,.int 1 ck1_b8] cn_b8,cs_b8⟩) (t_b9:K.lookup c_b9=some ⟨.type "tuple",cd_b9,.seq #[.int 0 ck0_b9,.int 1 ck1_b9] cn_b9,cs_b9⟩) (z_ValueError:nsIn K mainGlobals "ValueError"=some none) (z_abs:nsIn K mainGlobals "abs"=some none) (z_any:nsIn K mainGlobals "any"=some none) (z_dict:nsIn K mainGlobals "dict"=some none) (z_enumerate:nsIn K mainGlobals "enumerate"=some none) (z_isinstance:nsIn K mainGlobals "isinstance"=some none) (z_len:nsIn K mainGlobals "len"=some none) (z_list:nsIn K mainGlobals "list"=some none) (z_min:nsIn K mainGlobals "min"=some none) (z_range:nsIn K mainGlobals "range"=some none) (z_str:nsIn K mainGlobals "str"=some none) (z_tuple:nsIn K mainGlobals "tuple"=some none) (z_zip:nsIn K mainGlobals "zip"=some none) (a_bb:nsIn K mainGlobals "YardError"=some (some (.ref C_bb))) (a_c1:nsIn K mainGlobals "NoWay"=some (some (.ref C_c1))) (a_bk:nsIn K mainGlobals "PinThere"=some (some (.ref C_bk))) (a_bc:nsIn K mainGlobals "SpotTaken"=some (some (.ref C_bc))) (a_c2:nsIn K mainGlobals "NoPin"=some (some (.ref C_c2))) (a_bn:nsIn K mainGlobals "BarThere"=some (some (.ref C_bn))) (a_c3:nsIn K mainGlobals "NoBar"=some (some (.ref C_c3))) (a_bo:nsIn K mainGlobals "NoLength"=some (some (.ref C_bo))) (a_bw:nsIn K mainGlobals "TooMany"=some (some (.ref C_bw))) (a_c0:nsIn K mainGlobals "NoLoad"=some (some (.ref C_c0))) (a_c4:nsIn K mainGlobals "Frame"=some (some (.ref C_c4))) (a_c6:nsIn K mainGlobals "Hold"=some (some (.ref C_c6))) (a_bz:nsIn K mainGlobals "Roller"=some (some (.ref C_bz))) (a_c5:nsIn K mainGlobals "Fixed"=some (some (.ref C_c5))) (pg_c4:PySem.W.plainGet K C_c4 Str.empty=true) (hd_c4:PySem.W.hasDictIn K C_c4=true) (po_c4:PySem.W.plainOver K C_c4=true) (sa_c4:PySem.W.findIn K (.ref C_c4) "__setattr__"=some (some (.builtin "object.__setattr__"))) (mk_c4:PySem.W.makesIn K C_c4=true) (kc_c4:keepIn K (.ref C_c4)=true) (a_ar:PySem.W.findIn K (.ref C_c4) "__init__"=some (some (.ref f_ar))) (i_ar:PySem.W.isFn K (.ref f_ar)=true) (l_ar:K.lookup f_ar=some ⟨oc_ar,od_ar,.func (fnOf "__init__" "Frame.__init__" (defArgs s_ar) (defBody s_ar) (defScope s_ar) .none kV_ar dc_ar pm_ar an_ar cd_ar ct_ar),sl_ar⟩) (c_ar:codeIn K cd_ar "Frame.__init__"=true) (k_ar:keepIn K (.ref f_ar)=true) (a_a9:PySem.W.findIn K (.ref C_c4) "put_pin"=some (some (.ref f_a9))) (i_a9:PySem.W.isFn K (.ref f_a9)=true) (l_a9:K.lookup f_a9=some ⟨oc_a9,od_a9,.func (fnOf "put_pin" "Frame.put_pin" (defArgs s_a9) (defBody s_a9) (defScope s_a9) (.ref td_a9) kV_a9 dc_a9 pm_a9 an_a9 cd_a9 ct_a9),sl_a9⟩) (t_a9:K.lookup td_a9=some ⟨tc_a9,tdd_a9,.seq #[.none] tn_a9,tsl_a9⟩) (c_a9:codeIn K cd_a9 "Frame.put_pin"=true) (k_a9:keepIn K (.ref f_a9)=true) (a_aa:PySem.W.findIn K (.ref C_c4) "put_bar"=some (some (.ref f_aa))) (i_aa:PySem.W.isFn K (.ref f_aa)=true) (l_aa:K.lookup f_aa=some ⟨oc_aa,od_aa,.func (fnOf "put_bar" "Frame.put_bar" (defArgs s_aa) (defBody s_aa) (defScope s_aa) .none kV_aa dc_aa pm_aa an_aa cd_aa ct_aa),sl_aa⟩) (c_aa:codeIn K cd_aa "Frame.put_bar"=true) (k_aa:keepIn K (.ref f_aa)=true) (a_a6:PySem.W.findIn K (.ref C_c4) "check_bar"=some (some (.ref f_a6))) (i_a6:PySem.W.isFn K (.ref f_a6)=true) (l_a6:K.lookup f_a6=some ⟨oc_a6,od_a6,.func (fnOf "check_bar" "Frame.check_bar" (defArgs s_a6) (defBody s_a6) (defScope s_a6) .none kV_a6 dc_a6 pm_a6 an_a6 cd_a6 ct_a6),sl_a6⟩) (c_a6:codeIn K cd_a6 "Frame.check_bar"=true) (k_a6:keepIn K (.ref f_a6)=true) (a_a5:PySem.W.findIn K (.ref C_c4) "check_pin"=some (some (.ref f_a5))) (i_a5:PySem.W.isFn K (.ref f_a5)=true) (l_a5:K.lookup f_a5=some ⟨oc_a5,od_a5,.func (fnOf "check_pin" "Frame.check_pin" (defArgs s_a5) (defBody s_a5) (defScope s_a5) .none kV_a5 dc_a5 pm_a5 an_a5 cd_a5 ct_a5),sl_a5⟩) (c_a5:codeIn K cd_a5 "Frame.check_pin"=true) (k_a5:keepIn K (.ref f_a5)=true) (a_as:PySem.W.findIn K (.ref C_c4) "pins"=some (some (.ref f_as))) (i_as:PySem.W.isFn K (.ref f_as)=true) (l_as:K.lookup f_as=some ⟨oc_as,od_as,.func (fnOf "pins" "Frame.pins" (defArgs s_as) (defBody s_as) (defScope s_as) .none kV_as dc_as pm_as an_as cd_as ct_as),sl_as⟩) (c_as:codeIn K cd_as "Frame.pins"=true) (k_as:keepIn K (.ref f_as)=true) (a_at:PySem.W.findIn K (.ref C_c4) "bars"=some (some (.ref f_at))) (i_at:PySem.W.isFn K (.ref f_at)=true) (l_at:K.lookup f_at=some ⟨oc_at,od_at,.func (fnOf "bars" "Frame.bars" (defArgs s_at) (defBody s_at) (defScope s_at) .none kV_at dc_at pm_at an_at cd_at ct_at),sl_at⟩) (c_at:codeIn K cd_at "Frame.bars"=true) (k_at:keepIn K (.ref f_at)=true) (a_ah:PySem.W.findIn K (.ref C_c4) "place"=some (some (.ref f_ah))) (i_ah:PySem.W.isFn K (.ref f_ah)=true) (l_ah:K.lookup f_ah=some ⟨oc_ah,od_ah,.func (fnOf "place" "Frame.place" (defArgs s_ah) (defBody s_ah) (defScope s_ah) .none kV_ah dc_ah pm_ah an_ah cd_ah ct_ah),sl_ah⟩) (c_ah:codeIn K cd_ah "Frame.place"=true) (k_ah:keepIn K (.ref f_ah)=true) (a_au:PySem.W.findIn K (.ref C_c4) "ways"=some (some (.ref f_au))) (i_au:PySem.W.isFn K (.ref f_au)=true) (l_au:K.lookup f_au=some ⟨oc_au,od_au,.func (fnOf "ways" "Frame.ways" (defArgs s_au) (defBody s_au) (defScope s_au) .none kV_au dc_au pm_au an_au cd_au ct_au),sl_au⟩) (c_au:codeIn K cd_au "Frame.ways"=true) (k_au:keepIn K (.ref f_au)=true) (a_av:PySem.W.findIn K (.ref C_c4) "ends"=some (some (.ref f_av))) (i_av:PySem.W.isFn K (.ref f_av)=true) (l_av:K.lookup f_av=some ⟨oc_av,od_av,.func (fnOf "ends" "Frame.ends" (defArgs s_av) (defBody s_av) (defScope s_av) .none kV_av dc_av pm_av an_av cd_av ct_av),sl_av⟩) (c_av:codeIn K cd_av "Frame.ends"=true) (k_av:keepIn K (.ref f_av)=true) (pg_c6:PySem.W.plainGet K C_c6 Str.empty=true) (hd_c6:PySem.W.hasDictIn K C_c6=true) (po_c6:PySem.W.plainOver K C_c6=true) (sa_c6:PySem.W.findIn K (.ref C_c6) "__setattr__"=some (some (.builtin "object.__setattr__"))) (mk_c6:PySem.W.makesIn K C_c6=true) (kc_c6:keepIn K (.ref C_c6)=true) (oi_c6:PySem.W.findIn K (.ref C_c6) "__init__"=some (some (.builtin "object.__init__"))) (a_b7:PySem.W.findIn K (.ref C_c6) "ways"=some (some (.ref f_b7))) (i_b7:PySem.W.isFn K (.ref f_b7)=true) (l_b7:K.lookup f_b7=some ⟨oc_b7,od_b7,.func (fnOf "ways" "Hold.ways" (defArgs s_b7) (defBody s_b7) (defScope s_b7) .none kV_b7 dc_b7 pm_b7 an_b7 cd_b7 ct_b7),sl_b7⟩) (c_b7:codeIn K cd_b7 "Hold.ways"=true) (k_b7:keepIn K (.ref f_b7)=true) (pg_bz:PySem.W.plainGet K C_bz Str.empty=true) (hd_bz:PySem.W.hasDictIn K C_bz=true) (po_bz:PySem.W.plainOver K C_bz=true) (sa_bz:PySem.W.findIn K (.ref C_bz) "__setattr__"=some (some (.builtin "object.__setattr__"))) (mk_bz:PySem.W.makesIn K C_bz=true) (kc_bz:keepIn K (.ref C_bz)=true) (a_ai:PySem.W.findIn K (.ref C_bz) "__init__"=some (some (.ref f_ai))) (i_ai:PySem.W.isFn K (.ref f_ai)=true) (l_ai:K.lookup f_ai=some ⟨oc_ai,od_ai,.func (fnOf "__init__" "Roller.__init__" (defArgs s_ai) (defBody s_ai) (defScope s_ai) .none kV_ai dc_ai pm_ai an_ai cd_ai ct_ai),sl_ai⟩) (c_ai:codeIn K cd_ai "Roller.__init__"=true) (k_ai:keepIn K (.ref f_ai)=true) (a_aj:PySem.W.findIn K (.ref C_bz) "ways"=some (some (.ref f_aj))) (i_aj:PySem.W.isFn K (.ref f_aj)=true) (l_aj:K.lookup f_aj=some ⟨oc_aj,od_aj,.func (fnOf "ways" "Roller.ways" (defArgs s_aj) (defBody s_aj) (defScope s_aj) .none kV_aj dc_aj pm_aj an_aj cd_aj ct_aj),sl_aj⟩) (c_aj:codeIn K cd_aj "Roller.ways"=true) (k_aj:keepIn K (.ref f_aj)=true) (pg_c5:PySem.W.plainGet K C_c5 Str.empty=true) (hd_c5:PySem.W.hasDictIn K C_c5=true) (po_c5:PySem.W.plainOver K C_c5=true) (sa_c5:PySem.W.findIn K (.ref C_c5) "__setattr__"=some (some (.builtin "object.__setattr__"))) (mk_c5:PySem.W.makesIn K C_c5=true) (kc_c5:keepIn K (.ref C_c5)=true) (oi_c5:PySem.W.findIn K (.ref C_c5) "__init__"=some (some (.builtin "object.__init__"))) (a_aw:PySem.W.findIn K (.ref C_c5) "ways"=some (some (.ref f_aw))) (i_aw:PySem.W.isFn K (.ref f_aw)=true) (l_aw:K.lookup f_aw=some ⟨oc_aw,od_aw,.func (fnOf "ways" "Fixed.ways" (defArgs s_aw) (defBody s_aw) (defScope s_aw) .none kV_aw dc_aw pm_aw an_aw cd_aw ct_aw),sl_aw⟩) (c_aw:codeIn K cd_aw "Fixed.ways"=true) (k_aw:keepIn K (.ref f_aw)=true) (o_c2:K.lookup C_c2=some (excClassObj nm_c2 qn_c2 C_c2 N_c2 bs_c2 bm_c2 hd_c2 sn_c2 sub_c2 ab_c2 col_c2 dd_c2 k0_c2 k1_c2 k2_c2 k3_c2 k5_c2 "ValueError.__new__")) (tl_c2:PySem.W.tailIn K bmV bm_c2=true) (kp_c2:keepIn K (.ref C_c2)=true) (ga_c2:PySem.W.findIn K (.ref C_c2) "__getattribute__"=some (some (.builtin "BaseException.__getattribute__"))) (gt_c2:PySem.W.findIn K (.ref C_c2) "__getattr__"=some none) (cl_c2:PySem.W.findIn K (.ref C_c2) "__class__"=some (some (.builtin "object.__class__"))) (mo_c2:PySem.W.mroIn K C_c2 (.type "object")=some true) (mb_c2:PySem.W.mroIn K C_c2 (.type "BaseException")=some true) (mv_c2:PySem.W.mroIn K C_c2 (.type "ValueError")=some true) (is_c2:(PySem.W.clsIn K C_c2).isSome=true) (sa_c2:PySem.W.findIn K (.ref C_c2) "__setattr__"=some (some (.builtin "object.__setattr__"))) (hx_c2:PySem.W.hasDictIn K C_c2=true) (ov_c2:(PySem.W.clsIn K C_c2).any (fun cd=>TyExc.exOnly cd.mro)=true) (nf_NoPin_pin:PySem.W.findIn K (.ref C_c2) "pin"=some none) (a_ax:PySem.W.findIn K (.ref C_c2) "__init__"=some (some (.ref f_ax))) (i_ax:PySem.W.isFn K (.ref f_ax)=true) (l_ax:K.lookup f_ax=some ⟨oc_ax,od_ax,.func (fnOf "__init__" "NoPin.__init__" (defArgs s_ax) (defBody s_ax) (defScope s_ax) .none kV_ax dc_ax pm_ax an_ax cd_ax ct_ax),sl_ax⟩) (c_ax:codeIn K cd_ax "NoPin.__init__"=true) (k_ax:keepIn K (.ref f_ax)=true) (n_places:PySem.W.findIn K (.ref C_c4) "pin_places"=some none) (n_ways:PySem.W.findIn K (.ref C_c4) "pin_ways"=some none) (n_ends:PySem.W.findIn K (.ref C_c4) "bar_ends"=some none) (n_way:PySem.W.findIn K (.ref C_bz) "way"=some none) (ht:l.prog.given.tree=none) (y_ga:PySem.W.specialIn K (.ref C_bb) "__getattribute__"=some (some (.builtin "type.__getattribute__"))) (y_rd:PySem.W.readsIn K C_bb (.type "type")=true) (y_fi:PySem.W.findCls K (.ref C_bb) (.type "type") "__init__"=some (.val (.builtin "ValueError.__init__"))) (em_nn:PySem.W.exmOne K (.ref C_c2) (.ref C_c2)=some true) (em_ny:PySem.W.exmOne K (.ref C_c2) (.ref C_bb)=some true) (ki_nb:PySem.W.kitOne K (.ref C_c2) (.ref C_c3)=some false) (ki_nt:PySem.W.kitOne K (.ref C_c2) (.ref C_bw)=some false) (ki_no:PySem.W.kitOne K (.ref C_c2) (.ref C_c0)=some false) (ki_nv:PySem.W.kitOne K (.ref C_c2) (.type "ValueError")=some true):
  ∃fd:FuncData,(∀(s:Shared) (v:Value),BindsTo s fd ⟨[v],[]⟩ [("_law_script",v)])∧∀base:Heap,K.In base→base.Ns mainGlobals mg→FnOk l.prog w K mg base (CXr l.prog w) 42 fa fd ["_law_script"] (spLaw K):=by
 have e:=hfa.symm.trans (mg_of X G a_law)
 cases e
 have D_a8:Def K mg "difference_of" s_a8 ["one","other"]:=dof X G l_a8 c_a8 k_a8 a_a8
 have D_ac:Def K mg "lowest_terms" s_ac ["top","bottom"]:=dof X G l_ac c_ac k_ac a_ac
 have D_a3:Def K mg "greatest_shared" s_a3 ["one","other"]:=dof X G l_a3 c_a3 k_a3 a_a3
 have D_af:Def K mg "arm_between" s_af ["F","one","other"]:=dof X G l_af c_af k_af a_af
 have D_a4:Def K mg "pair_difference" s_a4 ["one","other"]:=dof X G l_a4 c_a4 k_a4 a_a4
 have D_bi:Def K mg "pair_row" s_bi ["F","draws"]:=dof X G l_bi c_bi k_bi a_bi
 have D_bj:Def K mg "load_row" s_bj ["F","load"]:=dof X G l_bj c_bj k_bj a_bj
 have D_bt:Def K mg "bar_row" s_bt ["F","one","other"]:=dof X G l_bt c_bt k_bt a_bt
 have D_b6:Def K mg "draw_rows" s_b6 ["F"]:=dof X G l_b6 c_b6 k_b6 a_b6
 have D_a2:Def K mg "pulls_and_pushes" s_a2 ["F","numbers"]:=dof X G l_a2 c_a2 k_a2 a_a2
 have D_ag:Def K mg "motion_from" s_ag ["F","numbers"]:=dof X G l_ag c_ag k_ag a_ag
 have D_aq:Def K mg "solve_rows" s_aq ["rows","due","many"]:=dof X G l_aq c_aq k_aq a_aq
 have D_bx:Def K mg "turned" s_bx ["rows","many"]:=dof X G l_bx c_bx k_bx a_bx
 have D_b5:Def K mg "whole_row" s_b5 ["row"]:=dof X G l_b5 c_b5 k_b5 a_b5
 have D_ae:Def K mg "solution_of" s_ae ["lines","many"]:=dof X G l_ae c_ae k_ae a_ae
 have D_bs:Def K mg "reduced" s_bs ["lines","many"]:=dof X G l_bs c_bs k_bs a_bs
 have D_a1:Def K mg "first_not_nought" s_a1 ["lines","column"]:=dof X G l_a1 c_a1 k_a1 a_a1
 have D_br:Def K mg "cleared" s_br ["line","lead","column"]:=dof X G l_br c_br k_br a_br
 have D_bq:Def K mg "divided" s_bq ["line"]:=dof X G l_bq c_bq k_bq a_bq
 have D_bu:Def K mg "rest_of" s_bu ["F","load"]:=dof X G l_bu c_bu k_bu a_bu
 have D_ad:Def K mg "_law_cell_at" s_ad ["_law_script","_law_k"]:=dof X G l_ad c_ad k_ad a_ad
 have D_ay:Def K mg "_law_field" s_ay ["_law_cell","_law_prime","_law_many"]:=dof X G l_ay c_ay k_ay a_ay
 have D_am:Def K mg "_law_lowest" s_am ["_law_top","_law_bottom"]:=dof X G l_am c_am k_am a_am
 have D_bp:Def K mg "_law_sum" s_bp ["_law_one","_law_other"]:=dof X G l_bp c_bp k_bp a_bp
 have D_be:Def K mg "_law_name" s_be ["_law_cell","_law_k"]:=dof X G l_be c_be k_be a_be
 have D_bf:Def K mg "_law_spot" s_bf ["_law_cell","_law_kind"]:=dof X G l_bf c_bf k_bf a_bf
 have D_bg:Def K mg "_law_ways" s_bg ["_law_cell"]:=dof X G l_bg c_bg k_bg a_bg
 have D_bh:Def K mg "_law_pins" s_bh ["_law_script"]:=dof X G l_bh c_bh k_bh a_bh
 have D_bl:Def K mg "_law_bars" s_bl ["_law_script","_law_pins_here"]:=dof X G l_bl c_bl k_bl a_bl
 have D_b0:Def K mg "_law_frame" s_b0 ["_law_pins_here","_law_bars_here"]:=dof X G l_b0 c_b0 k_b0 a_b0
 have D_ak:Def K mg "_law_strange" s_ak ["_law_script","_law_pins_here","_law_bars_here"]:=dof X G l_ak c_ak k_ak a_ak
 have D_bm:Def K mg "_law_load" s_bm ["_law_script","_law_pins_here","_law_strange_here"]:=dof X G l_bm c_bm k_bm a_bm
 have D_al:Def K mg "_law_refused" s_al ["_law_frame_here","_law_load_here"]:=dof X G l_al c_al k_al a_al
 have D_a0:Def K mg "_law_refused_by_any" s_a0 ["_law_frame_here","_law_load_here"]:=dof X G l_a0 c_a0 k_a0 a_a0
 have cls_c4:Cls K C_c4:=⟨pg_c4,hd_c4,po_c4,sa_c4⟩
 have M_c4:Mk K C_c4 f_ar:=⟨mk_c4,a_ar,i_ar,kc_c4⟩
 have F_ar:=fun_mk (st:=s_ar) l_ar c_ar k_ar
 have b_ar:=F_ar.bnd (ps:=["self"])
 have m_ar:Meth K C_c4 "__init__" f_ar:=⟨a_ar,i_ar,k_ar⟩
 have F_a9:=fun_mkD (st:=s_a9) l_a9 c_a9 k_a9
 have b_a9:Binds K (fnOf "put_pin" "Frame.put_pin" (defArgs s_a9) (defBody s_a9) (defScope s_a9) (.ref td_a9) kV_a9 dc_a9 pm_a9 an_a9 cd_a9 ct_a9) ["self","name","x","y","hold"] []:=fun s us X hl=>match us,hl with | [_,_,_,_,_],_=>BindsTo.of_defaults rfl (X _ _ t_a9) rfl rfl rfl
 have bd_a9:Binds K (fnOf "put_pin" "Frame.put_pin" (defArgs s_a9) (defBody s_a9) (defScope s_a9) (.ref td_a9) kV_a9 dc_a9 pm_a9 an_a9 cd_a9 ct_a9) ["self","name","x","y","hold"] [.none]:=fun s us X hl=>match us,(show us.length=4 by simpa using hl) with | [_,_,_,_],_=>BindsTo.of_defaults rfl (X _ _ t_a9) rfl rfl rfl
 have m_a9:Meth K C_c4 "put_pin" f_a9:=⟨a_a9,i_a9,k_a9⟩
 have F_aa:=fun_mk (st:=s_aa) l_aa c_aa k_aa
 have b_aa:=F_aa.bnd (ps:=["self","name","one","other"])
 have m_aa:Meth K C_c4 "put_bar" f_aa:=⟨a_aa,i_aa,k_aa⟩
 have F_a6:=fun_mk (st:=s_a6) l_a6 c_a6 k_a6
 have b_a6:=F_a6.bnd (ps:=["self","name","one","other"])
 have m_a6:Meth K C_c4 "check_bar" f_a6:=⟨a_a6,i_a6,k_a6⟩
 have F_a5:=fun_mk (st:=s_a5) l_a5 c_a5 k_a5
 have b_a5:=F_a5.bnd (ps:=["self","pin"])
 have m_a5:Meth K C_c4 "check_pin" f_a5:=⟨a_a5,i_a5,k_a5⟩
 have F_as:=fun_mk (st:=s_as) l_as c_as k_as
 have b_as:=F_as.bnd (ps:=["self"])
 have m_as:Meth K C_c4 "pins" f_as:=⟨a_as,i_as,k_as⟩
 have F_at:=fun_mk (st:=s_at) l_at c_at k_at
 have b_at:=F_at.bnd (ps:=["self"])
 have m_at:Meth K C_c4 "bars" f_at:=⟨a_at,i_at,k_at⟩
 have F_ah:=fun_mk (st:=s_ah) l_ah c_ah k_ah
 have b_ah:=F_ah.bnd (ps:=["self","pin"])
 have m_ah:Meth K C_c4 "place" f_ah:=⟨a_ah,i_ah,k_ah⟩
 have F_au:=fun_mk (st:=s_au) l_au c_au k_au
 have b_au:=F_au.bnd (ps:=["self","pin"])
 have m_au:Meth K C_c4 "ways" f_au:=⟨a_au,i_au,k_au⟩
 have F_av:=fun_mk (st:=s_av) l_av c_av k_av
 have b_av:=F_av.bnd (ps:=["self","bar"])
 have m_av:Meth K C_c4 "ends" f_av:=⟨a_av,i_av,k_av⟩
 have cls_c6:Cls K C_c6:=⟨pg_c6,hd_c6,po_c6,sa_c6⟩
 have M_c6:Mk0 K C_c6:=⟨mk_c6,oi_c6,kc_c6⟩
 have F_b7:=fun_mk (st:=s_b7) l_b7 c_b7 k_b7
 have b_b7:=F_b7.bnd (ps:=["self"])
 have m_b7:Meth K C_c6 "ways" f_b7:=⟨a_b7,i_b7,k_b7⟩
 have cls_bz:Cls K C_bz:=⟨pg_bz,hd_bz,po_bz,sa_bz⟩
 have M_bz:Mk K C_bz f_ai:=⟨mk_bz,a_ai,i_ai,kc_bz⟩
 have F_ai:=fun_mk (st:=s_ai) l_ai c_ai k_ai
 have b_ai:=F_ai.bnd (ps:=["self","x","y"])
 have m_ai:Meth K C_bz "__init__" f_ai:=⟨a_ai,i_ai,k_ai⟩
 have F_aj:=fun_mk (st:=s_aj) l_aj c_aj k_aj
 have b_aj:=F_aj.bnd (ps:=["self"])
 have m_aj:Meth K C_bz "ways" f_aj:=⟨a_aj,i_aj,k_aj⟩
 have cls_c5:Cls K C_c5:=⟨pg_c5,hd_c5,po_c5,sa_c5⟩
 have M_c5:Mk0 K C_c5:=⟨mk_c5,oi_c5,kc_c5⟩
 have F_aw:=fun_mk (st:=s_aw) l_aw c_aw k_aw
 have b_aw:=F_aw.bnd (ps:=["self"])
 have m_aw:Meth K C_c5 "ways" f_aw:=⟨a_aw,i_aw,k_aw⟩
 have F_ax:=fun_mk (st:=s_ax) l_ax c_ax k_ax
 have b_ax:=F_ax.bnd (ps:=["self","pin"])
 have ek_c2:TyExc.ExcK K C_c2:=⟨ga_c2,gt_c2,cl_c2,mo_c2,mb_c2,is_c2⟩
 have xf_NoPin_pin:TyExc.ExcF K C_c2 "pin":=⟨ek_c2,sa_c2,hx_c2,ov_c2,nf_NoPin_pin⟩
 have X_c2:ExcC K C_c2 f_ax:=⟨⟨_,_,_,_,_,_,_,_,_,_,_,_,_,_,_,_,o_c2,tl_c2⟩,a_ax,i_ax,kp_c2⟩
 have m_ba:=mg_of X G a_ba
 have m_bd:=mg_of X G a_bd
 have m_by:mg "NOUGHT"=some (.ref c_by):=mg_of X G a_by
 have m_c7:mg "ONE"=some (.ref c_c7):=mg_of X G a_c7
 have m_bv:mg "NO_MOVE"=some (.ref c_bv):=mg_of X G a_bv
 have m_bb:mg "YardError"=some (.ref C_bb):=mg_of X G a_bb
 have m_c1:mg "NoWay"=some (.ref C_c1):=mg_of X G a_c1
 have m_bk:mg "PinThere"=some (.ref C_bk):=mg_of X G a_bk
 have m_bc:mg "SpotTaken"=some (.ref C_bc):=mg_of X G a_bc
 have m_c2:mg "NoPin"=some (.ref C_c2):=mg_of X G a_c2
 have m_bn:mg "BarThere"=some (.ref C_bn):=mg_of X G a_bn
 have m_c3:mg "NoBar"=some (.ref C_c3):=mg_of X G a_c3
 have m_bo:mg "NoLength"=some (.ref C_bo):=mg_of X G a_bo
 have m_bw:mg "TooMany"=some (.ref C_bw):=mg_of X G a_bw
 have m_c0:mg "NoLoad"=some (.ref C_c0):=mg_of X G a_c0
 have m_c4:mg "Frame"=some (.ref C_c4):=mg_of X G a_c4
 have m_c6:mg "Hold"=some (.ref C_c6):=mg_of X G a_c6
 have m_bz:mg "Roller"=some (.ref C_bz):=mg_of X G a_bz
 have m_c5:mg "Fixed"=some (.ref C_c5):=mg_of X G a_c5
 have m_ValueError:mg "ValueError"=none:=mg_none_of X G z_ValueError
 have m_abs:mg "abs"=none:=mg_none_of X G z_abs
 have m_any:mg "any"=none:=mg_none_of X G z_any
 have m_dict:mg "dict"=none:=mg_none_of X G z_dict
 have m_enumerate:mg "enumerate"=none:=mg_none_of X G z_enumerate
 have m_isinstance:mg "isinstance"=none:=mg_none_of X G z_isinstance
 have m_len:mg "len"=none:=mg_none_of X G z_len
 have m_list:mg "list"=none:=mg_none_of X G z_list
 have m_min:mg "min"=none:=mg_none_of X G z_min
 have m_range:mg "range"=none:=mg_none_of X G z_range
 have m_str:mg "str"=none:=mg_none_of X G z_str
 have m_tuple:mg "tuple"=none:=mg_none_of X G z_tuple
 have m_zip:mg "zip"=none:=mg_none_of X G z_zip
 have F:=fun_mk (st:=s_law) l_law c_law k_law
 refine ⟨fnOf "law" "law" (defArgs s_law) (defBody s_law) (defScope s_law) .none kV_law dc_law pm_law an_law cd_law ct_law,fun s v=>.of_eq rfl,fun base _ _=> ?_⟩
 have hM:Mute (CXr l.prog w):=CXr.mute
 have hN:∀H:Hp,SqT K H c_by [.int 0,.int 1]:=fun H=>.inr ⟨_,_,_,t_by,rfl,rfl,(by show 2≤sizeLine;decide),.cons ⟨_,rfl⟩ (.cons ⟨_,rfl⟩ .nil)⟩
 have hO:∀H:Hp,SqT K H c_c7 [.int 1,.int 1]:=fun H=>.inr ⟨_,_,_,t_c7,rfl,rfl,(by show 2≤sizeLine;decide),.cons ⟨_,rfl⟩ (.cons ⟨_,rfl⟩ .nil)⟩
 have nm:∀{c:Addr} {o:Option Addr} {k0 k1:Tok} {n:Nat} {sl:Array (Option Value)},K.lookup c=some ⟨.type "tuple",o,.seq #[.int 0 k0,.int 1 k1] n,sl⟩→∀H:Hp,NmR K H (.ref c) 0:=fun t H=>⟨_,rfl,by rw [qr_nought];exact .inr ⟨_,_,_,t,rfl,rfl,(by show 2≤sizeLine;decide),.cons ⟨_,rfl⟩ (.cons ⟨_,rfl⟩ .nil)⟩⟩
 have hMo:∀H:Hp,PtR K H (.ref c_bv) (0,0):=fun H=>⟨_,.ref c_b8,.ref c_b9,rfl,.inr ⟨_,_,_,t_bv,rfl,rfl,(by show 2≤sizeLine;decide),.cons rfl (.cons rfl .nil)⟩,nm t_b8 H,nm t_b9 H⟩
 have hY:YardI K C_bb:=⟨y_ga,y_rd,y_fi⟩
 have XN:=ok_ax (P:=l.prog) (w:=w) (mg:=mg) (base:=base) F_ax hY m_bb xf_NoPin_pin mv_c2
 have fc:FrC K C_c4:=⟨cls_c4,n_places,n_ways,n_ends⟩
 have G1:=ok_a3 (P:=l.prog) (w:=w) (base:=base) (CX:=CXr l.prog w) D_a3 m_abs
 have G2:=ok_ac ht D_ac G1
 have GW:=ok_b5 D_b5 G1
 have GDv:=ok_bq ht D_bq G1
 have GCl:=ok_br ht D_br m_zip G1 GDv
 have GF:=ok_a1 (P:=l.prog) (w:=w) (base:=base) D_a1 m_enumerate
 have GR:=ok_bs D_bs m_range m_list GF GCl
 have GS:=ok_ae hN m_by D_ae m_any GR G2
 have GSol:=ok_aq D_aq m_zip m_len GW GS (ok_bx D_bx m_range) G2
 have GD:=fn_sub (ok_a8 hM D_a8 G2)
 have GPD:=ok_a4 hM D_a4 GD
 have GI:=ok_ar (P:=l.prog) (w:=w) (mg:=mg) (base:=base) F_ar fc
 have MBs:MtdOk l.prog w K mg base (CXr l.prog w) 1 C_c4 "bars" ["self"] (spBars K C_c4):=⟨_,_,cls_c4,m_at,ok_at F_at fc m_list,b_at⟩
 have MPn:MtdOk l.prog w K mg base (CXr l.prog w) 1 C_c4 "pins" ["self"] (spPins K C_c4):=⟨_,_,cls_c4,m_as,ok_as F_as fc m_list,b_as⟩
 have MCp:MtdOk l.prog w K mg base (CXr l.prog w) 1 C_c4 "check_pin" ["self","pin"] (spCheckPin K C_c4):=⟨_,_,cls_c4,m_a5,ok_a5 F_a5 fc,b_a5⟩
 have MCb:MtdOk l.prog w K mg base (CXr l.prog w) 2 C_c4 "check_bar" ["self","name","one","other"] (spCheckBar K C_c4):=⟨_,_,cls_c4,m_a6,ok_a6 F_a6 fc m_bd m_len MCp,b_a6⟩
 have MPb:MtdOk l.prog w K mg base (CXr l.prog w) 3 C_c4 "put_bar" ["self","name","one","other"] (spPutBar K C_c4):=⟨_,_,cls_c4,m_aa,ok_aa F_aa fc MCb,b_aa⟩
 have okP:=ok_a9 (P:=l.prog) (w:=w) (mg:=mg) (base:=base) F_a9 fc m_ba m_len m_list
 have MPp:MtdOk l.prog w K mg base (CXr l.prog w) 3 C_c4 "put_pin" ["self","name","x","y","hold"] (spPutPinW l.prog w K mg base C_c4):=⟨_,_,cls_c4,m_a9,okP,b_a9⟩
 have MPd:MtdOkD l.prog w K mg base (CXr l.prog w) 3 C_c4 "put_pin" ["self","name","x","y","hold"] [.none] (spPutPinW l.prog w K mg base C_c4):=⟨_,_,cls_c4,m_a9,okP,bd_a9⟩
 have MPl:MtdOk l.prog w K mg base (CXr l.prog w) 2 C_c4 "place" ["self","pin"] (spPlace K C_c4):=⟨_,_,cls_c4,m_ah,ok_ah F_ah fc MCp,b_ah⟩
 have ME:MtdOk l.prog w K mg base (CXr l.prog w) 1 C_c4 "ends" ["self","bar"] (spEnds K C_c4):=⟨_,_,cls_c4,m_av,ok_av F_av fc,b_av⟩
 have MW:MtdOk l.prog w K mg base (CXr l.prog w) 2 C_c4 "ways" ["self","pin"] (spWays K C_c4):=⟨_,_,cls_c4,m_au,ok_au F_au fc m_list MCp,b_au⟩
 have wR:MtdOk l.prog w K mg base (CXr l.prog w) 1 C_bz "ways" ["self"] (spRWays K C_bz):=⟨_,_,cls_bz,m_aj,ok_aj F_aj cls_bz n_way,b_aj⟩
 have wF:MtdOk l.prog w K mg base (CXr l.prog w) 1 C_c5 "ways" ["self"] (spFixed K):=⟨_,_,cls_c5,m_aw,ok_aw F_aw,b_aw⟩
 have GRI:=ok_ai (P:=l.prog) (w:=w) (mg:=mg) (base:=base) F_ai cls_bz n_way
 have GA:=ok_af D_af MPl GPD
 have GPR:=ok_bi hMo m_bv D_bi MPn
 have GLR:=ok_bj D_bj MPn GPR m_c2 X_c2 XN b_ax
 have GBR:=ok_bt D_bt GA GPR
 have GDR:=ok_b6 D_b6 MPn MW MBs ME GPR GBR
 have GPP:=ok_a2 D_a2 m_len m_dict m_zip MPn MW MBs
 have GMF:=ok_ag D_ag m_enumerate MPn
 have GRO:=ok_bu hN m_by hO m_c7 D_bu m_len MPn GDR GLR GSol GMF GPP
 have GC:=ok_ad (P:=l.prog) (w:=w) (base:=base) (CX:=CXr l.prog w) D_ad m_len
 have GFi:=ok_ay (P:=l.prog) (w:=w) (base:=base) (CX:=CXr l.prog w) D_ay
 have GLo:=ok_am (w:=w) (base:=base) ht D_am m_abs
 have GSu:=ok_bp (P:=l.prog) (w:=w) (base:=base) D_bp
 have GNa:=ok_be hM D_be m_str GFi
 have GSp:=ok_bf D_bf GFi GLo
 have GWy:=ok_bg D_bg GFi GLo
 have GPi:=ok_bh D_bh m_range m_min GC GFi GSp GWy GNa GSu
 have GBa:=ok_bl D_bl m_range m_len GC GFi GNa
 have GFr:=ok_b0 D_b0 m_len M_c4 m_c4 GI b_ar m_bz m_c5 M_c5 M_bz GRI b_ai (wR.mono (by decide)) (wF.mono (by decide)) MPb MPp MPd
 have GSt:=ok_ak D_ak m_len GC GFi
 have GLd:=ok_bm D_bm m_range m_len GC GFi
 have GRe:=ok_al D_al m_c2 m_c3 m_bw m_c0 m_isinstance xf_NoPin_pin em_nn ki_nb ki_nt ki_no GRO
 have GAn:=ok_a0 D_a0 m_bb m_isinstance m_ValueError xf_NoPin_pin em_ny ki_nv GRO
 exact ok_law F m_range m_len m_list m_dict m_isinstance m_tuple GPi GBa GFr GSt GLd GRe GAn MPn MPd GRO
end T_k32
open PySem PySem.W PyProof.Rows
set_option maxRecDepth 100000 in
set_option maxHeartbeats 0 in
theorem PySem.Challenge.cw_trussyard_k32_no_such_pin_holds : PySem.Challenge.rw_trussyard_k32_no_such_pin.Holds := by
 w_on;o_law;k_head;(case hw=>w_witness2)
 k_fill
 refine Ty.walk (l:=PySem.Challenge.rw_trussyard_k32_no_such_pin) (x:="_law_script") (k:=42) (CX:=fun w=>Ty.CXr (PySem.Challenge.rw_trussyard_k32_no_such_pin).prog w) rfl rfl (by first | rfl | decide+kernel) ⟨rfl,by decide,by decide⟩ (fun w h Y=>PySem.W.kIn_of Y) (fun w=>Ty.CXr.mute) ?F
 case F=>
  intro w mg fa h KX G hmg
  refine' T_k32.all_mk KX G hmg ?A0 ?A1 ?A2 ?A3 ?A4 ?A5 ?A6 ?A7 ?A8 ?A9 ?Aa ?Ab ?Ac ?Ad ?Ae ?Af ?Ag ?Ah ?Ai ?Aj ?Ak ?Al ?Am ?An ?Ao ?Ap ?Aq ?Ar ?As ?At ?Au ?Av ?Aw ?Ax ?Ay ?Az ?B0 ?B1 ?B2 ?B3 ?B4 ?B5 ?B6 ?B7 ?B8 ?B9 ?Ba ?Bb ?Bc ?Bd ?Be ?Bf ?Bg ?Bh ?Bi ?Bj ?Bk ?Bl ?Bm ?Bn ?Bo ?Bp ?Bq ?Br ?Bs ?Bt ?Bu ?Bv ?Bw ?Bx ?By ?Bz ?C0 ?C1 ?C2 ?C3 ?C4 ?C5 ?C6 ?C7 ?C8 ?C9 ?Ca ?Cb ?Cc ?Cd ?Ce ?Cf ?Cg ?Ch ?Ci ?Cj ?Ck ?Cl ?Cm ?Cn ?Co ?Cp ?Cq ?Cr ?Cs ?Ct ?Cu ?Cv ?Cw ?Cx ?Cy ?Cz ?D0 ?D1 ?D2 ?D3 ?D4 ?D5 ?D6 ?D7 ?D8 ?D9 ?Da ?Db ?Dc ?Dd ?De ?Df ?Dg ?Dh ?Di ?Dj ?Dk ?Dl ?Dm ?Dn ?Do ?Dp ?Dq ?Dr ?Ds ?Dt ?Du ?Dv ?Dw ?Dx ?Dy ?Dz ?E0 ?E1 ?E2 ?E3 ?E4 ?E5 ?E6 ?E7 ?E8 ?E9 ?Ea ?Eb ?Ec ?Ed ?Ee ?Ef ?Eg ?Eh ?Ei ?Ej ?Ek ?El ?Em ?En ?Eo ?Ep ?Eq ?Er ?Es ?Et ?Eu ?Ev ?Ew ?Ex ?Ey ?Ez ?F0 ?F1 ?F2 ?F3 ?F4 ?F5 ?F6 ?F7 ?F8 ?F9 ?Fa ?Fb ?Fc ?Fd ?Fe ?Ff ?Fg ?Fh ?Fi ?Fj ?Fk ?Fl ?Fm ?Fn ?Fo ?Fp ?Fq ?Fr ?Fs ?Ft ?Fu ?Fv ?Fw ?Fx ?Fy ?Fz ?G0 ?G1 ?G2 ?G3 ?G4 ?G5 ?G6 ?G7 ?G8 ?G9 ?Ga ?Gb ?Gc ?Gd ?Ge ?Gf ?Gg ?Gh ?Gi ?Gj ?Gk ?Gl ?Gm ?Gn ?Go ?Gp ?Gq ?Gr ?Gs ?Gt ?Gu ?Gv ?Gw ?Gx ?Gy ?Gz ?H0 ?H1 ?H2 ?H3 ?H4 ?H5 ?H6 ?H7 ?H8 ?H9 ?Ha ?Hb ?Hc ?Hd ?He ?Hf ?Hg ?Hh ?Hi ?Hj ?Hk ?Hl ?Hm ?Hn ?Ho ?Hp ?Hq ?Hr ?Hs ?Ht ?Hu ?Hv ?Hw ?Hx ?Hy ?Hz ?I0 ?I1 ?I2 ?I3 ?I4 ?I5 ?I6 ?I7 ?I8 ?I9 ?Ia ?Ib ?Ic ?Id ?Ie ?If ?Ig ?Ih ?Ii
  (case A0=>k_is);(case A1=>k_is);(case A2=>k_is);(case A3=>k_is);(case A4=>k_is);(case A5=>k_is);(case A6=>k_is);(case A7=>k_is);(case A8=>k_is);(case A9=>k_is);(case Aa=>k_is);(case Ab=>k_is);(case Ac=>k_is);(case Ad=>k_is);(case Ae=>k_is);(case Af=>k_is);(case Ag=>k_is);(case Ah=>k_is);(case Ai=>k_is);(case Aj=>k_is);(case Ak=>k_is);(case Al=>k_is);(case Am=>k_is);(case An=>k_is);(case Ao=>k_is);(case Ap=>k_is);(case Aq=>k_is);(case Ar=>k_is);(case As=>k_is);(case At=>k_is);(case Au=>k_is);(case Av=>k_is);(case Aw=>k_is);(case Ax=>k_is);(case Ay=>k_is);(case Az=>k_is);(case B0=>k_is);(case B1=>k_is);(case B2=>k_is);(case B3=>k_is);(case B4=>k_is);(case B5=>k_is);(case B6=>k_is);(case B7=>k_is);(case B8=>k_is);(case B9=>k_is);(case Ba=>k_is);(case Bb=>k_is);(case Bc=>k_is);(case Bd=>k_is);(case Be=>k_is);(case Bf=>k_is);(case Bg=>k_is);(case Bh=>k_is);(case Bi=>k_is);(case Bj=>k_is);(case Bk=>k_is);(case Bl=>k_is);(case Bm=>k_is);(case Bn=>k_is);(case Bo=>k_is);(case Bp=>k_is);(case Bq=>k_is);(case Br=>k_is);(case Bs=>k_is);(case Bt=>k_is);(case Bu=>k_is);(case Bv=>k_is);(case Bw=>k_is);(case Bx=>k_is);(case By=>k_is);(case Bz=>k_is);(case C0=>k_is);(case C1=>k_is);(case C2=>k_is);(case C3=>k_is);(case C4=>k_is);(case C5=>k_is);(case C6=>k_is);(case C7=>k_is);(case C8=>k_is);(case C9=>k_is);(case Ca=>k_is);(case Cb=>k_is);(case Cc=>k_is);(case Cd=>k_is);(case Ce=>k_is);(case Cf=>k_is);(case Cg=>k_is);(case Ch=>k_is);(case Ci=>k_is);(case Cj=>k_is);(case Ck=>k_is);(case Cl=>k_is);(case Cm=>k_is);(case Cn=>k_is);(case Co=>k_is);(case Cp=>k_is);(case Cq=>k_is);(case Cr=>k_is);(case Cs=>k_is);(case Ct=>k_is);(case Cu=>k_is);(case Cv=>k_is);(case Cw=>k_is);(case Cx=>k_is);(case Cy=>k_is);(case Cz=>k_is);(case D0=>k_is);(case D1=>k_is);(case D2=>k_is);(case D3=>k_is);(case D4=>k_is);(case D5=>k_is);(case D6=>k_is);(case D7=>k_is);(case D8=>k_is);(case D9=>k_is);(case Da=>k_is);(case Db=>k_is);(case Dc=>k_is);(case Dd=>k_is);(case De=>k_is);(case Df=>k_is);(case Dg=>k_is);(case Dh=>k_is);(case Di=>k_is);(case Dj=>k_is);(case Dk=>k_is);(case Dl=>k_is);(case Dm=>k_is);(case Dn=>k_is);(case Do=>k_is);(case Dp=>k_is);(case Dq=>k_is);(case Dr=>k_is);(case Ds=>k_is);(case Dt=>k_is);(case Du=>k_is);(case Dv=>k_is);(case Dw=>k_is);(case Dx=>k_is);(case Dy=>k_is);(case Dz=>k_is);(case E0=>k_is);(case E1=>k_is);(case E2=>k_is);(case E3=>k_is);(case E4=>k_is);(case E5=>k_is);(case E6=>k_is);(case E7=>k_is);(case E8=>k_is);(case E9=>k_is);(case Ea=>k_is);(case Eb=>k_is);(case Ec=>k_is);(case Ed=>k_is);(case Ee=>k_is);(case Ef=>k_is);(case Eg=>k_is);(case Eh=>k_is);(case Ei=>k_is);(case Ej=>k_is);(case Ek=>k_is);(case El=>k_is);(case Em=>k_is);(case En=>k_is);(case Eo=>k_is);(case Ep=>k_is);(case Eq=>k_is);(case Er=>k_is);(case Es=>k_is);(case Et=>k_is);(case Eu=>k_is);(case Ev=>k_is);(case Ew=>k_is);(case Ex=>k_is);(case Ey=>k_is);(case Ez=>k_is);(case F0=>k_is);(case F1=>k_is);(case F2=>k_is);(case F3=>k_is);(case F4=>k_is);(case F5=>k_is);(case F6=>k_is);(case F7=>k_is);(case F8=>k_is);(case F9=>k_is);(case Fa=>k_is);(case Fb=>k_is);(case Fc=>k_is);(case Fd=>k_is);(case Fe=>k_is);(case Ff=>k_is);(case Fg=>k_is);(case Fh=>k_is);(case Fi=>k_is);(case Fj=>k_is);(case Fk=>k_is);(case Fl=>k_is);(case Fm=>k_is);(case Fn=>k_is);(case Fo=>k_is);(case Fp=>k_is);(case Fq=>k_is);(case Fr=>k_is);(case Fs=>k_is);(case Ft=>k_is);(case Fu=>k_is);(case Fv=>k_is);(case Fw=>k_is);(case Fx=>k_is);(case Fy=>k_is);(case Fz=>k_is);(case G0=>k_is);(case G1=>k_is);(case G2=>k_is);(case G3=>k_is);(case G4=>k_is);(case G5=>k_is);(case G6=>k_is);(case G7=>k_is);(case G8=>k_is);(case G9=>k_is);(case Ga=>k_is);(case Gb=>k_is);(case Gc=>k_is);(case Gd=>k_is);(case Ge=>k_is);(case Gf=>k_is);(case Gg=>k_is);(case Gh=>k_is);(case Gi=>k_is);(case Gj=>k_is);(case Gk=>k_is);(case Gl=>k_is);(case Gm=>k_is);(case Gn=>k_is);(case Go=>k_is);(case Gp=>k_is);(case Gq=>k_is);(case Gr=>k_is);(case Gs=>k_is);(case Gt=>k_is);(case Gu=>k_is);(case Gv=>k_is);(case Gw=>k_is);(case Gx=>k_is);(case Gy=>k_is);(case Gz=>k_is);(case H0=>k_is);(case H1=>k_is);(case H2=>k_is);(case H3=>k_is);(case H4=>k_is);(case H5=>k_is);(case H6=>k_is);(case H7=>k_is);(case H8=>k_is);(case H9=>k_is);(case Ha=>k_is);(case Hb=>k_is);(case Hc=>k_is);(case Hd=>k_is);(case He=>k_is);(case Hf=>k_is);(case Hg=>k_is);(case Hh=>k_is);(case Hi=>k_is);(case Hj=>k_is);(case Hk=>k_is);(case Hl=>k_is);(case Hm=>k_is);(case Hn=>kernel_rfl);(case Ho=>k_is);(case Hp=>k_is);(case Hq=>k_is);(case Hr=>k_is);(case Hs=>kernel_rfl);(case Ht=>kernel_rfl);(case Hu=>kernel_rfl);(case Hv=>kernel_rfl);(case Hw=>k_is);(case Hx=>k_is);(case Hy=>kernel_rfl);(case Hz=>k_is);(case I0=>k_is);(case I1=>k_is);(case I2=>k_is);(case I3=>k_is);(case I4=>k_is);(case I5=>k_is);(case I6=>k_is);(case I7=>k_is);(case I8=>k_is);(case I9=>rfl);(case Ia=>k_is);(case Ib=>k_is);(case Ic=>kernel_rfl);(case Id=>kernel_rfl);(case Ie=>kernel_rfl);(case If=>kernel_rfl);(case Ig=>kernel_rfl);(case Ih=>kernel_rfl);(case Ii=>kernel_rfl)
#print axioms PySem.Challenge.cw_trussyard_k32_no_such_pin_holds
