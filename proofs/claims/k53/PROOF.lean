import PyProof.Rows.All
import Wide.All
import OpenK.AllK
import Wide.FinOn
import Lean
import PyProof.EqAt
import PyProof.EqKinds
import PyProof.TupleCall
import PyProof.ZipIter
import PyProof.SumWalkG
import PyProof.ListCopy
import PyProof.ListStr
import PyProof.DictItems
import PyProof.DictWalks
import PyProof.DictTruth
import PyProof.EnumMake
import PyProof.InstStoreFacts
import PyProof.Rows.SortWalk
import PyProof.ListRange
import PyProof.DictValues
import KE.KRevSl
import KE.KDictOf
import PyProof.DictIter
import PyProof.FactsAll.dict_1
import PyProof.AttrMissHeap
import KE.KEqDict
import KE.KDictList
import KE.KItemsList
import PySem.Challenge.RW_trussyard_k53_influence
set_option Elab.async false
set_option linter.all false
set_option maxRecDepth 100000
theorem gE.{u}{α:Type u}{l:List α}{i:Nat}(h:i < l.length):l[i]? =some l[i]:=List.getElem?_eq_getElem h
namespace PySem.W.Fast
def tw1893212890898292470:Unit:=()
def tw4447952331389747990:Unit:=()
def tw13131966505387713659:Unit:=()
def tw8405006355072262241:Unit:=()
def tw4033190873601128620:Unit:=()
def tw7805772174425009386:Unit:=()
def tw5667942465567115633:Unit:=()
def tw13136179199860575661:Unit:=()
def tw11038836416080733481:Unit:=()
def tw1683182212262585002:Unit:=()
def tw1658838562102494674:Unit:=()
def tw14461991485766038948:Unit:=()
def tw12683338071431064874:Unit:=()
def tw7803778589216356780:Unit:=()
def tw2960290111875640406:Unit:=()
def tw3689968773320762166:Unit:=()
def tw6230012462610840309:Unit:=()
def tw14749818440525554429:Unit:=()
def tw4917220823261463799:Unit:=()
def tw16360805479033351934:Unit:=()
def tw544943931877840993:Unit:=()
def tw14069759848522147454:Unit:=()
def tw6871546987615308371:Unit:=()
def tw835488195911293501:Unit:=()
def tw15410912524157384447:Unit:=()
def tw17676842346299904654:Unit:=()
def tw7706246803449207679:Unit:=()
def tw5028044733599477891:Unit:=()
def tw13637896943431940833:Unit:=()
def tw16856634417689552818:Unit:=()
def tw13485501515943453982:Unit:=()
def tw13432488699433431648:Unit:=()
def tw7659513885834623688:Unit:=()
def tw12441344987842779274:Unit:=()
def tw3346262686960108550:Unit:=()
def tw1685911461448790023:Unit:=()
def tw13617985623159356605:Unit:=()
def tw7304216489636986552:Unit:=()
def tw12922081609516158461:Unit:=()
def tw13745467055081945452:Unit:=()
def tw10921636207505957757:Unit:=()
def tw13615620011402862751:Unit:=()
def tw5673409391637723753:Unit:=()
def tw10766029738595264319:Unit:=()
def tw3809844068324171586:Unit:=()
def tw7394810365051302136:Unit:=()
def tw4018953667244270872:Unit:=()
def tw8069302930199184656:Unit:=()
def tw14561977685859207931:Unit:=()
def tw4905180082061049985:Unit:=()
def tw9215411259550009121:Unit:=()
def tw7033642885573050776:Unit:=()
def tw10917182874149605377:Unit:=()
def tw7498847362631843778:Unit:=()
def tw14891077343708780370:Unit:=()
def tw5471338180166329559:Unit:=()
def tw2313903452047764480:Unit:=()
def tw5596779945745021224:Unit:=()
def tw5977610360571545770:Unit:=()
def tw14795009116877574250:Unit:=()
def tw6361660040710776652:Unit:=()
def tw3125397895514431927:Unit:=()
def tw3173872329212971953:Unit:=()
def tw18114587930030393663:Unit:=()
def tw3511419996164356100:Unit:=()
def tw15782034418644275442:Unit:=()
def tw9407094305833725557:Unit:=()
def tw5883326890701887629:Unit:=()
def tw2679184087207553627:Unit:=()
def tw16090925600923788968:Unit:=()
def tw4796081067850879947:Unit:=()
def tw4042907147670631531:Unit:=()
def tw1845006278818531104:Unit:=()
def tw14957296237441351236:Unit:=()
def tw12914962196421407194:Unit:=()
def tw11226996976124883626:Unit:=()
def tw3749075958277307539:Unit:=()
def tw11977883976181620212:Unit:=()
def tw5810729339850519315:Unit:=()
def tw17454008644034217165:Unit:=()
def tw7003079711694893252:Unit:=()
def tw11468035746623184928:Unit:=()
def tw6779441484717611394:Unit:=()
def tw6641157106719023253:Unit:=()
def tw16716927246995481321:Unit:=()
def tw12478975459184531792:Unit:=()
def tw10847197787120354757:Unit:=()
def tw2224178737775097309:Unit:=()
def tw10405003236501895792:Unit:=()
def tw838243516587038930:Unit:=()
def tw15417188893646227514:Unit:=()
def tw15111485687074650408:Unit:=()
def tw5150752854168495068:Unit:=()
def tw15303030282289632849:Unit:=()
def tw6555040498441058215:Unit:=()
def tw5474002616639153167:Unit:=()
def tw671205329438929509:Unit:=()
def tw1462679267459149612:Unit:=()
def tw7651638453913557271:Unit:=()
def tw8535822894971523232:Unit:=()
def tw9742691824293552500:Unit:=()
def tw2218284619183071801:Unit:=()
def tw13439304290635216362:Unit:=()
def tw12421703069987935498:Unit:=()
def tw14667104041164630815:Unit:=()
def tw13460880999893008204:Unit:=()
def tw12449974395091283335:Unit:=()
def tw15578709366680220246:Unit:=()
def tw12503114833938965388:Unit:=()
def tw11062377540541346208:Unit:=()
def tw12583644243356909367:Unit:=()
def tw15466202292181423820:Unit:=()
def tw10862437065566675336:Unit:=()
def tw2593883463400047477:Unit:=()
def tw9698274861967167462:Unit:=()
def tw6670836212968658953:Unit:=()
def tw17263791178083570260:Unit:=()
def tw13962435988800597098:Unit:=()
def tw7225348781621877384:Unit:=()
def tw11527656452051842990:Unit:=()
def tw11480924993627808079:Unit:=()
def tw15980461531430242366:Unit:=()
def tw14151854230442176750:Unit:=()
def tw11646108246630456040:Unit:=()
def tw14169923565825420921:Unit:=()
def tw5661528110167749984:Unit:=()
def tw15812683433693925070:Unit:=()
def tw5513088678531283060:Unit:=()
def tw618839569284040468:Unit:=()
def tw23975854491218114:Unit:=()
def tw10502255393032536063:Unit:=()
def tw10011484700785619000:Unit:=()
def tw3328141869528733703:Unit:=()
def tw6878819579328746315:Unit:=()
def tw8271888498201908677:Unit:=()
def tw3835054125371827665:Unit:=()
def tw17265936172342995592:Unit:=()
def tw2541225213908065985:Unit:=()
def tw7623606015148336314:Unit:=()
def tw12393707673390248240:Unit:=()
def tw9547176481169349737:Unit:=()
def tw6292555767190106720:Unit:=()
def tw13671213864736085567:Unit:=()
def tw13413535040382600217:Unit:=()
def tw1675000755750845447:Unit:=()
def tw3734042369385445932:Unit:=()
def tw16031062409072960001:Unit:=()
def tw11953745554980731716:Unit:=()
def tw9878352672574085513:Unit:=()
def tw6489574600440685553:Unit:=()
def tw14964713989626551548:Unit:=()
def tw3487581477719423512:Unit:=()
def tw9398514520299355329:Unit:=()
def tw12331143676100932128:Unit:=()
def tw2248894380150089279:Unit:=()
def tw3944593618082561057:Unit:=()
def tw3059847945043913949:Unit:=()
def tw10700183991583904476:Unit:=()
def tw4115856830574537114:Unit:=()
def tw13110947494318727285:Unit:=()
def tw13061086199158390763:Unit:=()
def tw4682313682176602923:Unit:=()
def tw4586679239886745389:Unit:=()
def tw3867840337441349902:Unit:=()
def tw2263746030413370934:Unit:=()
def tw11497958983246502072:Unit:=()
def tw16775508326243034252:Unit:=()
def tw1232523805286634601:Unit:=()
def tw1530990509825324377:Unit:=()
def tw2046409394223766918:Unit:=()
def tw18193892554640381745:Unit:=()
def tw13147388221141177976:Unit:=()
def tw3417791852444127073:Unit:=()
def tw2794699653248495120:Unit:=()
def tw17929321492990344559:Unit:=()
def tw11494827764285602584:Unit:=()
def tw10649465279726415289:Unit:=()
def tw6601341918662979157:Unit:=()
def tw18419335284215297308:Unit:=()
def tw9899448297821491356:Unit:=()
def tw4819722713741533976:Unit:=()
def tw8522391239567286444:Unit:=()
def tw9793438871306173304:Unit:=()
def tw18297593254831036923:Unit:=()
def tw14171036694589323803:Unit:=()
def tw17462192831305357653:Unit:=()
def tw6034237145914599670:Unit:=()
def tw11185618084559603691:Unit:=()
def tw11992750229520380392:Unit:=()
def tw5795277487481780659:Unit:=()
def tw10047534188268005945:Unit:=()
def tw6829540734225055315:Unit:=()
def tw6310098028584969536:Unit:=()
def tw453187221943792001:Unit:=()
def tw15005545233729038779:Unit:=()
def tw6205586129604525718:Unit:=()
def tw5191850487195061488:Unit:=()
def tw10180434257369886459:Unit:=()
def tw15034718335135011001:Unit:=()
def tw17300474974336389347:Unit:=()
def tw13787307615245171023:Unit:=()
def tw4764821021865340909:Unit:=()
def tw5305901443293905862:Unit:=()
def tw6570153093719018148:Unit:=()
def tw7664093146460750521:Unit:=()
def tw7699281806099301334:Unit:=()
def tw2003878010301226341:Unit:=()
def tw14892216323390310117:Unit:=()
def tw1732027527178430135:Unit:=()
def tw9391191423854084636:Unit:=()
def tw943913907838863015:Unit:=()
def tw407564832960579817:Unit:=()
def tw12252086176503858424:Unit:=()
def tw15072484807826853487:Unit:=()
def tw1318040536659851759:Unit:=()
def tw2168178370570826198:Unit:=()
def tw7417524785472264681:Unit:=()
def tw13408921243754980035:Unit:=()
end PySem.W.Fast
open Array renaming length_toList→abY, toList→ak2
open Bool renaming false_ne_true→aay, and_eq_true→aa_, eq_iff_iff→abr, false_eq_true→abG, eq_false_iff→abN, and_false→aj7, or_false→akY, and_true→akZ
open Classical renaming propDecidable→aa'
open Int renaming zero_add→aaS, ne_of_gt→aaV, gcd→aa0, gcd_dvd_right→abl, mul_pos→abm, gcd_dvd_left→abn, fmod_nonneg_of_pos→abq, fdiv_eq_of_eq_mul_right→abw, mul_zero→abJ, mul_comm→abK, fmod_lt_of_pos→ab2, natAbs_neg→ab3, natAbs_mul→ab4, mul_neg_of_pos_of_neg→ab5, lt_trichotomy→ab7, natAbs_add_le→ab8, mul_assoc→ab', mul_eq_zero→aj4, gcd_zero_right→ake, fmod_def→akl, emod_eq_of_lt→akq, gcd_mul_left→akv, gcd_pos_iff→akF, mul_ne_zero→akG
open List renaming getElem?_eq_some_iff→be, length_map→ir, getElem?_map→Wp, mem_of_getElem?→aai, map_cons→aaj, mem_map→aal, getElem?_eq_none→aam, length_append→aap, getElem?_append_left→aaq, getElem?_of_mem→aas, getElem?_append_right→aat, replicate→aau, mem_cons_of_mem→aav, mem_cons_self→aax, getD_eq_getElem?_getD→aaz, map_append→aaA, flatMap_cons→aaB, mem_singleton→aaD, size_toArray→aaF, length_take→aaG, mem_append→aaH, map_map→aaI, mem_cons→aaJ, mem_append_right→aaM, sum_cons→aaO, length_cons→aaP, take_length→aaQ, map_congr_left→aaR, map_nil→aaW, nodup_cons→aaX, getElem?_replicate→aaY, mem_flatMap→aa1, length_replicate→aa2, getElem?_set→aa3, mem_iff_getElem→aa5, ext_getElem?→aa7, zipWith→aba, replicate_succ→abb, flatMap_append→abc, take_of_length_le→abg, sum_nil→abh, mem_append_left→abi, lookup→abj, length→abk, getElem_mem→abo, find?_cons→abt, getElem?_zipWith→abu, append_assoc→abv, take_add_one→abx, nodup_append→aby, any_eq_true→abA, filterMap_cons→abB, any_cons→abC, nil_append→abD, range→abF, mem_range→abH, flatten_cons→abI, getElem?_inj→abM, getElem?_eraseIdx→abO, take_append_drop→abR, length_drop→abS, cons_append→abT, filter_cons→abU, length_eraseIdx→abV, append_nil→abW, mem_filterMap→ab1, mem_of_mem_eraseIdx→aca, length_eraseIdx_le→ac_, getElem?_set_self→ae_, zipWith_cons_cons→ag_, getElem_cons_drop→ah_, of_mem_zip→ai_, length_nil→aj3, length_singleton→aj5, getElem?_set_ne→aj6, getElem_toArray→aj9, mem_of_mem_take→aj_, getElem?_range→aj', take_succ_cons→aka, length_zipWith→akb, all_cons→akc, forIn_toArray→akd, set_cons_zero→akf, set_cons_succ→akg, zip_cons_cons→aki, map_replicate→akj, getElem_take→akp, getElem_inj→akt, lookup_cons→akw, cons_ne_nil→aky, flatMap_nil→akz, mem_filter→akE, forIn_cons→akH, sum_append→akJ, foldl→akL, forIn_nil→akN, nodup_nil→akO
open List.Pairwise renaming map→akr
open Nat renaming le_trans→aak, le_refl→aao, lt_of_le_of_lt→aar, lt_of_lt_of_le→aaC, mul_le_mul_right→aaK, pow_le_pow_right→aaL, ne_of_lt→aaN, zero_le→aa4, lt_succ_self→aa6, lt_succ_iff_lt_or_eq→aa8, lt_irrefl→abd, le_of_lt→abe, not_lt_zero→abf, le_add_right→abp, add_mul→abz, lt_succ_of_lt→abL, zero_mul→abQ, min_eq_left→abX, ne_of_gt→abZ, pow_succ→ab0, le_of_not_lt→acd, add_sub_cancel_left→ad_, add_comm→af_, mul_le_mul→aj8, one_le_two_pow→akh, le_of_eq→akk, lt_trans→akm, le_succ_of_le→ako, le_succ→akB, pow_add→akC, min_le_left→akI
open Ne renaming symm→aaU
open Option renaming map_eq_some_iff→aaw, map_some→abE, isSome_map→ab9, isSome_iff_exists→ab_, getD_none→aku, none→ald
open Option.some renaming inj→aaE
open Or renaming inl→aan, inr→aaZ
open Prod renaming ext→acb, fst→alg, snd→alh
open Rat renaming intCast_le_intCast→abP
open Sum renaming inr→aaT, inl→ab6
open Sum.inl renaming inj→akA
open Sum.inr renaming inj→aa9
open PySem.W (Frag nsIn codeIn keepIn fnOf mg_of mg_none_of)
namespace L2
open PySem PySem.Spec PyProof.Rows
abbrev Key:=Sum Int Str
def lM:Key→Value→Bool
 | .inl k,v=>Value.isInt k v
 | .inr x,v=>Value.isStrOf x v
def Rv (w:World):Key→Int
 | .inl k=>hashInt k
 | .inr x=>hashStr w x
theorem bS:∀{k:Key} {v:Value},lM k v=true→(∃i t,k=ab6 i∧v=Value.int i t)∨(∃x t,k=aaT x∧v=Value.str x t)
 | .inl i,v,h=>by
  obtain ⟨t,e⟩:=Value.isInt_shape (k:=i) (v:=v) h
  exact .inl ⟨i,t,rfl,e⟩
 | .inr x,v,h=>by
  obtain ⟨t,e⟩:=Value.isStrOf_shape (x:=x) (v:=v) h
  exact .inr ⟨x,t,rfl,e⟩
theorem tX (i:Int)(t:Tok):lM (.inl i) (.int i t)=true:=by simp [lM,Value.isInt]
theorem tY (x:Str)(t:Tok):lM (.inr x) (.str x t)=true:=by simp [lM,Value.isStrOf]
theorem EC (a b:Int):decide ((ab6 a:Key)=ab6 b)=(a==b):=by
 by_cases e:a=b
 ·subst e;simp
 ·have h:¬ (ab6 a:Key)=ab6 b:=fun q=>e (akA q)
  rw [decide_eq_false h]
  exact (beq_eq_false_iff_ne.mpr e).symm
theorem ED (a b:Str):decide ((aaT a:Key)=aaT b)=decide (a=b):=by
 by_cases e:a=b
 ·subst e;simp
 ·have h:¬ (aaT a:Key)=aaT b:=fun q=>e (aa9 q)
  rw [decide_eq_false h,decide_eq_false e]
theorem EE (a:Int)(b:Str):decide ((ab6 a:Key)=aaT b)=false:=decide_eq_false (fun q=>nomatch q)
theorem EF (a:Str)(b:Int):decide ((aaT a:Key)=ab6 b)=false:=decide_eq_false (fun q=>nomatch q)
def bC (prog:Program)(w:World):PySem.KeyKind prog w Key where
 is:=lM
 hash:=Rv w
 inj:=fun v a b ha hb=>by
  rcases bS ha with ⟨i,t,rfl,rfl⟩ | ⟨x,t,rfl,rfl⟩
  ·rcases bS hb with ⟨j,u,rfl,e⟩ | ⟨y,u,rfl,e⟩
   ·injection e with e1 _;rw [e1]
   ·exact nomatch e
  ·rcases bS hb with ⟨j,u,rfl,e⟩ | ⟨y,u,rfl,e⟩
   ·exact nomatch e
   ·injection e with e1 _;rw [e1]
 byValue:=fun k v h=>by
  rcases bS h with ⟨i,t,rfl,rfl⟩ | ⟨x,t,rfl,rfl⟩ <;> rfl
 pyHash:=fun hv h=>by
  rcases bS hv with ⟨i,t,rfl,rfl⟩ | ⟨x,t,rfl,rfl⟩
  ·exact wpAny_pyHash_int h
  ·exact wpAny_pyHash_str h
 eqBool:=fun hu hv h=>by
  rcases bS hu with ⟨i,t,rfl,rfl⟩ | ⟨x,t,rfl,rfl⟩
  ·rcases bS hv with ⟨j,u,rfl,rfl⟩ | ⟨y,u,rfl,rfl⟩
   ·rw [EC] at h;exact wpAny_eqBool_int h
   ·rw [EE] at h;exact SeqAt.EqAt.int_str i t y u _ _ _ _ h
  ·rcases bS hv with ⟨j,u,rfl,rfl⟩ | ⟨y,u,rfl,rfl⟩
   ·rw [EF] at h;exact SeqAt.EqAt.str_int x t j u _ _ _ _ h
   ·rw [ED] at h;exact wpAny_eqBool_str h
 «strs»:=fun k x t v h=>by
  rcases bS h with ⟨i,u,rfl,e⟩ | ⟨y,u,rfl,e⟩
  ·exact nomatch e
  ·injection e with e1 _
   subst e1
   cases v <;> rfl
theorem oJ (prog:Program)(w:World)(i:Int)(t:Tok):(bC prog w).is (.inl i) (.int i t)=true:=tX i t
theorem oK (prog:Program)(w:World)(x:Str)(t:Tok):(bC prog w).is (.inr x) (.str x t)=true:=tY x t
end L2
namespace L2
open PySem PySem.Spec PyProof.Rows
inductive V where
 | cb | bl (b:Bool) | int (i:Int) | str (x:Str) | byt (b:Array UInt8) | QL (b:UInt64) | ref (a:Addr) | ty (n:String)
 deriving DecidableEq
def RelV:V→Value→Prop
 | .cb,u=>u=Value.none
 | .bl b,u=>u=Value.bool b
 | .int i,u=>∃t,u=Value.int i t
 | .str x,u=>∃t,u=Value.str x t
 | .byt b,u=>∃t,u=Value.bytes b t
 | .QL b,u=>∃t,u=Value.float b t
 | .ref a,u=>u=Value.ref a
 | .ty n,u=>u=Value.type n
abbrev Vals:List V→List Value→Prop:=Paired RelV
theorem Vals.length {xs:List V}{us:List Value}(r:Vals xs us):xs.length=us.length:=Paired.length r
theorem Vals.get:∀{xs:List V} {us:List Value} {i:Nat} {x:V},Vals xs us→xs[i]? =some x→∃u,us[i]? =some u∧RelV x u
 | _,_,_,_,.nil,e=>by simp at e
 | _,_,0,_,.cons r _,e=>by simp at e;subst e;exact ⟨_,rfl,r⟩
 | _,_,i+1,x,.cons _ t,e=>by
  obtain ⟨u,h1,h2⟩:=Vals.get (i:=i) (x:=x) t (by simpa using e)
  exact ⟨u,by simpa using h1,h2⟩
theorem Vals.set {x:V}{u:Value}(r:RelV x u):∀{xs:List V} {us:List Value} (i:Nat),Vals xs us→Vals (xs.set i x) (us.set i u)
 | _,_,_,.nil=>.nil
 | _,_,0,.cons _ t=>.cons r t
 | _,_,i+1,.cons q t=>.cons q (Vals.set r i t)
theorem Vals.append:∀{xs ys:List V} {us ws:List Value},Vals xs us→Vals ys ws→Vals (xs++ys) (us++ws)
 | _,_,_,_,.nil,s=>s
 | _,_,_,_,.cons r t,s=>.cons r (Vals.append t s)
theorem Vals.take:∀{xs:List V} {us:List Value} (n:Nat),Vals xs us→Vals (xs.take n) (us.take n)
 | _,_,0,_=>.nil
 | _,_,_+1,.nil=>.nil
 | _,_,n+1,.cons r t=>.cons r (Vals.take n t)
theorem Vals.drop:∀{xs:List V} {us:List Value} (n:Nat),Vals xs us→Vals (xs.drop n) (us.drop n)
 | _,_,0,r=>r
 | _,_,_+1,.nil=>.nil
 | _,_,n+1,.cons _ t=>Vals.drop n t
def fE:Option V→Option Value→Prop
 | some v,some u=>RelV v u
 | none,none=>True
 | _,_=>False
def KV {κ:Type}:List (κ×V)→List (κ×Value)→Prop:=Paired fun (p:κ×V) (q:κ×Value)=>p.1=q.1∧RelV p.2 q.2
def kV:Key→V
 | .inl i=>.int i
 | .inr x=>.str x
inductive HO where
 | lst (xs:List V)
 | tup (xs:List V)
 | dK (kvs:List (Key×V)) | dT (kvs:List (List Key×V))
 | set (S:Int→Bool) (n:Nat)
 | ins (C dx:Addr) (fs:List (Str×V))
 | own (x:Addr)
 | xd (fs:List (Str×V))
 | met (f x:Addr)
 | Rw (lo hi:Int)
 | fD (o:Obj) (u:HO)
 | EG (ps:Array Value)
 | ext (φ:Heap→Prop)
abbrev Hp:=Addr→Option HO
def upd (H:Hp)(a:Addr)(o:HO):Hp:=fun b=>if b=a then some o else H b
theorem ah {H:Hp}{a:Addr}{o:HO}:upd H a o a=some o:=by unfold upd;rw [if_pos rfl]
theorem ak {H:Hp}{a b:Addr}{o:HO}(h:b≠a):upd H a o b=H b:=by unfold upd;rw [if_neg h]
theorem JE {H:Hp}{a b:Addr}{o u:HO}(h:H a=some o)(h' :H b=some u)(d:o≠u):a≠b:=by
 intro e;subst e;rw [h] at h';exact d (aaE h')
theorem ao {H:Hp}{a b:Addr}{o:HO}(h:H a=some o)(h' :H b=none):a≠b:=by
 intro e;subst e;rw [h] at h';cases h'
section
variable (P:Program)(w:World)
def cx (H:Hp)(h:Heap)(a:Addr):HO→Prop
 | .lst xs=>xs.length≤sizeLine∧∃(its:List Value) (n:Nat),Vals xs its∧h.get? a=some {cls:=.type "list",data:=.seq its.toArray n}
 | .tup xs=>xs.length≤sizeLine∧∃its:List Value,Vals xs its∧IsTup h a its.toArray
 | .dK kvs=>kvs.length≤sizeLine∧(a==sysModules)=false∧∃vs,KV kvs vs∧h.DictOf (bC P w) a vs
 | .dT kvs=>kvs.length≤sizeLine∧(a==sysModules)=false∧∃xs:List (List Key×Addr×Value),
   Paired (fun (p:List Key×V) (q:List Key×Addr×Value)=>p.1=q.1∧H q.2.1=some (.tup (p.1.map kV))∧RelV p.2 q.2.2) kvs xs∧
   ∃o es ep,h.get? a=some o∧o.ExactDict∧o.data=.dict es ep∧es.toList=xs.map (entryOfKey (tupleKind (bC P w)))∧(xs.map (·.1)).Nodup
 | .set S n=>h.SetOf (intKind P w) a S n
 | .ins C dx fs=>H dx=some (.own a)∧fs.length≤1000∧dx≠a∧h.get? a=some (PySem.W.instObj C dx)∧
   ∃mA,h.Ns1 dx mA∧(∀f,fE (fs.lookup f) (mA f))∧PySem.Within mA (fs.map (·.1))
 | .own _=>∃o,h.get? a=some o
 | .xd fs=>∃mA,h.Ns1 a mA∧∀f,fE (fs.lookup f) (mA f)
 | .Rw lo hi=>∃t u v,h.get? a=some {cls:=.type "range",data:=.fields #[.int lo t,.int hi u,.int 1 v]}
 | .fD o u=>h.get? a=some o∧cx H h a u
 | .EG ps=>h.get? a=some {cls:=.none,data:=.fields ps}
 | .met f x=>h.get? a=some (PySem.W.methodObj (.ref f) (.ref x))
 | .ext φ=>φ h∧(∃o,h.get? a=some o)∧∀h1 h2:Heap,φ h1→(∀o,h1.get? a=some o→h2.get? a=some o)→φ h2
def gi (H:Hp)(h:Heap):Prop:=∀a o,H a=some o→cx P w H h a o
end
section
variable {P:Program}{w:World}{H H' :Hp}{h h' :Heap}{a:Addr}{o:HO}
theorem cx.lt (x:cx P w H h a o):a < h.objs.size:=by
 cases o with
 | lst xs=>obtain ⟨_,_,_,_,e⟩:=x;exact Heap.lt_size e
 | tup xs=>obtain ⟨_,_,_,p⟩:=x;exact p.lt
 | dK kvs=>obtain ⟨_,_,_,_,o,_,_,e,_⟩:=x;exact Heap.lt_size e
 | dT kvs=>obtain ⟨_,_,_,_,o,_,_,e,_⟩:=x;exact Heap.lt_size e
 | set S n=>obtain ⟨o,_,_,_,e,_⟩:=x;exact Heap.lt_size e
 | ins C dx fs=>obtain ⟨_,_,_,e,_⟩:=x;exact Heap.lt_size e
 | own y=>obtain ⟨_,e⟩:=x;exact Heap.lt_size e
 | xd fs=>obtain ⟨_,⟨_,_,_,e,_⟩,_⟩:=x;exact Heap.lt_size e
 | Rw lo hi=>obtain ⟨_,_,_,e⟩:=x;exact Heap.lt_size e
 | fD ob u=>obtain ⟨e,_⟩:=x;exact Heap.lt_size e
 | EG ps=>exact Heap.lt_size (show h.get? a=some _ from x)
 | met f y=>exact Heap.lt_size (show h.get? a=some _ from x)
 | ext φ=>obtain ⟨_,⟨_,e⟩,_⟩:=x;exact Heap.lt_size e
theorem Paired.bU {α β:Type}{F G:α→β→Prop}:∀{l₁:List α} {l₂:List β},Paired F l₁ l₂→(∀a b,F a b→G a b)→Paired G l₁ l₂
 | _,_,.nil,_=>.nil
 | _,_,.cons r t,f=>.cons (f _ _ r) (Paired.bU t f)
theorem cx.mM (x:cx P w H h a o)(k:∀b u,(b=a∨H b=some (.own a))→h.get? b=some u→h'.get? b=some u)
  (ho:∀b,H b=some (.own a)→H' b=some (.own a)) (ht:∀b xs,H b=some (.tup xs)→H' b=some (.tup xs)):cx P w H' h' a o:=by
 induction o with
 | lst xs=>obtain ⟨z,its,n,r,e⟩:=x;exact ⟨z,its,n,r,k _ _ (.inl rfl) e⟩
 | tup xs=>obtain ⟨z,its,r,ob,e,c⟩:=x;exact ⟨z,its,r,ob,k _ _ (.inl rfl) e,c⟩
 | dK kvs=>obtain ⟨z,y,vs,r,ob,es,ep,e,c⟩:=x;exact ⟨z,y,vs,r,ob,es,ep,k _ _ (.inl rfl) e,c⟩
 | dT kvs=>
  obtain ⟨z,y,xs,r,ob,es,ep,e,c⟩:=x
  exact ⟨z,y,xs,Paired.bU r fun p q z=>⟨z.1,ht _ _ z.2.1,z.2.2⟩,ob,es,ep,k _ _ (.inl rfl) e,c⟩
 | set S n=>obtain ⟨ob,es,ep,t,e,c⟩:=x;exact ⟨ob,es,ep,t,k _ _ (.inl rfl) e,c⟩
 | ins C dx fs=>
  obtain ⟨d,z,ne,e,mA,⟨od,es,ep,e2,c⟩,r⟩:=x
  exact ⟨ho _ d,z,ne,k _ _ (.inl rfl) e,mA,⟨od,es,ep,k _ _ (.inr d) e2,c⟩,r⟩
 | own y=>obtain ⟨ob,e⟩:=x;exact ⟨ob,k _ _ (.inl rfl) e⟩
 | xd fs=>obtain ⟨mA,⟨od,es,ep,e,c⟩,r⟩:=x;exact ⟨mA,⟨od,es,ep,k _ _ (.inl rfl) e,c⟩,r⟩
 | Rw lo hi=>obtain ⟨t,u,v,e⟩:=x;exact ⟨t,u,v,k _ _ (.inl rfl) e⟩
 | fD ob u ih=>obtain ⟨e,q⟩:=x;exact ⟨k _ _ (.inl rfl) e,ih q⟩
 | EG ps=>
  have e:h.get? a=some {cls:=.none,data:=.fields ps}:=x
  show h'.get? a=some {cls:=.none,data:=.fields ps}
  exact k a _ (.inl rfl) e
 | met f y=>
  have e:h.get? a=some (PySem.W.methodObj (.ref f) (.ref y)):=x
  show h'.get? a=some (PySem.W.methodObj (.ref f) (.ref y))
  exact k a _ (.inl rfl) e
 | ext φ=>obtain ⟨p,⟨o,e⟩,st⟩:=x;exact ⟨st _ _ p fun o q=>k _ _ (.inl rfl) q,⟨o,k _ _ (.inl rfl) e⟩,st⟩
theorem gi.lt (x:gi P w H h)(e:H a=some o):a < h.objs.size:=(x a o e).lt
theorem gi.fresh (x:gi P w H h)(e:h.objs.size≤a):H a=none:=by
 cases q:H a with
 | none=>rfl
 | some u=>exact absurd (aaC (x.lt q) e) (abd _)
theorem gi.kept (x:gi P w H h)(k:∀b u,h.get? b=some u→h'.get? b=some u):gi P w H h' :=fun a o e=>
 (x a o e).mM (fun b u _ q=>k b u q) (fun _ q=>q) fun _ _ q=>q
theorem gi.laid (x:gi P w H h)(k:∀b u,h.get? b=some u→h'.get? b=some u)(hp:h.objs.size≤a)(new:cx P w (upd H a o) h' a o):gi P w (upd H a o) h' :=fun b u e=>by
 have hn:=x.fresh hp
 by_cases hb:b=a
 ·subst hb;rw [ah] at e;cases e;exact new
 ·rw [ak hb] at e
  exact (x b u e).mM (fun c v _ q=>k c v q) (fun c q=>by rw [ak (ao q hn)];exact q) fun c xs q=>by rw [ak (ao q hn)];exact q
end
def Rd (H:Hp)(a:Addr)(u:HO):Prop:=H a=some u∨∃o,H a=some (.fD o u)
theorem Rd.of {H:Hp}{a:Addr}{u:HO}(h:H a=some u):Rd H a u:=.inl h
theorem Rd.ok {P:Program}{w:World}{H:Hp}{h:Heap}{a:Addr}{u:HO}(r:Rd H a u)(x:gi P w H h):cx P w H h a u:=by
 rcases r with r | ⟨o,r⟩
 ·exact x a u r
 ·obtain ⟨_,q⟩:=x a _ r
  exact q
def JF:Option HO→Prop
 | some (.lst _)=>True
 | some (.dK _)=>True
 | some (.dT _)=>True
 | some (.set _ _)=>True
 | some (.ins _ _ _)=>True
 | some (.ext _)=>True
 | _=>False
section
variable {P:Program}{w:World}{H:Hp}{h h' :Heap}{x e:Addr}{o' :HO}
theorem gi.write (ok:gi P w H h)(mu:JF (H x))(he:e=x∨H e=some (.own x))(k:∀b u,b≠e→h.get? b=some u→h'.get? b=some u)(Jd:∃u,h'.get? e=some u)
  (new:cx P w (upd H x o') h' x o'):gi P w (upd H x o') h' :=fun b u q=>by
 have JG:∀c y,H c=some (.own y)→c≠x:=fun c y r z=>by subst z;rw [r] at mu;exact mu
 have Rx:∀c xs,H c=some (.tup xs)→c≠x:=fun c xs r z=>by subst z;rw [r] at mu;exact mu
 by_cases hb:b=x
 ·subst hb;rw [ah] at q;cases q;exact new
 ·rw [ak hb] at q
  by_cases EH:b=e
  ·have q' :H b=some (.own x):=by
    rcases he with z | z
    ·exact absurd (EH.trans z) hb
    ·rw [EH];exact z
   rw [q] at q';cases q'
   obtain ⟨v,hv⟩:=Jd
   exact ⟨v,by rw [EH];exact hv⟩
  ·refine (ok b u q).mM (fun c v hc r=>k c v ?_ r) (fun c r=>by rw [ak (JG c b r)];exact r) fun c xs r=>by rw [ak (Rx c xs r)];exact r
   rcases hc with rfl | hc
   ·exact EH
   ·rintro rfl
    rcases he with z | z
    ·exact JG c b hc z
    ·rw [hc] at z;cases z;exact hb rfl
end
structure Un (fs ex:List Addr)(H H' :Hp)(h h' :Heap):Prop where
 keep:∀b o,h.get? b=some o→H b=none→b∉fs→b∉ex→h'.get? b=some o
 slot:∀b o,h.get? b=some o→H b=none→b∈fs→b∉ex→∃sl,h'.get? b=some {o with slots:=sl}
 free:∀b o,h.get? b=some o→H b=none→b∉ex→H' b=none
 there:∀b o,h.get? b=some o→b∉ex→∃o',h'.get? b=some o'
 mN:∀b xs,H b=some (.tup xs)→H' b=some (.tup xs)
 lh:∀b o u,H b=some (.fD o u)→H' b=some (.fD o u)
 mO:∀b ps,H b=some (.EG ps)→∃more,H' b=some (.EG (ps++more))
section
variable {fs fs' ex JH :List Addr}{H H1 H2:Hp}{h h1 h2 h' :Heap}{a x e:Addr}{o:HO}
theorem Un.any (u:Un fs ex H H1 h h1){b:Addr}{ob:Obj}(q:h.get? b=some ob)(n:H b=none)(hx:b∉ex):∃sl,h1.get? b=some {ob with slots:=sl}:=by
 by_cases hb:b∈fs
 ·exact u.slot b ob q n hb hx
 ·exact ⟨ob.slots,u.keep b ob q n hb hx⟩
theorem Un.kept (k:∀b u,h.get? b=some u→h'.get? b=some u):Un fs ex H H h h' :=
 ⟨fun b ob q _ _ _=>k b ob q,fun b ob q _ _ _=>⟨ob.slots,k b ob q⟩,fun _ _ _ n _=>n,fun b ob q _=>⟨ob,k b ob q⟩,fun _ _ q=>q,fun _ _ _ q=>q,fun _ ps q=>⟨#[],by rw [q];simp⟩⟩
theorem Un.refl:Un fs ex H H h h:=Un.kept fun _ _ q=>q
theorem Un.laid (k:∀b u,h.get? b=some u→h'.get? b=some u)(hp:h.objs.size≤a)(hn:H a=none):Un fs ex H (upd H a o) h h' where
 keep:=fun b u q _ _ _=>k b u q
 slot:=fun b u q _ _ _=>⟨u.slots,k b u q⟩
 free:=fun b u q n _=>by rw [ak (aaN (aaC (Heap.lt_size q) hp))];exact n
 there:=fun b u q _=>⟨u,k b u q⟩
 mN:=fun b xs q=>by rw [ak (ao q hn)];exact q
 lh:=fun b u xs q=>by rw [ak (ao q hn)];exact q
 mO:=fun b ps q=>⟨#[],by rw [ak (ao q hn),q];simp⟩
theorem Un.write (mu:JF (H x))(he:e=x∨H e=some (.own x))(k:∀b u,b≠e→h.get? b=some u→h'.get? b=some u)(Jd:∃u,h'.get? e=some u):Un fs ex H (upd H x o) h h' :=by
 have hx:∀b,H b=none→b≠x:=fun b n z=>by subst z;rw [n] at mu;exact mu
 have hb:∀b,H b=none→b≠e:=fun b n z=>by
  subst z
  rcases he with r | r
  ·exact hx b n r
  ·rw [n] at r;cases r
 have hm:∀b u,H b=some u→¬ JF (some u)→b≠x:=fun b u q nm z=>by subst z;rw [q] at mu;exact nm mu
 refine ⟨fun b u q n _ _=>k b u (hb b n) q,fun b u q n _ _=>⟨u.slots,k b u (hb b n) q⟩,fun b u q n _=>by rw [ak (hx b n)];exact n,fun b u q _=> ?_,
  fun b xs q=>by rw [ak (hm b _ q fun z=>z)];exact q,fun b u xs q=>by rw [ak (hm b _ q fun z=>z)];exact q,fun b ps q=>⟨#[],by rw [ak (hm b _ q fun z=>z),q];simp⟩⟩
 by_cases EH:b=e
 ·subst EH;exact Jd
 ·exact ⟨u,k b u EH q⟩
end
def QM (h:Heap)(H:Hp):List Addr:=(abF h.objs.size).filter fun a=>(H a).isSome
def mP (h:Heap)(H:Hp):Heap:=PySem.W.hideAll h (QM h H)
theorem tZ (h:Heap)(H:Hp):(mP h H).objs.size=h.objs.size:=PySem.W.hideAll_size _ _
theorem wm {h:Heap}{H:Hp}{b:Addr}{o:Obj}(e:h.get? b=some o)(n:H b=none):(mP h H).get? b=some o:=
 PySem.W.hideAll_get _ e fun hm=>by
  have q:(H b).isSome=true:=(akE.mp hm).2
  rw [n] at q;simp at q
theorem ze {h:Heap}{H:Hp}{b:Addr}{o:Obj}(e:(mP h H).get? b=some o):h.get? b=some o∧H b=none:=by
 have e' :h.get? b=some o:=PySem.W.of_hideAll (QM h H) e
 refine ⟨e',?_⟩
 cases q:H b with
 | none=>rfl
 | some x=>
  have hm:b∈QM h H:=akE.mpr ⟨abH.mpr (Heap.lt_size e'),by simp [q]⟩
  have z:(mP h H).get? b=none:=PySem.W.hideAll_none (QM h H) hm
  rw [z] at e;cases e
def zf (g h:Heap)(L:Addr):List (Addr×Obj):=(abF h.objs.size).filterMap fun a=>if a=L∨(g.get? a).isSome=true then none else (h.get? a).map fun o=>(a,o)
def rest (g h:Heap)(L d:Addr):List (Addr×Obj):=(zf g h L).filter fun p=>decide (p.1≠d)
end L2
namespace L2
open PySem PySem.Spec PyProof.Rows
structure Mod (K:Frag)(mg:Str→Option Value)(base:Heap):Prop where
 Je:K.In base
 glob:base.Ns mainGlobals mg
 blt:∃mb,base.Ns builtinsNs mb∧∀x:Str,x≠ "__name__"→mb x=bootBuiltins x
 nolimit:base.NoLimit
 seer:base.NoSeer
structure Cx where
 prog:Program
 w:World
 K:Frag
 mg:Str→Option Value
 base:Heap
 A:Around
 N:List Str
 s₀:Shared
 H₀:Hp
 env:Env
 outer:List Env
 stack:List Env
 ex:List Addr
 fn:Str→Bool
 calm:Bool
 pn:List (Addr×Obj)
 xe:Value→Shared→Prop
def sf (l:List Env):List Addr:=l.filterMap (·.frame)
abbrev Cx.fs (X:Cx):List Addr:=sf X.outer
def Ry (sc:Scope)(x:Str):Prop:=sc.names.lookup x=some .local∨sc.names.lookup x=some .cell∨sc.names.lookup x=some .free
def Loc (sc:Scope)(x:Str):Prop:=sc.names.lookup x=some .local∨sc.names.lookup x=some .cell
def Look (env:Env)(h:Heap)(m:Str→Option Value)(x:Str)(u:Value):Prop:=
 (env.kindOf x=some .local∧m x=some u)∨((env.kindOf x=some .cell∨env.kindOf x=some .free)∧∃c,env.cells.lookup x=some c∧h.IsCell c (some u))
structure Cx.Ok (X:Cx):Prop where
 mod:Mod X.K X.mg X.base
 kind:X.env.scope.kind=.function
 glob:X.env.globals=mainGlobals
 blt:X.env.builtins=builtinsNs
 above:X.s₀.heap.objs.size≤X.env.locals
 inj:∀x y c,X.env.cells.lookup x=some c→X.env.cells.lookup y=some c→x=y
 has:∀x,(X.env.kindOf x=some .cell∨X.env.kindOf x=some .free)→∃c,X.env.cells.lookup x=some c
 JI:∀x c,X.fn x=true→X.env.cells.lookup x=some c→X.s₀.heap.objs.size≤c
 hd:X.calm=true→X.A.handled=none
 frames:X.A.frames=some X.stack
 QN:X.stack=X.outer∨(X.stack=X.env::X.outer∧X.env.frame=some X.env.locals)
 exf:∀b∈X.ex,b≠X.env.locals∧∀x c,X.env.cells.lookup x=some c→c≠b
 bs:∀b o,X.base.get? b=some o→X.s₀.heap.get? b=some o∧X.H₀ b=none
 zg:X.base.objs.size≤X.s₀.heap.objs.size
 wo:∀b o,X.base.get? b=some o→b∉X.ex
 zh:∀b∈X.ex,b∉X.fs
 jx:X.s₀.heap.FunFrames X.base X.outer
 EI:∀b∈X.fs,X.H₀ b=none
structure Inv (X:Cx)(pins:List (Addr×Obj))(σ:List (Option V))(H:Hp)(s:Shared):Prop where
 ok:X.Ok
 os:s.os=X.s₀.os
 bare:AllBare s.gens
 base:Un X.fs X.ex X.H₀ H X.s₀.heap s.heap
 loc:∃m,s.heap.Ns X.env.locals m∧∀(i:Nat) (x:Str) (v:V),X.N[i]? =some x→σ[i]? =some (some v)→Ry X.env.scope x→∃u,RelV v u∧Look X.env s.heap m x u
 cell:∀x c,X.env.cells.lookup x=some c→∃v,s.heap.IsCell c v
 free:H X.env.locals=none
 fF:∀x c,X.env.cells.lookup x=some c→H c=none
 pin:∀p∈X.pn++pins,s.heap.get? p.1=some p.2∧H p.1=none∧p.1≠X.env.locals∧p.1∉X.fs∧∀v,p.2.data≠.cell v
 bK:gi X.prog X.w H s.heap
 len:σ.length=X.N.length
section
variable {X:Cx}{pins:List (Addr×Obj)}{σ:List (Option V)}{H H' :Hp}{s:Shared}{h' :Heap}
theorem Cx.Ok.Rz (ok:X.Ok){b:Addr}{o:Obj}(e:X.base.get? b=some o):b∉X.fs:=fun hb=>by
 have:=(ok.jx.mem hb).1
 rw [e] at this;cases this
theorem Inv.bs (I:Inv X pins σ H s):∀b o,X.base.get? b=some o→s.heap.get? b=some o∧H b=none:=fun b o e=>
 ⟨I.base.keep b o (I.ok.bs b o e).1 (I.ok.bs b o e).2 (I.ok.Rz e) (I.ok.wo b o e),I.base.free b o (I.ok.bs b o e).1 (I.ok.bs b o e).2 (I.ok.wo b o e)⟩
theorem Inv.bk (I:Inv X pins σ H s):∀b o,X.base.get? b=some o→s.heap.get? b=some o:=fun b o e=>(I.bs b o e).1
theorem Inv.mod (I:Inv X pins σ H s):Mod X.K X.mg X.base:=I.ok.mod
theorem Inv.mQ (I:Inv X pins σ H s):X.K.In s.heap:=I.ok.mod.Je.keeps I.bk
theorem Inv.nolimit (I:Inv X pins σ H s):s.heap.NoLimit:=I.ok.mod.nolimit.keeps I.bk
theorem Inv.lt (I:Inv X pins σ H s):X.env.locals < s.heap.objs.size:=let ⟨_,hn,_⟩:=I.loc;hn.lt
theorem Inv.sz (I:Inv X pins σ H s):X.s₀.heap.objs.size≤s.heap.objs.size:=aak I.ok.above (abe I.lt)
theorem Inv.RA (I:Inv X pins σ H s){a:Addr}(h:s.heap.objs.size≤a):a∉X.fs:=fun hb=>by
 obtain ⟨_,o,ho,_⟩:=I.ok.jx.mem hb
 exact absurd (aaC (Heap.lt_size ho) (aak I.sz h)) (abd _)
theorem Inv.EJ (I:Inv X pins σ H s):∀x c,X.env.cells.lookup x=some c→c≠X.env.locals:=fun x c e z=>by
 obtain ⟨v,o,ho,hd⟩:=I.cell x c e
 obtain ⟨m,⟨o',es,ep,EK,RB,_⟩,_⟩:=I.loc
 rw [z,EK] at ho;cases ho;rw [RB] at hd;cases hd
theorem Inv.jx (I:Inv X pins σ H s):s.heap.FunFrames X.base X.outer:=by
 have all:∀(l:List Env),(∀b∈sf l,b∈X.fs)→X.s₀.heap.FunFrames X.base l→s.heap.FunFrames X.base l:=by
  intro l
  induction l with
  | nil=>intro _ _;trivial
  | cons env r ih=>
   intro hs hl
   obtain ⟨hk,⟨L,o,hf,hn,ho,hd⟩,hr⟩:=hl
   have hL:L∈X.fs:=hs L (by unfold sf;rw [abB,hf];exact aax)
   obtain ⟨sl,e⟩:=I.base.slot L o ho (I.ok.EI L hL) hL fun z=>I.ok.zh L z hL
   exact ⟨hk,⟨L,_,hf,hn,e,hd⟩,ih (fun b hb=>hs b (by unfold sf;rw [abB,hf];exact aav _ hb)) hr⟩
 exact all X.outer (fun _ hb=>hb) I.ok.jx
theorem Inv.stack (I:Inv X pins σ H s):s.heap.FunFrames X.base X.stack:=by
 rcases I.ok.QN with e | ⟨e,hf⟩
 ·rw [e];exact I.jx
 ·rw [e]
  obtain ⟨m,hn,_⟩:=I.loc
  refine .cons (by rw [I.ok.kind];decide) hf hn ?_ I.jx
  exact Heap.get?_none_of_le (aak I.ok.zg I.ok.above)
theorem Inv.qK (I:Inv X pins σ H s):∀b∈sf X.stack,b∈X.env.locals::X.fs:=fun b hb=>by
 rcases I.ok.QN with e | ⟨e,hf⟩
 ·rw [e] at hb;exact aav _ hb
 ·rw [e] at hb
  unfold sf at hb
  rw [abB,hf] at hb
  exact hb
theorem Inv.si (I:Inv X pins σ H s):∀b∈sf X.stack,H b=none:=fun b hb=>by
 rcases aaJ.mp (I.qK b hb) with e | hb
 ·rw [e];exact I.free
 ·obtain ⟨_,o,ho,_⟩:=I.ok.jx.mem hb
  exact I.base.free b o ho (I.ok.EI b hb) fun z=>I.ok.zh b z hb
theorem Inv.step {g' :Array GenState}{t' :Nat}{d' :Drawn}{ch:List Addr}(I:Inv X pins σ H s)
  (yW:∀b∈ch,(b∈X.ex∨X.s₀.heap.objs.size≤b)∧b≠X.env.locals∧(∀x c,X.env.cells.lookup x=some c→c≠b)∧∀p∈X.pn++pins,p.1≠b)
  (keep:∀b o,b≠X.env.locals→b∉X.fs→b∉ch→s.heap.get? b=some o→H b=none→h'.get? b=some o)
  (slot:∀b o,b≠X.env.locals→b∈X.fs→b∉ch→s.heap.get? b=some o→H b=none→∃sl,h'.get? b=some {o with slots:=sl}) (free:∀b o,b∉ch→s.heap.get? b=some o→H b=none→H' b=none)
  (there:∀b o,b∉ch→s.heap.get? b=some o→∃o',h'.get? b=some o')
  (mN:∀b xs,H b=some (.tup xs)→H' b=some (.tup xs)) (lh:∀b o u,H b=some (.fD o u)→H' b=some (.fD o u)) (mO:∀b ps,H b=some (.EG ps)→∃more,H' b=some (.EG (ps++more)))
  (ns:∀m,s.heap.Ns X.env.locals m→h'.Ns X.env.locals m) (bK:gi X.prog X.w H' h') (hg:AllBare g'):
  Inv X pins σ H' {s with heap:=h',gens:=g',drawn:=d',toks:=t' }:=by
 have neL:∀b o,X.s₀.heap.get? b=some o→b≠X.env.locals:=fun b o e=>aaN (aaC (Heap.lt_size e) I.ok.above)
 have QO:∀b o,X.s₀.heap.get? b=some o→b∉X.ex→b∉ch:=fun b o e hx hb=>by
  rcases (yW b hb).1 with z | z
  ·exact hx z
  ·exact absurd (aaC (Heap.lt_size e) z) (abd _)
 have cellK:∀x c,X.env.cells.lookup x=some c→∀v,s.heap.IsCell c v→h'.IsCell c v:=fun x c e v ⟨o,ho,hd⟩=>by
  have JJ:c∉ch:=fun z=>(yW c z).2.2.1 x c e rfl
  by_cases hc:c∈X.fs
  ·obtain ⟨sl,q⟩:=slot c o (I.EJ x c e) hc JJ ho (I.fF x c e)
   exact ⟨_,q,hd⟩
  ·exact ⟨o,keep c o (I.EJ x c e) hc JJ ho (I.fF x c e),hd⟩
 refine ⟨I.ok,I.os,hg,⟨fun b o e n hb hx=> ?_,fun b o e n hb hx=> ?_,fun b o e n hx=> ?_,fun b o e hx=> ?_,fun b xs e=>mN b xs (I.base.mN b xs e),fun b o xs e=>lh b o xs (I.base.lh b o xs e),fun b ps e=> ?_⟩,?_,fun x c e=> ?_,?_,fun x c e=> ?_,fun p hp=> ?_,bK,I.len⟩
 ·exact keep b o (neL b o e) hb (QO b o e hx) (I.base.keep b o e n hb hx) (I.base.free b o e n hx)
 ·obtain ⟨sl,e1⟩:=I.base.slot b o e n hb hx
  obtain ⟨sl',e2⟩:=slot b _ (neL b o e) hb (QO b o e hx) e1 (I.base.free b o e n hx)
  exact ⟨sl',e2⟩
 ·obtain ⟨o',e1⟩:=I.base.there b o e hx
  exact free b o' (QO b o e hx) e1 (I.base.free b o e n hx)
 ·obtain ⟨o',e1⟩:=I.base.there b o e hx
  exact there b o' (QO b o e hx) e1
 ·obtain ⟨m1,e1⟩:=I.base.mO b ps e
  obtain ⟨m2,e2⟩:=mO b _ e1
  exact ⟨m1++m2,by rw [e2,Array.append_assoc]⟩
 ·obtain ⟨m,hn,hl⟩:=I.loc
  refine ⟨m,ns m hn,fun i x v e1 e2 e3=> ?_⟩
  obtain ⟨u,r,l⟩:=hl i x v e1 e2 e3
  refine ⟨u,r,?_⟩
  rcases l with l | ⟨k,c,e,z⟩
  ·exact .inl l
  ·exact .inr ⟨k,c,e,cellK x c e _ z⟩
 ·obtain ⟨v,z⟩:=I.cell x c e
  exact ⟨v,cellK x c e v z⟩
 ·obtain ⟨m,⟨o,_,_,ho,_⟩,_⟩:=I.loc
  exact free _ o (fun z=>(yW _ z).2.1 rfl) ho I.free
 ·obtain ⟨v,o,ho,hd⟩:=I.cell x c e
  exact free c o (fun z=>(yW c z).2.2.1 x c e rfl) ho (I.fF x c e)
 ·obtain ⟨e,n,ne,nf,d⟩:=I.pin p hp
  have JJ:p.1∉ch:=fun z=>(yW p.1 z).2.2.2 p hp rfl
  exact ⟨keep p.1 p.2 ne nf JJ e n,free p.1 p.2 JJ e n,ne,nf,d⟩
theorem Inv.un {t' :Nat}(I:Inv X pins σ H s)(u:Un X.fs [] H H' s.heap h')(bK:gi X.prog X.w H' h'):Inv X pins σ H' {s with heap:=h',toks:=t' }:=by
 obtain ⟨m,⟨o,es,ep,ho,r⟩,_⟩:=id I.loc
 obtain ⟨sl,hL⟩:=u.any ho I.free (by simp)
 exact I.step (g' :=s.gens) (d' :=s.drawn) (ch:=[]) (fun _ z=>nomatch z) (fun b o _ hb _ e n=>u.keep b o e n hb (by simp)) (fun b o _ hb _ e n=>u.slot b o e n hb (by simp)) (fun b o _ e n=>u.free b o e n (by simp)) (fun b o _ e=>u.there b o e (by simp)) u.mN u.lh u.mO (fun m' hm=>by
  obtain ⟨o',RC,oG,EK,r'⟩:=hm
  rw [ho] at EK;cases EK
  exact ⟨_,RC,oG,hL,r'⟩) bK I.bare
theorem Inv.call {g' :Array GenState}{t' :Nat}{d' :Drawn}{ch:List Addr}(I:Inv X pins σ H s)(u:Un (sf X.stack) ch H H' s.heap h')(bK:gi X.prog X.w H' h')(hg:AllBare g')
  (yW:∀b∈ch,(b∈X.ex∨X.s₀.heap.objs.size≤b)∧b≠X.env.locals∧(∀x c,X.env.cells.lookup x=some c→c≠b)∧∀p∈X.pn++pins,p.1≠b):
  Inv X pins σ H' {s with heap:=h',gens:=g',drawn:=d',toks:=t' }:=by
 obtain ⟨m,⟨o,es,ep,ho,r⟩,_⟩:=id I.loc
 obtain ⟨sl,hL⟩:=u.any ho I.free fun z=>(yW _ z).2.1 rfl
 exact I.step (ch:=ch) yW (fun b o hL hb hc e n=>u.keep b o e n (fun z=>(aaJ.mp (I.qK b z)).elim hL hb) hc) (fun b o _ _ hc e n=>u.any e n hc) (fun b o hc e n=>u.free b o e n hc) (fun b o hc e=>u.there b o e hc) u.mN u.lh u.mO (fun m' hm=>by
  obtain ⟨o',RC,oG,EK,r'⟩:=hm
  rw [ho] at EK;cases EK
  exact ⟨_,RC,oG,hL,r'⟩) bK hg
theorem Inv.turned {t' :Nat}{it:Addr}(I:Inv X pins σ H s)(k:∀b o,b≠it→s.heap.get? b=some o→h'.get? b=some o)(hn:H it=none)(hL:it≠X.env.locals)
  (h1:it∈X.ex∨X.s₀.heap.objs.size≤it) (h2:∀x c,X.env.cells.lookup x=some c→c≠it) (h3:∀p∈X.pn++pins,p.1≠it):Inv X pins σ H {s with heap:=h',toks:=t' }:=by
 have BY:∀b u,H b=some u→b≠it:=fun b u e z=>by rw [z,hn] at e;cases e
 refine I.step (g' :=s.gens) (d' :=s.drawn) (ch:=[it]) (fun b hb=> ?_) (fun b o _ _ hc e _=>k b o (fun z=>hc (by simp [z])) e) (fun b o _ _ hc e _=>⟨o.slots,k b o (fun z=>hc (by simp [z])) e⟩) (fun _ _ _ _ n=>n)
  (fun b o hc e=>⟨o,k b o (fun z=>hc (by simp [z])) e⟩) (fun _ _ e=>e) (fun _ _ _ e=>e) (fun b ps e=>⟨#[],by rw [e];simp⟩) (fun m hm=> ?_) (fun b u e=> ?_) I.bare
 ·have e:b=it:=by simpa using hb
  subst e
  exact ⟨h1,hL,h2,h3⟩
 ·obtain ⟨o,es,ep,ho,r⟩:=hm
  exact ⟨o,es,ep,k _ o (aaU hL) ho,r⟩
 ·refine (I.bK b u e).mM (fun c v hc q=>k c v ?_ q) (fun _ q=>q) fun _ _ q=>q
  rcases hc with z | z
  ·rw [z];exact BY b u e
  ·exact BY c _ z
theorem Inv.tok (I:Inv X pins σ H s)(t:Nat):Inv X pins σ H {s with toks:=t}:=I.un (h' :=s.heap) (t' :=t) Un.refl I.bK
theorem Inv.kept {t' :Nat}(I:Inv X pins σ H s)(k:∀b u,s.heap.get? b=some u→h'.get? b=some u):Inv X pins σ H {s with heap:=h',toks:=t' }:=I.un (Un.kept k) (I.bK.kept k)
theorem Inv.laid {a:Addr}{o:HO}{t' :Nat}(I:Inv X pins σ H s)(k:∀b u,s.heap.get? b=some u→h'.get? b=some u)(hp:s.heap.objs.size≤a)(new:cx X.prog X.w (upd H a o) h' a o):
  Inv X pins σ (upd H a o) {s with heap:=h',toks:=t' }:=I.un (Un.laid k hp (I.bK.fresh hp)) (I.bK.laid k hp new)
theorem Inv.write {x e:Addr}{o:HO}{t' :Nat}(I:Inv X pins σ H s)(mu:JF (H x))(he:e=x∨H e=some (.own x))(k:∀b u,b≠e→s.heap.get? b=some u→h'.get? b=some u)(Jd:∃u,h'.get? e=some u)
  (new:cx X.prog X.w (upd H x o) h' x o):Inv X pins σ (upd H x o) {s with heap:=h',toks:=t' }:=I.un (Un.write mu he k Jd) (I.bK.write mu he k Jd new)
theorem Inv.sj {BZ :List (Addr×Obj)}(I:Inv X pins σ H s)(h:∀p∈BZ,s.heap.get? p.1=some p.2∧H p.1=none∧p.1≠X.env.locals∧p.1∉X.fs∧∀v,p.2.data≠.cell v):Inv X BZ σ H s:=
 ⟨I.ok,I.os,I.bare,I.base,I.loc,I.cell,I.free,I.fF,fun p hp=>(aaH.mp hp).elim (fun z=>I.pin p (abi _ z)) (h p),I.bK,I.len⟩
theorem dh {N:List Str}(hN:N.Nodup){i j:Nat}{x:Str}(a:N[i]? =some x)(b:N[j]? =some x):i=j:=by
 obtain ⟨h1,e1⟩:=be.mp a
 obtain ⟨h2,e2⟩:=be.mp b
 exact (akt hN).mp (e1.trans e2.symm)
theorem lN {M:Model}{A:Around}{E:Value→Shared→Prop}{i:Nat}{x:Str}{v:V}{u:Value}{Q:Unit→Shared→Prop}(I:Inv X pins σ H s)(hN:X.N.Nodup)(hi:X.N[i]? =some x)(hx:Loc X.env.scope x)(r:RelV v u)
  (h:∀s',Inv X pins (σ.set i (some v)) H s' →(∃a,Heap.SameBut a s.heap s'.heap∧(a=X.env.locals∨X.env.cells.lookup x=some a))→Q () s') (hf:X.fn x=true∨X.env.scope.names.lookup x=some .local:=by first | exact .inl rfl | exact .inr rfl | assumption):wpAny M A (storeName X.env x u) Q E s:=by
 obtain ⟨m,hn,hl⟩:=id I.loc
 have RD:(X.env.scope.kind==.class || (X.env.scope.kind==.module && X.env.locals !=X.env.globals))=false:=by rw [I.ok.kind];rfl
 have hiσ:i < σ.length:=by rw [I.len];exact (be.mp hi).1
 have EJ:=I.EJ
 have tracked:∀{a:Addr} {h' :Heap},(∃o,s.heap.get? a=some o∧H a=none)→Heap.SameBut a s.heap h' →gi X.prog X.w H h' :=fun {a h'} ha hs b ob e=>by
  obtain ⟨_,_,B_⟩:=ha
  refine (I.bK b ob e).mM (fun c w' hc q=>(hs.2 c ?_).trans q) (fun _ q=>q) fun _ _ q=>q
  rintro rfl
  rcases hc with rfl | hc
  ·rw [B_] at e;cases e
  ·rw [B_] at hc;cases hc
 rcases hx with hk | hk
 ·refine wpAny_storeName_local hk hn (fun h' RE hs=> ?_) RD
  obtain ⟨oL,_,_,hoL,_⟩:=id hn
  refine h _ ⟨I.ok,I.os,I.bare,⟨fun b o e n hb hx=> ?_,fun b o e n hb hx=> ?_,I.base.free,fun b o e hx=> ?_,I.base.mN,I.base.lh,I.base.mO⟩,⟨_,RE,fun j y v' e1 e2 e3=> ?_⟩,fun y c e=> ?_,I.free,I.fF,fun p hp=> ?_,tracked ⟨oL,hoL,I.free⟩ hs,by simpa using I.len⟩ ⟨_,hs,.inl rfl⟩
  ·exact (hs.2 b (aaN (aaC (Heap.lt_size e) I.ok.above))).trans (I.base.keep b o e n hb hx)
  ·obtain ⟨sl,e1⟩:=I.base.slot b o e n hb hx
   exact ⟨sl,(hs.2 b (aaN (aaC (Heap.lt_size e) I.ok.above))).trans e1⟩
  ·obtain ⟨o',e1⟩:=I.base.there b o e hx
   exact ⟨o',(hs.2 b (aaN (aaC (Heap.lt_size e) I.ok.above))).trans e1⟩
  ·by_cases hj:j=i
   ·subst hj
    rw [hi] at e1;cases e1
    rw [ae_ hiσ] at e2
    cases e2
    exact ⟨u,r,.inl ⟨hk,by simp⟩⟩
   ·rw [aj6 (aaU hj)] at e2
    obtain ⟨u',r',q⟩:=hl j y v' e1 e2 e3
    refine ⟨u',r',?_⟩
    rcases q with ⟨k,e⟩ | ⟨k,c,e,z⟩
    ·refine .inl ⟨k,?_⟩
     have:y≠x:=fun e=>hj (dh hN e1 (e▸hi))
     simp [this,e]
    ·exact .inr ⟨k,c,e,z.sameBut hs (EJ y c e)⟩
  ·obtain ⟨w',z⟩:=I.cell y c e
   exact ⟨w',z.sameBut hs (EJ y c e)⟩
  ·obtain ⟨e,n,ne,nf,d⟩:=I.pin p hp
   exact ⟨(hs.2 p.1 ne).trans e,n,ne,nf,d⟩
 ·have RF:X.fn x=true:=by
   rcases hf with z | z
   ·exact z
   ·rw [z] at hk;cases hk
  obtain ⟨c,hc⟩:=I.ok.has x (.inl hk)
  obtain ⟨w',z⟩:=I.cell x c hc
  refine wpAny_storeName_cell I.ok.kind hk hc z (fun h' oH hs=> ?_)
  obtain ⟨oc,hoc,RG⟩:=id z
  refine h {s with heap:=h' } ⟨I.ok,I.os,I.bare,⟨fun b o e n hb hx=> ?_,fun b o e n hb hx=> ?_,I.base.free,fun b o e hx=> ?_,I.base.mN,I.base.lh,I.base.mO⟩,⟨m,hn.sameBut hs (aaU (EJ x c hc)),fun j y v' e1 e2 e3=> ?_⟩,fun y c' e=> ?_,I.free,I.fF,fun p hp=> ?_,tracked ⟨oc,hoc,I.fF x c hc⟩ hs,by simpa using I.len⟩ ⟨c,hs,.inr hc⟩
  ·exact (hs.2 b (aaN (aaC (Heap.lt_size e) (I.ok.JI x c RF hc)))).trans (I.base.keep b o e n hb hx)
  ·obtain ⟨sl,e1⟩:=I.base.slot b o e n hb hx
   exact ⟨sl,(hs.2 b (aaN (aaC (Heap.lt_size e) (I.ok.JI x c RF hc)))).trans e1⟩
  ·obtain ⟨o',e1⟩:=I.base.there b o e hx
   exact ⟨o',(hs.2 b (aaN (aaC (Heap.lt_size e) (I.ok.JI x c RF hc)))).trans e1⟩
  ·by_cases hj:j=i
   ·subst hj
    rw [hi] at e1;cases e1
    rw [ae_ hiσ] at e2
    cases e2
    exact ⟨u,r,.inr ⟨.inl hk,c,hc,oH⟩⟩
   ·rw [aj6 (aaU hj)] at e2
    obtain ⟨u',r',q⟩:=hl j y v' e1 e2 e3
    refine ⟨u',r',?_⟩
    rcases q with q | ⟨k,c',e,z'⟩
    ·exact .inl q
    ·refine .inr ⟨k,c',e,z'.sameBut hs ?_⟩
     rintro rfl
     exact hj (dh hN e1 (I.ok.inj _ _ _ e hc▸hi))
  ·by_cases QP:c' =c
   ·subst QP;exact ⟨_,oH⟩
   ·obtain ⟨w2,z2⟩:=I.cell y c' e
    exact ⟨w2,z2.sameBut hs QP⟩
  ·obtain ⟨e,n,ne,nf,d⟩:=I.pin p hp
   refine ⟨(hs.2 p.1 ?_).trans e,n,ne,nf,d⟩
   intro q
   rw [q,hoc] at e
   have q' :oc=p.2:=aaE e
   exact d w' (by rw [← q'];exact RG)
theorem gQ {M:Model}{A:Around}{E:Value→Shared→Prop}{i:Nat}{x:Str}{v:V}{u:Value}{Q:Unit→Shared→Prop}(I:Inv X pins σ H s)(hN:X.N.Nodup)(hi:X.N[i]? =some x)(hx:Loc X.env.scope x)(r:RelV v u)
  (h:∀s',Inv X pins (σ.set i (some v)) H s' →Q () s') (hf:X.fn x=true∨X.env.scope.names.lookup x=some .local:=by first | exact .inl rfl | exact .inr rfl | assumption):wpAny M A (storeName X.env x u) Q E s:=
 lN I hN hi hx r (fun s' I' _=>h s' I') hf
theorem Inv.JK {s' :Shared}{ch:List Addr}(I:Inv X pins σ H s)(ho:s'.os=s.os)(u:Un (sf X.stack) ch H H' s.heap s'.heap)(bK:gi X.prog X.w H' s'.heap)(hg:AllBare s'.gens)
  (yW:∀b∈ch,(b∈X.ex∨X.s₀.heap.objs.size≤b)∧b≠X.env.locals∧(∀x c,X.env.cells.lookup x=some c→c≠b)∧∀p∈X.pn++pins,p.1≠b):Inv X pins σ H' s' :=by
 obtain ⟨h',g',d',t',o'⟩:=s'
 have e:o' =s.os:=ho
 subst e
 exact I.call (g' :=g') (t' :=t') (d' :=d') u bK hg yW
end
abbrev XK:=Value→Option Addr→Hp→Prop
abbrev St:=List (Option V)
abbrev VK:=V→Hp→Prop
abbrev TE:=St→Hp→VK→Prop
abbrev TT:=St→Hp→(Bool→Hp→Prop)→Prop
abbrev TA:=St→Hp→(List V→Hp→Prop)→Prop
structure Ends where
 nx:St→Hp→Prop
 rt:VK
 bk:St→Hp→Prop:=fun _ _=>False
 ct:St→Hp→Prop:=fun _ _=>False
abbrev TS:=Ends→St→Hp→Prop
def EP (X:Cx)(pins:List (Addr×Obj))(σ:St)(Q:VK)(u:Value)(s' :Shared):Prop:=∃v H',Inv X pins σ H' s' ∧RelV v u∧Q v H'
def TP (X:Cx)(pins:List (Addr×Obj))(σ:St)(Q:Bool→Hp→Prop)(b:Bool)(s' :Shared):Prop:=∃H',Inv X pins σ H' s' ∧Q b H'
def AP (X:Cx)(pins:List (Addr×Obj))(σ:St)(Q:List V→Hp→Prop)(us:List Value)(s' :Shared):Prop:=∃vs H',Inv X pins σ H' s' ∧Vals vs us∧Q vs H'
def SP (X:Cx)(pins:List (Addr×Obj))(D:Ends)(f:Flow)(s' :Shared):Prop:=
 match f with
 | .next=>∃σ' H',Inv X pins σ' H' s' ∧D.nx σ' H'
 | .brk=>∃σ' H',Inv X pins σ' H' s' ∧D.bk σ' H'
 | .cont=>∃σ' H',Inv X pins σ' H' s' ∧D.ct σ' H'
 | .ret u=>∃v σ' H',Inv X pins σ' H' s' ∧RelV v u∧D.rt v H'
def PE (X:Cx)(e:Expr)(t:TE):Prop:=
 ∀(pins:List (Addr×Obj)) (s:Shared) (σ:St) (H:Hp) (Q:VK),Inv X pins σ H s→t σ H Q→wpAny (model X.prog X.w) X.A (eval e X.env) (EP X pins σ Q) X.xe s
def PT (X:Cx)(e:Expr)(t:TT):Prop:=
 ∀(pins:List (Addr×Obj)) (s:Shared) (σ:St) (H:Hp) (Q:Bool→Hp→Prop),Inv X pins σ H s→t σ H Q→wpAny (model X.prog X.w) X.A (isTrue e X.env (eval e X.env)) (TP X pins σ Q) X.xe s
def PW (X:Cx)(e:Expr)(t:TT):Prop:=
 ∀(whole:Sem Value) (pins:List (Addr×Obj)) (s:Shared) (σ:St) (H:Hp) (Q:Bool→Hp→Prop),Inv X pins σ H s→t σ H Q→wpAny (model X.prog X.w) X.A (isTrue e X.env whole) (TP X pins σ Q) X.xe s
theorem PW.pt {X:Cx}{e:Expr}{t:TT}(h:PW X e t):PT X e t:=h _
def PA (X:Cx)(es:List Expr)(t:TA):Prop:=
 ∀(pos:Pos) (pins:List (Addr×Obj)) (s:Shared) (σ:St) (H:Hp) (Q:List V→Hp→Prop),Inv X pins σ H s→t σ H Q→wpAny (model X.prog X.w) X.A (spliced (backTo pos (starEach es X.env))) (AP X pins σ Q) X.xe s
def PS (X:Cx)(st:Stmt)(t:TS):Prop:=
 ∀(pins:List (Addr×Obj)) (s:Shared) (σ:St) (H:Hp) (D:Ends),Inv X pins σ H s→t D σ H→wpAny (model X.prog X.w) X.A (exec st X.env) (SP X pins D) X.xe s
def PSs (X:Cx)(st:List Stmt)(t:TS):Prop:=
 ∀(pins:List (Addr×Obj)) (s:Shared) (σ:St) (H:Hp) (D:Ends),Inv X pins σ H s→t D σ H→wpAny (model X.prog X.w) X.A (execs st X.env) (SP X pins D) X.xe s
theorem b8 {α:Type}{t:Sem α}{Q Q' :α→Shared→Prop}{M:Model}{A:Around}{E:Value→Shared→Prop}{s:Shared}(h:wpAny M A t Q E s)(hQ:∀a s,Q a s→Q' a s):wpAny M A t Q' E s:=wpAny_mono h hQ fun _ _ x=>x
end L2
namespace L2
open PySem PySem.Spec PyProof.Rows
section
variable {X:Cx}
inductive EL (i:Nat)(σ:St)(H:Hp)(Q:VK):Prop where
 | mk (v:_) (_:σ[i]? =some (some v)) (_:Q v H):EL i σ H Q
def tC (v:V):TE:=fun _ H Q=>Q v H
theorem EM {i:Nat}{x:Str}{pos:Pos}(hN:X.N[i]? =some x)(hv:Ry X.env.scope x)(hd:(x==("__debug__":Str))=false:=by decide)(lj:(x==("__classdict__":Str))=false:=by decide):PE X (.Name x pos) (EL i):=by
 intro pins s σ H Q I h
 obtain ⟨v,e,h⟩:=h
 obtain ⟨m,hn,hl⟩:=I.loc
 obtain ⟨u,r,l⟩:=hl i x v hN e hv
 have fin:EP X pins σ Q u s:=⟨v,H,I,r,h⟩
 rcases l with ⟨hk,hm⟩ | ⟨hk,c,hc,hcell⟩
 ·exact wpAny_Name (wpAny_loadName_local I.ok.kind hk hn hm fin) hd
 ·rcases hk with hk | hk
  ·exact wpAny_Name (wpAny_loadName_cell I.ok.kind hk hc hcell fin) hd
  ·exact wpAny_Name (wpAny_loadName_free I.ok.kind hk hc hcell fin lj) hd
theorem ag {i j pos}:PE X (.Constant (.int i) j pos) (tC (.int i)):=fun _ _ _ H _ I h=>wpAny_Constant_int ⟨.int i,H,I.tok _,⟨_,rfl⟩,h⟩
theorem oM {b j pos}:PE X (.Constant (.bool b) j pos) (tC (.bl b)):=fun _ _ _ H _ I h=>Constant_bool ⟨.bl b,H,I,rfl,h⟩
theorem jS {j pos}:PE X (.Constant .none j pos) (tC .cb):=fun _ _ _ H _ I h=>Constant_none ⟨.cb,H,I,rfl,h⟩
theorem cI {x j pos}:PE X (.Constant (.str x) j pos) (tC (.str x)):=fun _ _ _ H _ I h=>Calls.Constant_str ⟨.str x,H,I.tok _,⟨_,rfl⟩,h⟩
def Gl (X:Cx)(x:Str):Prop:=X.env.kindOf x=some .globalImplicit
theorem gR {E:Value→Shared→Prop}{pins:List (Addr×Obj)}{s:Shared}{σ:St}{H:Hp}{x:Str}{u:Value}{pos:Pos}{Q:Value→Shared→Prop}(I:Inv X pins σ H s)(hg:Gl X x)(hm:X.mg x=some u)(h:Q u s)
  (hd:(x==("__debug__":Str))=false:=by decide):wpAny (model X.prog X.w) X.A (eval (.Name x pos) X.env) Q E s:=
 Calls.Name_function_global I.ok.kind hg (Calls.loadGlobal_global (by rw [I.ok.glob];exact I.mod.glob.keeps I.bk) hm h) hd
theorem gu {E:Value→Shared→Prop}{pins:List (Addr×Obj)}{s:Shared}{σ:St}{H:Hp}{x:Str}{u:Value}{pos:Pos}{Q:Value→Shared→Prop}(I:Inv X pins σ H s)(hg:Gl X x)(hm:X.mg x=none)(hv:bootBuiltins x=some u)(h:Q u s)
  (hn:x≠ "__name__":=by decide) (hd:(x==("__debug__":Str))=false:=by decide):wpAny (model X.prog X.w) X.A (eval (.Name x pos) X.env) Q E s:=by
 obtain ⟨mb,h1,h2⟩:=I.mod.blt
 exact Calls.Name_function_global I.ok.kind hg (Calls.loadGlobal_builtin (by rw [I.ok.glob];exact I.mod.glob.keeps I.bk) hm (by rw [I.ok.blt];exact h1.keeps I.bk) ((h2 x hn).trans hv) h) hd
theorem eZ {x:Str}{v:V}{u:Value}{pos:Pos}(hg:Gl X x)(hm:X.mg x=some u)(r:RelV v u)(hd:(x==("__debug__":Str))=false:=by decide):PE X (.Name x pos) (tC v):=
 fun _ _ _ H _ I h=>gR I hg hm ⟨v,H,I,r,h⟩ hd
variable {a b:Expr}{ta tb:TE}{pos:Pos}
def PC (X:Cx)(op:CmpOp)(a b:Expr)(t:TE):Prop:=
 ∀(pins:List (Addr×Obj)) (s:Shared) (σ:St) (H:Hp) (Q:VK),Inv X pins σ H s→t σ H Q→
  wpAny (model X.prog X.w) X.A (eval a X.env) (fun v s₁=>wpAny (model X.prog X.w) X.A (eval b X.env) (fun u s₂=>wpAny (model X.prog X.w) X.A (compareOp op v u) (EP X pins σ Q) X.xe s₂) X.xe s₁) X.xe s
inductive tB_ (Q:(Bool→Hp→Prop))(x:V)(H1:Hp):Prop where
 | mk (c:_) (_:x=.bl c) (_:Q c H1):tB_ Q x H1
def tB (t:TE):TT:=fun σ H Q=>t σ H fun x H1=>tB_ Q x H1
theorem mR {op:CmpOp}{t:TE}(h:PC X op a b t)(h1:behindInMarks op b=false:=by first | exact nobehind _ (by decide) (by decide) | rfl):PT X (.Compare a [op] [b] pos) (tB t):=by
 intro pins s σ H Q I hw
 refine wpAny_isTrue_Compare1 (b8 (h pins s σ H _ I hw) fun v s1 h1=>b8 h1 fun u s2 h2=>b8 h2 fun c s3 ⟨x,H1,I1,r1,q1⟩=> ?_) h1
 obtain ⟨d,rfl,q⟩:=q1
 cases r1
 exact wpAny_truthy_bool ⟨H1,I1,q⟩
theorem wu {e:Expr}{t:TE}(h:PE X e t)(he:∀whole,isTrue e X.env whole=(do let v ← whole;standAt e.pos;holding [v] (truthy v)):=by intro _;rfl):PT X e (tB t):=by
 intro pins s σ H Q I hw
 refine isTrue_plain (b8 (h pins s σ H _ I hw) fun v s1 ⟨x,H1,I1,r1,q1⟩=> ?_) (he _)
 obtain ⟨d,rfl,q⟩:=q1
 cases r1
 exact wpAny_truthy_bool ⟨H1,I1,q⟩
variable {tA tB' :TT}{rest:List Expr}
def RH (t u:TT):TT:=fun σ H Q=>t σ H fun c H1=>if c=true then u σ H1 Q else Q false H1
def RI (t:TT):TT:=fun σ H Q=>t σ H fun c H1=>Q (!c) H1
theorem sk (ha:PT X a tA):PW X (.BoolOp .And [a] pos) tA:=by
 intro wh pins s σ H Q I h
 refine isTrue_and (b8 (ha pins s σ H Q I h) fun c s1 e=> ?_)
 cases c with
 | true=>exact isTrue_and_nil e
 | false=>exact e
theorem wz (ha:PT X a tA)(hb:PW X (.BoolOp .And (b::rest) pos) tB'):PW X (.BoolOp .And (a::b::rest) pos) (RH tA tB'):=by
 intro wh pins s σ H Q I h
 refine isTrue_and (b8 (ha pins s σ H _ I h) fun c s1 ⟨H1,I1,q1⟩=> ?_)
 cases c with
 | true=>exact hb wh pins s1 σ H1 Q I1 q1
 | false=>exact ⟨H1,I1,q1⟩
theorem EN (ha:PT X a tA):PT X (.UnaryOp .Not a pos) (RI tA):=by
 intro pins s σ H Q I h
 exact isTrue_not (ha pins s σ H (fun c H1=>Q (!c) H1) I h)
def JL (ta tb:TE):TE:=fun σ H Q=>ta σ H fun x H1=>∃c,x=.bl c∧if c=true then tb σ H1 Q else Q (.bl false) H1
theorem wA {op}{t:TE}(h:PE X a t):PE X (.BoolOp op [a] pos) t:=fun pins s σ H Q I hw=>BoolOp_one (h pins s σ H Q I hw)
theorem wB (ha:PE X a ta)(hb:PE X (.BoolOp .And (b::rest) pos) tb):PE X (.BoolOp .And (a::b::rest) pos) (JL ta tb):=by
 intro pins s σ H Q I h
 refine BoolOp_and (b8 (ha pins s σ H _ I h) fun v s1 ⟨x,H1,I1,r1,q1⟩=> ?_)
 obtain ⟨c,rfl,q1⟩:=q1
 cases r1
 refine wpAny_truthy_bool ?_
 cases c with
 | true=>exact hb pins s1 σ H1 Q I1 q1
 | false=>exact ⟨.bl false,H1,I1,rfl,q1⟩
def tIf (t:TT)(ta tb:TE):TE:=fun σ H Q=>t σ H fun c H1=>if c=true then ta σ H1 Q else tb σ H1 Q
theorem oN {c:Expr}(hc:PT X c tA)(ha:PE X a ta)(hb:PE X b tb):PE X (.IfExp c a b pos) (tIf tA ta tb):=by
 intro pins s σ H Q I h
 refine wpAny_IfExp (b8 (hc pins s σ H _ I h) fun d s1 ⟨H1,I1,q1⟩=> ?_)
 cases d with
 | true=>exact ha pins s1 σ H1 Q I1 q1
 | false=>exact hb pins s1 σ H1 Q I1 q1
end
end L2
namespace L2
open PySem PySem.Spec PyProof.Rows
def aT (K:Frag)(H:Hp)(a:Addr)(xs:List V):Prop:=
 Rd H a (.lst xs)∨
  ∃(o:Obj) (its:Array Value) (n:Nat),K.lookup a=some o∧o.cls=.type "list"∧o.dict=none∧o.data=.seq its n∧its.size≤sizeLine∧Vals xs its.toList
def bQ (K:Frag)(H:Hp)(a:Addr)(xs:List V):Prop:=
 Rd H a (.tup xs)∨
  ∃(o:Obj) (its:Array Value) (n:Nat),K.lookup a=some o∧o.cls=.type "tuple"∧o.data=.seq its n∧its.size≤sizeLine∧Vals xs its.toList
def RJ:Value→Option V
 | .none=>some .cb
 | .bool b=>some (.bl b)
 | .int i _=>some (.int i)
 | .str x _=>some (.str x)
 | .bytes b _=>some (.byt b)
 | .float b _=>some (.QL b)
 | .ref a=>some (.ref a)
 | .type n=>some (.ty n)
 | _=>none
theorem RelV.abs {x:V}{u:Value}(r:RelV x u):RJ u=some x:=by
 cases x with
 | cb=>cases r;rfl
 | bl _=>cases r;rfl
 | int _=>obtain ⟨t,rfl⟩:=r;rfl
 | str _=>obtain ⟨t,rfl⟩:=r;rfl
 | byt _=>obtain ⟨t,rfl⟩:=r;rfl
 | QL _=>obtain ⟨t,rfl⟩:=r;rfl
 | ref _=>cases r;rfl
 | ty _=>cases r;rfl
theorem RelV.inj {x y:V}{u:Value}(r:RelV x u)(q:RelV y u):x=y:=aaE (r.abs.symm.trans q.abs)
theorem Vals.inj:∀{xs ys:List V} {us:List Value},Vals xs us→Vals ys us→xs=ys
 | _,_,_,.nil,.nil=>rfl
 | _,_,_,.cons r t,.cons r' t' =>by rw [r.inj r',Vals.inj t t']
section
variable {X:Cx}{pins:List (Addr×Obj)}{σ:St}{H:Hp}{s:Shared}{a:Addr}{xs ys:List V}
theorem aT.of {K:Frag}(h:H a=some (.lst xs)):aT K H a xs:=.inl (.inl h)
theorem bQ.of {K:Frag}(h:H a=some (.tup xs)):bQ K H a xs:=.inl (.inl h)
theorem Inv.list (I:Inv X pins σ H s)(h:aT X.K H a xs):∃its:List Value,Vals xs its∧PlainL s.heap a its.toArray∧xs.length≤sizeLine:=by
 rcases h with h | ⟨o,its,n,hk,hc,hd,hs,hz,r⟩
 ·obtain ⟨z,its,n,r,e⟩:=h.ok I.bK
  exact ⟨its,r,⟨_,n,e,rfl,rfl,rfl⟩,z⟩
 ·refine ⟨its.toList,r,⟨o,n,I.mQ a o hk,hc,hd,by simpa using hs⟩,?_⟩
  have e:=r.length
  simp only [abY] at e
  omega
theorem Inv.tuple (I:Inv X pins σ H s)(h:bQ X.K H a xs):∃its:List Value,Vals xs its∧IsTup s.heap a its.toArray∧xs.length≤sizeLine:=by
 rcases h with h | ⟨o,its,n,hk,hc,hs,hz,r⟩
 ·obtain ⟨z,its,r,p⟩:=h.ok I.bK
  exact ⟨its,r,p,z⟩
 ·refine ⟨its.toList,r,⟨o,I.mQ a o hk,hc,n,by simpa using hs⟩,?_⟩
  have e:=r.length
  simp only [abY] at e
  omega
theorem Inv.fG (I:Inv X pins σ H s)(h:aT X.K H a xs)(h' :aT X.K H a ys):xs=ys:=by
 obtain ⟨its,r,⟨o,n,e,_,_,d⟩,_⟩:=I.list h
 obtain ⟨its',r',⟨o',n',e',_,_,d'⟩,_⟩:=I.list h'
 rw [e] at e';cases e'
 rw [d] at d'
 injection d' with d1 _
 have:its=its' :=by simpa using congrArg ak2 d1
 subst this
 exact r.inj r'
theorem Inv.fY (I:Inv X pins σ H s)(h:bQ X.K H a xs)(h' :bQ X.K H a ys):xs=ys:=by
 obtain ⟨its,r,⟨o,e,_,n,d⟩,_⟩:=I.tuple h
 obtain ⟨its',r',⟨o',e',_,n',d'⟩,_⟩:=I.tuple h'
 rw [e] at e';cases e'
 rw [d] at d'
 injection d' with d1 _
 have:its=its' :=by simpa using congrArg ak2 d1
 subst this
 exact r.inj r'
end
abbrev Cx.lA (X:Cx)(E:Value→Shared→Prop):Cx:={X with xe:=E}
abbrev Cx.so (X:Cx):Cx:=X.lA fun _ _=>False
theorem Cx.Ok.lA {X:Cx}(ok:X.Ok)(E:Value→Shared→Prop):(X.lA E).Ok:=
 ⟨ok.mod,ok.kind,ok.glob,ok.blt,ok.above,ok.inj,ok.has,ok.JI,ok.hd,ok.frames,ok.QN,ok.exf,ok.bs,ok.zg,ok.wo,ok.zh,ok.jx,ok.EI⟩
theorem Cx.Ok.fH {X:Cx}{E:Value→Shared→Prop}(ok:(X.lA E).Ok):X.Ok:=
 ⟨ok.mod,ok.kind,ok.glob,ok.blt,ok.above,ok.inj,ok.has,ok.JI,ok.hd,ok.frames,ok.QN,ok.exf,ok.bs,ok.zg,ok.wo,ok.zh,ok.jx,ok.EI⟩
section
variable {X:Cx}{pins:List (Addr×Obj)}{σ:St}{H:Hp}{s:Shared}{E:Value→Shared→Prop}
theorem Inv.lA (I:Inv X pins σ H s)(E:Value→Shared→Prop):Inv (X.lA E) pins σ H s:=⟨I.ok.lA E,I.os,I.bare,I.base,I.loc,I.cell,I.free,I.fF,I.pin,I.bK,I.len⟩
theorem Inv.fH (I:Inv (X.lA E) pins σ H s):Inv X pins σ H s:=⟨I.ok.fH,I.os,I.bare,I.base,I.loc,I.cell,I.free,I.fF,I.pin,I.bK,I.len⟩
theorem SP.fH {D:Ends}{f:Flow}{s' :Shared}(h:SP (X.lA E) pins D f s'):SP X pins D f s' :=by
 cases f with
 | next=>obtain ⟨σ',H',I,q⟩:=h;exact ⟨σ',H',I.fH,q⟩
 | brk=>obtain ⟨σ',H',I,q⟩:=h;exact ⟨σ',H',I.fH,q⟩
 | cont=>obtain ⟨σ',H',I,q⟩:=h;exact ⟨σ',H',I.fH,q⟩
 | ret u=>obtain ⟨v,σ',H',I,r,q⟩:=h;exact ⟨v,σ',H',I.fH,r,q⟩
theorem PSs.so {st:List Stmt}{t:TS}(h:PSs X.so st t):PSs X st t:=fun pins s σ H D I hw=>
 wpAny_mono (h pins s σ H D (I.lA _) hw) (fun _ _ q=>q.fH) fun _ _ z=>False.elim z
end
section
variable {X:Cx}{st:Stmt}{rest:List Stmt}{t u:TS}{e:Expr}{te:TE}{pos:Pos}
def JM:TS:=fun D σ H=>D.nx σ H
def JN (t u:TS):TS:=fun D σ H=>t {D with nx:=u D} σ H
theorem aY:PSs X [] JM:=fun _ _ σ H _ I h=>wpAny_execs_nil ⟨σ,H,I,h⟩
theorem ae (h1:PS X st t)(h2:PSs X rest u):PSs X (st::rest) (JN t u):=by
 intro pins s σ H D I h
 refine wpAny_execs_cons (b8 (h1 pins s σ H {D with nx:=u D} I h) fun f s1 q=> ?_)
 cases f with
 | next=>
  obtain ⟨σ',H',I',q⟩:=q
  exact h2 pins s1 σ' H' D I' q
 | ret v=>exact q
 | brk=>exact q
 | cont=>exact q
theorem aj (h1:PS X st t):PSs X [st] t:=by
 intro pins s σ H D I h
 refine wpAny_execs_cons (b8 (h1 pins s σ H D I h) fun f s1 q=> ?_)
 cases f with
 | next=>exact wpAny_execs_nil q
 | ret v=>exact q
 | brk=>exact q
 | cont=>exact q
def JO:TS:=fun D σ H=>D.ct σ H
theorem oO:PS X (.Continue pos) JO:=fun _ _ σ H _ I h=>wpAny_Continue ⟨σ,H,I,h⟩
theorem Inv.quiet {pins:List (Addr×Obj)}{σ:St}{H:Hp}{s:Shared}(I:Inv X pins σ H s):interactive X.env=false:=by simp [interactive,I.ok.kind]
def JP (te:TE):TS:=fun D σ H=>te σ H fun _ H1=>D.nx σ H1
theorem bF (he:PE X e te)(hs:swapsWith e none pos.line X.env=pure false:=by rfl):PS X (.Expr e pos) (JP te):=by
 intro pins s σ H D I h
 exact wpAny_Expr_any (b8 (he pins s σ H _ I h) fun v s1 ⟨x,H1,I1,r1,q1⟩=>⟨σ,H1,I1,q1⟩) I.quiet hs
def RK (te:TE):TS:=fun D σ H=>te σ H D.rt
theorem aI (he:PE X e te):PS X (.Return (some e) pos) (RK te):=by
 intro pins s σ H D I h
 exact wpAny_Return_some (b8 (he pins s σ H _ I h) fun v s1 ⟨x,H1,I1,r1,q1⟩=>⟨x,σ,H1,I1,r1,q1⟩)
def RL (c:TT)(t u:TS):TS:=fun D σ H=>c σ H fun b H1=>if b=true then t D σ H1 else u D σ H1
theorem bG {c:Expr}{a b:List Stmt}{tc:TT}(hc:PT X c tc)(ha:PSs X a t)(hb:PSs X b u):PS X (.If c a b pos) (RL tc t u):=by
 intro pins s σ H D I h
 refine wpAny_If (b8 (hc pins s σ H _ I h) fun d s1 ⟨H1,I1,q1⟩=> ?_)
 cases d with
 | true=>exact ha pins s1 σ H1 D I1 q1
 | false=>exact hb pins s1 σ H1 D I1 q1
def EO:TS:=fun _ _ _=>False
theorem cp:PS X st EO:=fun _ _ _ _ _ _ h=>h.elim
end
abbrev TG:=V→St→Hp→(St→Hp→Prop)→Prop
abbrev CA:=List V→St→Hp→(St→Hp→Prop)→Prop
def PG (X:Cx)(target:Expr)(t:TG):Prop:=
 ∀(pins:List (Addr×Obj)) (s:Shared) (σ:St) (H:Hp) (v:V) (u:Value) (Q:St→Hp→Prop),Inv X pins σ H s→RelV v u→t v σ H Q→
  wpAny (model X.prog X.w) X.A (assign target X.env u) (fun _ s' =>∃σ' H',Inv X pins σ' H' s' ∧Q σ' H') X.xe s
def JQ (X:Cx)(ts:List Expr)(t:CA):Prop:=
 ∀(pins:List (Addr×Obj)) (s:Shared) (σ:St) (H:Hp) (vs:List V) (us:List Value) (Q:St→Hp→Prop),Inv X pins σ H s→Vals vs us→t vs σ H Q→
  wpAny (model X.prog X.w) X.A (assignInOrder ((assignEach ts X.env).map (·.2)) us) (fun _ s' =>∃σ' H',Inv X pins σ' H' s' ∧Q σ' H') X.xe s
abbrev ER:=V→V→V→Hp→(Hp→Prop)→Prop
def JR (X:Cx)(t:ER):Prop:=
 ∀(pins:List (Addr×Obj)) (s:Shared) (σ:St) (H:Hp) (o i v:V) (ov iv u:Value) (Q:Hp→Prop),Inv X pins σ H s→RelV o ov→RelV i iv→RelV v u→t o i v H Q→
  wpAny (model X.prog X.w) X.A (setItem ov iv u) (fun _ s' =>∃H',Inv X pins σ H' s' ∧Q H') X.xe s
section
variable {X:Cx}{pos:Pos}
def dk (i:Nat):TG:=fun v σ H Q=>Q (σ.set i (some v)) H
theorem aG {i:Nat}{x:Str}(hN:X.N.Nodup)(hi:X.N[i]? =some x)(hx:Loc X.env.scope x)(hf:X.fn x=true∨X.env.scope.names.lookup x=some .local:=by first | exact .inl rfl | exact .inr rfl | assumption):PG X (.Name x pos) (dk i):=by
 intro pins s σ H v u Q I r h
 exact wpAny_assign_Name (gQ I hN hi hx r (fun s' I' =>⟨_,H,I',h⟩) hf)
def ES:CA:=fun vs σ H Q=>vs=[]∧Q σ H
def oP (t:TG)(u:CA):CA:=fun vs σ H Q=>∃v r,vs=v::r∧t v σ H fun σ' H' =>u r σ' H' Q
theorem c_:JQ X [] ES:=by
 intro pins s σ H vs us Q I r h
 obtain ⟨e,h⟩:=h
 subst e
 cases r
 exact assignInOrder_nil ⟨σ,H,I,h⟩
theorem bg {e:Expr}{es:List Expr}{t:TG}{u:CA}(h1:PG X e t)(h2:JQ X es u)
  (hs:(assignEach (e::es) X.env).map (·.2)=assign e X.env::(assignEach es X.env).map (·.2):=by rfl):JQ X (e::es) (oP t u):=by
 intro pins s σ H vs us Q I r h
 obtain ⟨v,vr,e1,h⟩:=h
 subst e1
 cases r with
 | cons r rr=>
  rw [hs]
  refine assignInOrder_cons (b8 (h1 pins s σ H _ _ _ I r h) fun _ s1 ⟨σ1,H1,I1,q1⟩=> ?_)
  exact h2 pins s1 σ1 H1 _ _ Q I1 rr q1
inductive wC (K:Frag)(n:Nat)(t:CA)(v:V)(σ:St)(H:Hp)(Q:(St→Hp→Prop)):Prop where
 | mk (a xs:_) (_:v=.ref a) (_:bQ K H a xs) (_:xs.length=n) (_:t xs σ H Q):wC K n t v σ H Q
theorem fJ {es:List Expr}{k:Nat}{t:CA}{n:Nat}(hc:X.calm=true)(h:JQ X es t)
  (hn:(assignEach es X.env).length=n:=by rfl) (zi:(assignEach es X.env).findIdx? (·.1)=none:=by rfl):PG X (.Tuple es k pos) (wC X.K n t):=by
 intro pins s σ H v u Q I r hw
 obtain ⟨a,xs,e1,hq,hl,hw⟩:=hw
 subst e1
 cases r
 obtain ⟨its,rv,ht,hz⟩:=I.tuple hq
 refine assign_Tuple_tuple (I.ok.hd hc) ht (by simp [hn, ← hl,rv.length]) zi fun h' hx=> ?_
 have I1:Inv X pins σ H {s with heap:=h' }:=I.kept (t' :=s.toks) fun b o e=>hx b o (aaN (Heap.lt_size e)) e
 exact h pins _ σ H xs _ Q I1 (by simpa using rv) hw
def RM (to ti:TE)(t:ER):TG:=fun v σ H Q=>to σ H fun o H1=>ti σ H1 fun i H2=>t o i v H2 fun H3=>Q σ H3
theorem qL {o i:Expr}{to ti:TE}{t:ER}(ho:PE X o to)(hi:PE X i ti)(hs:JR X t)
  (ha:∀v,assign (.Subscript o i pos) X.env v=(do
   let ov ← holding [v] (eval o X.env)
   let iv ← holding [v,ov] (eval i X.env)
   standAt pos
   holding [v,ov,iv] (setItem ov iv v)
   release [v,ov,iv] []):=by intro _;rfl):PG X (.Subscript o i pos) (RM to ti t):=by
 intro pins s σ H v u Q I r h
 rw [ha]
 refine wpAny_bind (wpAny_holding (b8 (ho pins s σ H _ I h) fun ov s1 ⟨x,H1,I1,r1,q1⟩=> ?_))
 refine wpAny_bind (wpAny_holding (b8 (hi pins s1 σ H1 _ I1 q1) fun iv s2 ⟨y,H2,I2,r2,q2⟩=> ?_))
 refine wpAny_bind (wpAny_standAt (wpAny_bind (wpAny_holding (b8 (hs pins s2 σ H2 x y v ov iv u _ I2 r1 r2 r q2) fun _ s3 ⟨H3,I3,q3⟩=> ?_))))
 exact wpAny_release ⟨σ,H3,I3,q3⟩
def ET (te:TE)(g:TG):TS:=fun D σ H=>te σ H fun x H1=>g x σ H1 D.nx
theorem qM {tg e:Expr}{te:TE}{g:TG}(he:PE X e te)(hg:PG X tg g)(hs:swapsWithSole [tg] e pos.line X.env=pure false:=by rfl)(hw:swappedStores [tg] e X.env=pure none:=by rfl)
  (h1:(assignEach [tg] X.env).map (·.2)=[assign tg X.env]:=by rfl):PS X (.Assign [tg] e pos) (ET te g):=by
 intro pins s σ H D I h
 refine wpAny_Assign_stores (b8 (he pins s σ H _ I h) fun v s1 ⟨x,H1,I1,r1,q1⟩=> ?_) hs hw
 rw [h1]
 exact b8 (hg pins s1 σ H1 x v _ I1 r1 q1) fun _ s2 q=>q
theorem aw {i:Nat}{x:Str}{e:Expr}{te:TE}{pos' :Pos}(hN:X.N.Nodup)(hi:X.N[i]? =some x)(hx:Loc X.env.scope x)(he:PE X e te)(hs:swapsWith e (some (.Name x pos')) pos.line X.env=pure false:=by rfl)(hf:X.fn x=true∨X.env.scope.names.lookup x=some .local:=by first | exact .inl rfl | exact .inr rfl | assumption):
  PS X (.Assign [.Name x pos'] e pos) (ET te (dk i)):=by
 intro pins s σ H D I h
 refine wpAny_Assign_Name (b8 (he pins s σ H _ I h) fun v s1 ⟨y,H1,I1,r1,q1⟩=> ?_) hs
 exact gQ I1 hN hi hx r1 (fun s2 I2=>⟨_,H1,I2,q1⟩) hf
inductive CB (i:Nat)(j:Nat)(D:Ends)(σ:St)(vs:List V)(H1:Hp):Prop where
 | mk (v w:_) (_:vs=[v,w]) (_:D.nx ((σ.set i (some v)).set j (some w)) H1):CB i j D σ vs H1
def RO (i j:Nat)(ta:TA):TS:=fun D σ H=>ta σ H fun vs H1=>CB i j D σ vs H1
theorem EU {i j:Nat}{x y:Str}{a b:Expr}{ta:TA}{px py pt:Pos}{kt k2 RP}(hc:X.calm=true)(hN:X.N.Nodup)(hi:X.N[i]? =some x)(hj:X.N[j]? =some y)(hij:i≠j)
  (hx:X.env.scope.names.lookup x=some .local) (hy:X.env.scope.names.lookup y=some .local) (ha:PA X [a,b] ta)
  (hw:swappedStores [.Tuple [.Name x px,.Name y py] kt pt] (.Tuple [a,b] k2 RP) X.env=pure (some [x,y]))
  (hs:swapsWithSole [.Tuple [.Name x px,.Name y py] kt pt] (.Tuple [a,b] k2 RP) pos.line X.env=pure false:=by rfl):
  PS X (.Assign [.Tuple [.Name x px,.Name y py] kt pt] (.Tuple [a,b] k2 RP) pos) (RO i j ta):=by
 intro pins s σ H D I h
 rw [exec_Assign_arm]
 refine wpAny_bind (wpAny_standAt ?_)
 rw [hs]
 refine wpAny_bind (wpAny_pure ?_)
 rw [if_neg (by decide)]
 refine wpAny_bind (Tuple_ (b8 (ha _ pins s σ H _ I h) fun us s1 ⟨vs,H1,I1,r1,q1⟩=> ?_))
 obtain ⟨v,w,e1,q1⟩:=q1
 subst e1
 obtain ⟨u1,u2,rfl,rv,oI⟩:∃u1 u2,us=[u1,u2]∧RelV v u1∧RelV w u2:=by
  cases r1 with
  | cons p q=>
   cases q with
   | cons p' q' =>
    cases q'
    exact ⟨_,_,rfl,p,p'⟩
 refine wpAny_newObj_type ?_ (by show 2≤sizeLine;decide)
 have I2:Inv X pins σ H1 {s1 with heap:=s1.heap.push {cls:=.type "tuple",data:=.seq [u1,u2].toArray}}:=I1.kept (t' :=s1.toks) fun b o e=>Heap.get?_push_of_some _ e
 rw [hw]
 refine wpAny_bind (wpAny_pure ?_)
 show wpAny (model X.prog X.w) X.A (do rule "assign.swapped-stores";let items ← unpackItems (.ref s1.heap.objs.size) 2 none;assignInOrder [fun v=>bindName X.env y v,fun v=>bindName X.env x v] items.reverse;pure Flow.next) _ _ _
 refine wpAny_bind (wpAny_rule (wpAny_bind (unpackItems_tuple (items:= #[u1,u2]) (I.ok.hd hc) (IsTup.new s1.heap _) fun h' yX => ?_)))
 have I3:=I2.kept (h' :=h') (t' :=s1.toks) fun b o e=>yX b o (aaN (Heap.lt_size e)) e
 show wpAny _ _ (assignInOrder [fun v=>bindName X.env y v,fun v=>bindName X.env x v] [u2,u1] >>=fun _=>pure Flow.next) _ _ _
 refine wpAny_bind (assignInOrder_cons (wpAny_bindName (gQ I3 hN hj (.inl hy) oI (fun s2 I4=> ?_) (.inr hy))))
 refine assignInOrder_cons (wpAny_bindName (gQ I4 hN hi (.inl hx) rv (fun s3 I5=>assignInOrder_nil (wpAny_pure ?_)) (.inr hx)))
 rw [List.set_comm _ _ (aaU hij)] at I5
 exact ⟨_,H1,I5,q1⟩
end
section
variable {X:Cx}{pos:Pos}
def wD (c:TT)(tb:TS):TS:=fun D σ H=>∃W:Nat→St→Hp→Prop,(∃m,W m σ H)∧∀m σ H,W m σ H→
 c σ H fun b H1=>if b=true then ∃N:St→Hp→Prop,(∀σ' H',N σ' H' →∃m',m' < m∧W m' σ' H')∧tb {D with nx:=N,ct:=N,bk:=D.nx} σ H1 else D.nx σ H1
theorem jT {c:Expr}{body:List Stmt}{tc:TT}{tb:TS}(hp:PassesOwn (model X.prog X.w) X.A X.env X.xe)(hc:PT X c tc)(hb:PSs X body tb):PS X (.While c body [] pos) (wD tc tb):=by
 intro pins s σ H D I h
 obtain ⟨W,⟨m0,w0⟩,turn⟩:=h
 refine wpAny_While (codeAny_whileLoop (fun n s' =>∃σ' H',Inv X pins σ' H' s' ∧W n σ' H') ?_ m0 ⟨σ,H,I,w0⟩)
 rintro n s1 ⟨σ1,H1,I1,w1⟩
 refine wpAny_passesOwn hp (b8 (hc pins s1 σ1 H1 _ I1 (turn n σ1 H1 w1)) fun b s2 ⟨H2,I2,q2⟩=> ?_)
 cases b with
 | true=>
  obtain ⟨N,hN,q2⟩:=q2
  rw [if_pos rfl]
  refine wpAny_passesOwn hp (b8 (hb pins s2 σ1 H2 _ I2 q2) fun f s3 q3=> ?_)
  cases f with
  | next=>
   obtain ⟨σ3,H3,I3,n3⟩:=q3
   obtain ⟨m',hm,w3⟩:=hN σ3 H3 n3
   exact ⟨m',hm,σ3,H3,I3,w3⟩
  | cont=>
   obtain ⟨σ3,H3,I3,n3⟩:=q3
   obtain ⟨m',hm,w3⟩:=hN σ3 H3 n3
   exact ⟨m',hm,σ3,H3,I3,w3⟩
  | brk=>exact q3
  | ret v=>exact q3
 | false=>
  rw [if_neg aay]
  exact wpAny_execs_nil ⟨σ1,H2,I2,q2⟩
end
structure It where
 go:Nat→Hp→Prop
 wG:Nat→Hp→V→Hp→Prop
 stop:Nat→Hp→Prop
def iK (X:Cx)(pins:List (Addr×Obj))(H:Hp)(b:Addr):Prop:=
 H b=none∧b≠X.env.locals∧b∉X.fs∧(b∈X.ex∨X.s₀.heap.objs.size≤b)∧(∀x c,X.env.cells.lookup x=some c→c≠b)∧∀p∈X.pn++pins,p.1≠b
theorem Inv.mS {X:Cx}{pins:List (Addr×Obj)}{σ:St}{H H' :Hp}{s:Shared}{b:Addr}(I:Inv X pins σ H s)(hb:s.heap.objs.size≤b)(hn:H' b=none):iK X pins H' b:=by
 refine ⟨hn,abZ (aaC I.lt hb),I.RA hb,.inr (aak I.sz hb),fun x c e z=> ?_,fun p hp z=> ?_⟩
 ·obtain ⟨v,q⟩:=I.cell x c e
  exact absurd (aaC q.lt (by rw [z];exact hb)) (abd _)
 ·exact absurd (aaC (Heap.lt_size (I.pin p hp).1) (by rw [z];exact hb)) (abd _)
structure Turn (P:Program)(w:World)(K:Frag)(tg:Expr)(J:It)(fp:List Addr)(it:Addr)(tn:Nat→Heap→Prop):Prop where
 mem:it∈fp
 obj:∀i h,tn i h→∀b∈fp,∃o,h.get? b=some o∧∀v,o.data≠.cell v
 keep:∀i h h',tn i h→(∀b∈fp,∀o,h.get? b=some o→h'.get? b=some o)→tn i h'
 item:∀(X:Cx),X.prog=P→X.w=w→X.K=K→X.calm=true→∀(i:Nat) (pins:List (Addr×Obj)) (s:Shared) (σ:St) (H:Hp) (E:Value→Shared→Prop),Inv X pins σ H s→(∀b∈fp,iK X pins H b)→tn i s.heap→J.go i H→
  wpAny (model P w) X.A (pyNext (.ref it)) (fun r s1=>∃u,r=some u∧
   wpAny (model P w) X.A (letOwnedTupleGo tg (.ref it) u) (fun _ s2=>∃x H',Inv X pins σ H' s2∧RelV x u∧J.wG i H x H' ∧tn (i+1) s2.heap∧∀b∈fp,H' b=none) E s1) E s
 done:∀(X:Cx),X.prog=P→X.w=w→X.K=K→X.calm=true→∀(i:Nat) (pins:List (Addr×Obj)) (s:Shared) (σ:St) (H:Hp) (E:Value→Shared→Prop),Inv X pins σ H s→(∀b∈fp,iK X pins H b)→tn i s.heap→J.stop i H→
  wpAny (model P w) X.A (pyNext (.ref it)) (fun r s1=>r=none∧Inv X pins σ H s1) E s
 self:∀(A:Around) (i:Nat) (s:Shared) (Q:Value→Shared→Prop) (E:Value→Shared→Prop),tn i s.heap→Q (.ref it) s→wpAny (model P w) A (pyIter (.ref it)) Q E s
abbrev TI:=St→Hp→(It→Hp→Prop)→Prop
def PIE (X:Cx)(pins:List (Addr×Obj))(σ:St)(tg:Expr)(R:It→Hp→Prop)(QQ:Value)(s2:Shared):Prop:=
 ∃(it:Addr) (fp:List Addr) (tn:Nat→Heap→Prop) (J:It) (H' :Hp),QQ=.ref it∧Inv X pins σ H' s2∧Turn X.prog X.w X.K tg J fp it tn∧tn 0 s2.heap∧(∀b∈fp,iK X pins H' b)∧R J H'
def PI (X:Cx)(tg iter:Expr)(wi:TI):Prop:=
 ∀(pins:List (Addr×Obj)) (s:Shared) (σ:St) (H:Hp) (R:It→Hp→Prop),Inv X pins σ H s→wi σ H R→
  wpAny (model X.prog X.w) X.A (eval iter X.env) (fun v s1=>wpAny (model X.prog X.w) X.A (pyIter v) (PIE X pins σ tg R) X.xe s1) X.xe s
theorem wH {M : Model} {A : Around} {E : Value → Shared → Prop} {s : Shared} {tg : Expr} {it : Addr} {u : Value} {o : Obj} {n : String} {vs : Array Value} {Q : Unit → Shared → Prop} (ho : s.heap.get? it = some o) (hc : o.cls = .type n) (hd : o.data = .fields vs)
    (hn : ["enumerate", "zip", "dict_itemiterator", "dict_reverseitemiterator", "odict_iterator", "itertools.zip_longest", "itertools.pairwise"].contains n = false) (hQ : Q () s) : wpAny M A (letOwnedTupleGo tg (.ref it) u) Q E s := by
  unfold letOwnedTupleGo
  cases tg <;> first
    | exact wpAny_pure hQ
    | (cases u <;> first
        | exact wpAny_pure hQ
        | (refine wpAny_bind (wpAny_load ho ?_)
           rw [hc, hd]
           show wpAny M A (if (["enumerate", "zip", "dict_itemiterator", "dict_reverseitemiterator", "odict_iterator", "itertools.zip_longest", "itertools.pairwise"].contains n && vs[0]? == some (rawInt _)) = true then _ else _) Q E s
           rw [if_neg (by intro h; rw [hn, Bool.false_and] at h; cases h)]
           exact wpAny_pure hQ))
def CC (K:Frag)(a:Addr):It:=
 ⟨fun i H=>∃xs x,aT K H a xs∧xs[i]? =some x,fun i H x H' =>H' =H∧∀xs,aT K H a xs→xs[i]? =some x,fun i H=>∃xs,aT K H a xs∧xs.length≤i⟩
def EV (lo:Int)(n:Nat):It:=⟨fun i _=>i < n,fun i H x H' =>H' =H∧x=.int (lo+i),fun i _=>n≤i⟩
theorem t7 {P:Program}{w:World}{K:Frag}{tg:Expr}(a it:Addr):Turn P w K tg (CC K a) [it] it (fun i h=>h.IsListIter it a i) where
 mem:=by simp
 obj:=fun i h st b hb=>by
  have e:b=it:=by simpa using hb
  subst e
  obtain ⟨o,e,c,d⟩:=st
  exact ⟨o,e,fun v z=>by rw [d] at z;cases z⟩
 keep:=fun i h h' st k=>st.at fun o e=>k it (by simp) o e
 item:=by
  intro X hP hw hK hc i pins s σ H E I hf st hg
  subst hP hw hK
  obtain ⟨xs,x,hq,hx⟩:=hg
  obtain ⟨its,rv,p,hz⟩:=I.list hq
  obtain ⟨u,hu,ru⟩:=rv.get hx
  obtain ⟨f0,f1,f2,f3,f4,f5⟩:=hf it (by simp)
  refine wpAny_pyNext_list_item st p.isList (x:=u) (by simpa using hu) fun h' wI sb=> ?_
  have I1:Inv X pins σ H {s with heap:=h' }:=I.turned (t' :=s.toks) (fun b o hb e=>(sb.2 b hb).trans e) f0 f1 f3 f4 f5
  obtain ⟨o,e,c,d⟩:=id wI
  exact ⟨u,rfl,wH (s:={s with heap:=h' }) e c d (by decide) ⟨x,H,I1,ru,⟨rfl,fun ys hy=>by rw [I.fG hy hq];exact hx⟩,wI,fun b hb=>(hf b hb).1⟩⟩
 done:=by
  intro X hP hw hK hc i pins s σ H E I hf st hg
  subst hP hw hK
  obtain ⟨xs,hq,hx⟩:=hg
  obtain ⟨its,rv,p,hz⟩:=I.list hq
  obtain ⟨f0,f1,f2,f3,f4,f5⟩:=hf it (by simp)
  have hl:=rv.length
  exact wpAny_pyNext_list_end (I.ok.hd hc) st p.isList (by simp;omega) fun h' eb=>⟨rfl,I.turned (t' :=s.toks) (fun b o hb e=>eb b o hb e) f0 f1 f3 f4 f5⟩
 self:=fun _ _ _ _ _ st h=>wpAny_pyIter_listiter st h
theorem qN {P:Program}{w:World}{K:Frag}{tg:Expr}(it:Addr)(lo:Int)(n:Nat):Turn P w K tg (EV lo n) [it] it (fun i h=>IsRangeIter h it (lo+(i:Nat)*1) ((n:Int) - (i:Nat)) 1) where
 mem:=by simp
 obj:=fun i h st b hb=>by
  have e:b=it:=by simpa using hb
  subst e
  exact ⟨_,st,fun v z=>by
   have z' :Data.fields _=Data.cell v:=z
   cases z'⟩
 keep:=fun i h h' st k=>k it (by simp) _ st
 item:=by
  intro X hP hw hK hc i pins s σ H E I hf st hg
  subst hP hw hK
  obtain ⟨f0,f1,f2,f3,f4,f5⟩:=hf it (by simp)
  have W:=Walks.range (prog:=X.prog) (w:=X.w) (I.ok.hd hc) it lo 1 n
  refine W.item i s _ _ hg st fun v h' tk hv wI kk=> ?_
  obtain ⟨t,rfl⟩:=hv
  have I1:Inv X pins σ H {s with heap:=h',toks:=tk}:=I.turned (fun b o hb e=>kk b o (by simpa using hb) e) f0 f1 f3 f4 f5
  refine ⟨_,rfl,wH (s:={s with heap:=h',toks:=tk}) (n:="range_iterator") wI rfl rfl (by decide) ⟨.int (lo+i),H,I1,⟨t,?_⟩,⟨rfl,rfl⟩,wI,fun b hb=>(hf b hb).1⟩⟩
  rw [Int.mul_one]
 done:=by
  intro X hP hw hK hc i pins s σ H E I hf st hg
  subst hP hw hK
  obtain ⟨f0,f1,f2,f3,f4,f5⟩:=hf it (by simp)
  exact wpAny_pyNext_range_end (I.ok.hd hc) st (by have:n≤i:=hg;omega) fun h' eb=>⟨rfl,I.turned (t' :=s.toks) (fun b o hb e=>eb b o hb e) f0 f1 f3 f4 f5⟩
 self:=fun _ _ _ _ _ st h=>wpAny_pyIter_rangeiter st h
end L2
namespace L2
open PySem PySem.Spec PyProof.Rows
section
variable {X:Cx}{tg:Expr}
inductive wJ (K:Frag)(R:(It→Hp→Prop))(x:V)(H1:Hp):Prop where
 | mk (a:_) (_:x=.ref a) (_:(∃xs,aT K H1 a xs)) (_:R (CC K a) H1):wJ K R x H1
def JS (K:Frag)(tl:TE):TI:=fun σ H R=>tl σ H fun x H1=>wJ K R x H1
theorem bN {l:Expr}{tl:TE}(hl:PE X l tl):PI X tg l (JS X.K tl):=by
 intro pins s σ H R I h
 refine b8 (hl pins s σ H _ I h) fun v s1 ⟨x,H1,I1,r1,q1⟩=> ?_
 obtain ⟨a,e,⟨xs,hq⟩,q⟩:=q1
 subst e
 cases r1
 obtain ⟨its,rv,p,hz⟩:=I1.list hq
 refine wpAny_pyIter_list p.isList ?_
 refine ⟨s1.heap.objs.size,[s1.heap.objs.size],_,_,H1,rfl,I1.kept (t' :=s1.toks) fun b o e=>Heap.get?_push_of_some _ e,t7 a _,⟨_,Heap.get?_push_size _ rfl,rfl,rfl⟩,fun b hb=> ?_,q⟩
 have e:b=s1.heap.objs.size:=by simpa using hb
 subst e
 exact I1.mS (aao _) (I1.bK.fresh (aao _))
theorem wK {pins:List (Addr×Obj)}{σ:St}{H:Hp}{s:Shared}{R:It→Hp→Prop}{E:Value→Shared→Prop}{lo hi:Int}{t u v:Tok}{tk:Nat}(I:Inv X pins σ H s)(h1: -(2^62)≤lo)(h2:lo < 2^62)(h3: -(2^62)≤hi)(h4:hi < 2^62)
  (q:R (EV lo (hi - lo).toNat) H):wpAny (model X.prog X.w) X.A (pyIter (.ref s.heap.objs.size)) (PIE X pins σ tg R) E {s with heap:=s.heap.push {cls:=.type "range",data:=.fields #[.int lo t,.int hi u,.int 1 v]},toks:=tk}:=by
 refine wpAny_pyIter_range (IsRange.new ..) (small_one h1 h2 h3 h4) ?_
 have I1:Inv X pins σ H {s with heap:=s.heap.push {cls:=.type "range",data:=.fields #[.int lo t,.int hi u,.int 1 v]},toks:=tk}:=I.kept fun b o e=>Heap.get?_push_of_some _ e
 refine ⟨(s.heap.push {cls:=.type "range",data:=.fields #[.int lo t,.int hi u,.int 1 v]}).objs.size,[(s.heap.push {cls:=.type "range",data:=.fields #[.int lo t,.int hi u,.int 1 v]}).objs.size],_,_,H,rfl,
  I1.kept (t' :=tk) fun b o e=>Heap.get?_push_of_some _ e,qN _ lo (hi - lo).toNat,?_,fun b hb=> ?_,q⟩
 ·have e1:lo+((0:Nat):Int)*1=lo:=by simp
  have e2:(((hi - lo).toNat:Nat):Int) - ((0:Nat):Int)=Builtin.Range.rangeSize lo hi 1:=by rw [rangeSize_one];split <;> omega
  show IsRangeIter _ _ (lo+((0:Nat):Int)*1) ((((hi - lo).toNat:Nat):Int) - ((0:Nat):Int)) 1
  rw [e1,e2]
  exact Heap.get?_push_size _ rfl
 ·have e:b=(s.heap.push {cls:=.type "range",data:=.fields #[.int lo t,.int hi u,.int 1 v]}).objs.size:=by simpa using hb
  subst e
  exact I1.mS (aao _) (I1.bK.fresh (aao _))
inductive wL (R:(It→Hp→Prop))(vs:List V)(H1:Hp):Prop where
 | mk (j:Int) (_:vs=[.int j]) (_: -(2^62)≤j) (_:j < 2^62) (_:R (EV 0 j.toNat) H1):wL R vs H1
def JT (ta:TA):TI:=fun σ H R=>ta σ H fun vs H1=>wL R vs H1
theorem bu {a:Expr}{ta:TA}{p pos:Pos}(hg:Gl X "range")(hm:X.mg "range"=none)(ha:PA X [a] ta)(hs:starEach [a] X.env=[(false,eval a X.env)]:=by rfl):PI X tg (.Call (.Name "range" p) [a] [] pos) (JT ta):=by
 intro pins s σ H R I h
 refine Call_ (gu I hg hm boot_range (PyProof.Rows.callWith_type1 (b8 (ha pos pins s σ H _ I h) fun us s1 ⟨vs,H1,I1,r1,q1⟩=> ?_) hs rfl))
 obtain ⟨j,e,q1,q2,q⟩:=q1
 subst e
 cases r1 with
 | cons r rr=>
  cases rr
  obtain ⟨t,rfl⟩:=r
  exact call_range_1 (wK I1 (by omega) (by omega) q1 q2 (by simpa using q))
def RQ (wi:TI)(g:TG)(tb:TS):TS:=fun D σ H=>wi σ H fun J H1=>∃W:Nat→Nat→St→Hp→Prop,(∃m,W 0 m σ H1)∧∀i m σ H,W i m σ H→
 (J.stop i H∧D.nx σ H)∨(J.go i H∧∃N:St→Hp→Prop,(∀σ' H',N σ' H' →∃m',m' < m∧W (i+1) m' σ' H')∧∀x H',J.wG i H x H' →g x σ H' fun σ2 H2=>tb {D with nx:=N,ct:=N,bk:=D.nx} σ2 H2)
def jU (fp:List Addr)(h:Heap):List (Addr×Obj):=fp.filterMap fun b=>(h.get? b).map fun o=>(b,o)
theorem e_ {fp:List Addr}{h:Heap}{b:Addr}{o:Obj}(hb:b∈fp)(e:h.get? b=some o):(b,o)∈jU fp h:=ab1.mpr ⟨b,hb,by rw [e];rfl⟩
theorem t_ {fp:List Addr}{h:Heap}{p:Addr×Obj}(hp:p∈jU fp h):p.1∈fp∧h.get? p.1=some p.2:=by
 obtain ⟨b,hb,e⟩:=ab1.mp hp
 cases q:h.get? b with
 | none=>rw [q] at e;cases e
 | some o=>
  rw [q] at e
  have e' :(b,o)=p:=aaE e
  subst e'
  exact ⟨hb,q⟩
theorem Inv.pinned {pins:List (Addr×Obj)}{σ:St}{H:Hp}{s:Shared}{fp:List Addr}(I:Inv X pins σ H s)(hf:∀b∈fp,iK X pins H b)(ho:∀b∈fp,∃o,s.heap.get? b=some o∧∀v,o.data≠.cell v):Inv X (pins++jU fp s.heap) σ H s:=
 I.sj fun p hp=>(aaH.mp hp).elim (fun z=>I.pin p (aaM _ z)) fun z=>by
  obtain ⟨hb,e⟩:=t_ z
  obtain ⟨f0,f1,f2,_⟩:=hf p.1 hb
  obtain ⟨o,e',d⟩:=ho p.1 hb
  rw [e] at e';cases e'
  exact ⟨e,f0,f1,f2,d⟩
theorem Inv.fK {pins pl:List (Addr×Obj)}{σ:St}{H:Hp}{s:Shared}(I:Inv X (pins++pl) σ H s):Inv X pins σ H s:=I.sj fun p hp=>I.pin p (aaM _ (abi _ hp))
theorem bo {iter:Expr}{body:List Stmt}{wi:TI}{g:TG}{tb:TS}{pos:Pos}(hp:PassesOwn (model X.prog X.w) X.A X.env X.xe)(hc:X.calm=true)(hi:PI X tg iter wi)(hg:PG X tg g)(hb:PSs X body tb)
  (hs:∀x,foldedSetIterable iter X.env x=pure x:=by intro _;rfl):PS X (.For tg iter body [] pos) (RQ wi g tb):=by
 intro pins s σ H D I h
 refine wpAny_For (b8 (hi pins s σ H _ I h) fun v s1 h1=>b8 h1 fun QQ s2 h2=> ?_) hs
 obtain ⟨it,fp,tn,J,H2,e,I2,T,CD,f2,W,⟨m0,w0⟩,turn⟩:=h2
 subst e
 have stat:∀{H' :Hp},(∀b∈fp,H' b=none)→∀b∈fp,iK X pins H' b:=fun hn b hb=>⟨hn b hb,(f2 b hb).2⟩
 refine codeAny_forLoop_any (fun n s' =>∃i σ' H',Inv X pins σ' H' s' ∧tn i s'.heap∧(∀b∈fp,H' b=none)∧W i n σ' H') ?_ m0 ⟨0,σ,H2,I2,CD,fun b hb=>(f2 b hb).1,w0⟩
 rintro n s3 ⟨i,σ3,H3,I3,JU,JV,w3⟩
 rcases turn i n σ3 H3 w3 with ⟨stop,qn⟩ | ⟨go,N,hN,step⟩
 ·refine wpAny_passesOwn hp (b8 (T.done X rfl rfl rfl hc i pins s3 σ3 H3 X.xe I3 (stat JV) JU stop) fun r s4 ⟨hr,I4⟩=> ?_)
  subst hr
  exact wpAny_execs_nil ⟨σ3,H3,I4,qn⟩
 ·refine wpAny_passesOwn hp (b8 (T.item X rfl rfl rfl hc i pins s3 σ3 H3 X.xe I3 (stat JV) JU go) fun r s4 ⟨u,hr,h4⟩=> ?_)
  subst hr
  refine wpAny_passesOwn hp (b8 h4 fun _ s5 ⟨x,H5,I5,r5,y5,Jf,QR⟩=> ?_)
  have I5' :=I5.pinned (stat QR) (T.obj _ _ Jf)
  refine wpAny_passesOwn hp (b8 (hg _ s5 σ3 H5 x u _ I5' r5 (step x H5 y5)) fun _ s6 ⟨σ6,H6,I6,q6⟩=> ?_)
  refine wpAny_passesOwn hp (b8 (hb _ s6 σ6 H6 _ I6 q6) fun f s7 q7=> ?_)
  have again:∀{σ7:St} {H7:Hp},Inv X (pins++jU fp s5.heap) σ7 H7 s7→N σ7 H7→∃m,m < n∧∃i σ' H',Inv X pins σ' H' s7∧tn i s7.heap∧(∀b∈fp,H' b=none)∧W i m σ' H' :=fun {σ7 H7} I7 n7=>by
   obtain ⟨m',hm,w7⟩:=hN σ7 H7 n7
   refine ⟨m',hm,i+1,σ7,H7,I7.fK,T.keep _ _ _ Jf fun b hb o e=>(I7.pin (b,o) (aaM _ (aaM _ (e_ hb e)))).1,fun b hb=> ?_,w7⟩
   obtain ⟨o,e,d⟩:=T.obj _ _ Jf b hb
   exact (I7.pin (b,o) (aaM _ (aaM _ (e_ hb e)))).2.1
  cases f with
  | next=>obtain ⟨σ7,H7,I7,n7⟩:=q7;exact again I7 n7
  | cont=>obtain ⟨σ7,H7,I7,n7⟩:=q7;exact again I7 n7
  | brk=>obtain ⟨σ7,H7,I7,q7⟩:=q7;exact ⟨σ7,H7,I7.fK,q7⟩
  | ret v=>obtain ⟨x7,σ7,H7,I7,r7,q7⟩:=q7;exact ⟨x7,σ7,H7,I7.fK,r7,q7⟩
end
theorem cC {K:Frag}{a:Addr}{xs:List V}{g:TG}{tb:TS}{D:Ends}{σ:St}{H:Hp}(Pv:Nat→St→Hp→Prop)(h0:Pv 0 σ H)(hl:∀i σ H,i≤xs.length→Pv i σ H→aT K H a xs)
  (hs:∀i x σ H,xs[i]? =some x→Pv i σ H→g x σ H fun σ2 H2=>tb {D with nx:=Pv (i+1),ct:=Pv (i+1),bk:=D.nx} σ2 H2) (hd:∀σ H,Pv xs.length σ H→D.nx σ H):
  ∃W:Nat→Nat→St→Hp→Prop,(∃m,W 0 m σ H)∧∀i m σ H,W i m σ H→
   ((CC K a).stop i H∧D.nx σ H)∨((CC K a).go i H∧∃N:St→Hp→Prop,(∀σ' H',N σ' H' →∃m',m' < m∧W (i+1) m' σ' H')∧∀x H',(CC K a).wG i H x H' →g x σ H' fun σ2 H2=>tb {D with nx:=N,ct:=N,bk:=D.nx} σ2 H2):=by
 refine ⟨fun i m σ H=>m=xs.length - i∧i≤xs.length∧Pv i σ H,⟨xs.length,by simp,aa4 _,h0⟩,?_⟩
 rintro i m σ H ⟨rfl,hi,p⟩
 have q:=hl i σ H hi p
 by_cases jV:i < xs.length
 ·refine .inr ⟨⟨xs,xs[i],q,by simp [jV]⟩,Pv (i+1),fun σ' H' p' =>⟨xs.length - (i+1),by omega,rfl,jV,p'⟩,fun x H' y=> ?_⟩
  obtain ⟨e,y⟩:=y
  subst e
  exact hs i x σ _ (y xs q) p
 ·have e:i=xs.length:=by omega
  subst e
  exact .inl ⟨⟨xs,q,aao _⟩,hd σ H p⟩
theorem bz {lo:Int}{n:Nat}{g:TG}{tb:TS}{D:Ends}{σ:St}{H:Hp}(Pv:Nat→St→Hp→Prop)(h0:Pv 0 σ H)
  (hs:∀i σ H,i < n→Pv i σ H→g (.int (lo+i)) σ H fun σ2 H2=>tb {D with nx:=Pv (i+1),ct:=Pv (i+1),bk:=D.nx} σ2 H2) (hd:∀σ H,Pv n σ H→D.nx σ H):
  ∃W:Nat→Nat→St→Hp→Prop,(∃m,W 0 m σ H)∧∀i m σ H,W i m σ H→
   ((EV lo n).stop i H∧D.nx σ H)∨((EV lo n).go i H∧∃N:St→Hp→Prop,(∀σ' H',N σ' H' →∃m',m' < m∧W (i+1) m' σ' H')∧∀x H',(EV lo n).wG i H x H' →g x σ H' fun σ2 H2=>tb {D with nx:=N,ct:=N,bk:=D.nx} σ2 H2):=by
 refine ⟨fun i m σ H=>m=n - i∧i≤n∧Pv i σ H,⟨n,by simp,aa4 _,h0⟩,?_⟩
 rintro i m σ H ⟨rfl,hi,p⟩
 by_cases jV:i < n
 ·refine .inr ⟨jV,Pv (i+1),fun σ' H' p' =>⟨n - (i+1),by omega,rfl,jV,p'⟩,fun x H' y=> ?_⟩
  obtain ⟨e,y⟩:=y
  subst e y
  exact hs i σ _ jV p
 ·have e:i=n:=by omega
  subst e
  exact .inl ⟨aao _,hd σ H p⟩
theorem oQ {c:TT}{tb:TS}{D:Ends}{σ:St}{H:Hp}(Pv:St→Hp→Prop)(μ:St→Hp→Nat)(h0:Pv σ H)
  (hs:∀σ H,Pv σ H→c σ H fun b H1=>if b=true then tb {D with nx:=fun σ' H' =>Pv σ' H' ∧μ σ' H' < μ σ H,ct:=fun σ' H' =>Pv σ' H' ∧μ σ' H' < μ σ H,bk:=D.nx} σ H1 else D.nx σ H1)
  (mono:∀σ H Q Q',(∀b H1,Q b H1→Q' b H1)→c σ H Q→c σ H Q'):wD c tb D σ H:=by
 refine ⟨fun m σ H=>m=μ σ H∧Pv σ H,⟨_,rfl,h0⟩,?_⟩
 rintro m σ H ⟨rfl,p⟩
 refine mono σ H _ _ (fun b H1 q=> ?_) (hs σ H p)
 cases b with
 | true=>exact ⟨_,fun σ' H' ⟨p',l⟩=>⟨_,l,rfl,p'⟩,q⟩
 | false=>exact q
end L2
namespace L2
open PySem PySem.Spec PyProof.Rows
abbrev R2:=V→V→Hp→VK→Prop
def iI (X:Cx)(f:Value→Value→Sem Value)(r:R2):Prop:=
 ∀(pins:List (Addr×Obj)) (s:Shared) (σ:St) (H:Hp) (x y:V) (v u:Value) (Q:VK),Inv X pins σ H s→RelV x v→RelV y u→r x y H Q→
  wpAny (model X.prog X.w) X.A (f v u) (EP X pins σ Q) X.xe s
def RS (X:Cx)(f:Value→Sem Value)(r:V→Hp→VK→Prop):Prop:=
 ∀(pins:List (Addr×Obj)) (s:Shared) (σ:St) (H:Hp) (x:V) (v:Value) (Q:VK),Inv X pins σ H s→RelV x v→r x H Q→
  wpAny (model X.prog X.w) X.A (f v) (EP X pins σ Q) X.xe s
def gj (X:Cx)(f:Value)(r:List V→Hp→VK→Prop):Prop:=
 ∀(pins:List (Addr×Obj)) (s:Shared) (σ:St) (H:Hp) (xs:List V) (us:List Value) (Q:VK),Inv X pins σ H s→Vals xs us→r xs H Q→
  wpAny (model X.prog X.w) X.A (call f us) (EP X pins σ Q) X.xe s
def Jg (r:R2)(ta tb:TE):TE:=fun σ H Q=>ta σ H fun x H1=>tb σ H1 fun y H2=>r x y H2 Q
def tUn (r:V→Hp→VK→Prop)(ta:TE):TE:=fun σ H Q=>ta σ H fun x H1=>r x H1 Q
inductive rI (C:Int→Int→Prop)(g:Int→Int→V)(x:V)(y:V)(H:Hp)(Q:VK):Prop where
 | mk (i j:_) (_:x=.int i) (_:y=.int j) (_:C i j) (_:Q (g i j) H):rI C g x y H Q
inductive CG (g:Int→Int→V)(x:V)(y:V)(H:Hp)(Q:VK):Prop where
 | mk (i j:_) (_:x=.int i) (_:y=.int j) (_:Q (g i j) H):CG g x y H Q
inductive rU (g:Int→V)(x:V)(H:Hp)(Q:VK):Prop where
 | mk (i:_) (_:x=.int i) (_:Q (g i) H):rU g x H Q
section
variable {X:Cx}{a b c:Expr}{ta tb tc:TE}{pos:Pos}
theorem EW (ha:PE X a ta)(hb:PE X b tb){pins:List (Addr×Obj)}{s:Shared}{σ:St}{H:Hp}{R:V→V→Hp→Prop}(I:Inv X pins σ H s)
  (h:ta σ H fun x H1=>tb σ H1 fun y H2=>R x y H2) {Q:Value→Shared→Prop} {f:Value→Value→Sem Value}
  (hf:∀v u s2 x y H2,Inv X pins σ H2 s2→RelV x v→RelV y u→R x y H2→wpAny (model X.prog X.w) X.A (f v u) Q X.xe s2):
  wpAny (model X.prog X.w) X.A (eval a X.env) (fun v s₁=>wpAny (model X.prog X.w) X.A (eval b X.env) (fun u s₂=>wpAny (model X.prog X.w) X.A (f v u) Q X.xe s₂) X.xe s₁) X.xe s:=by
 refine b8 (ha pins s σ H _ I h) fun v s1 ⟨x,H1,I1,r1,q1⟩=> ?_
 refine b8 (hb pins s1 σ H1 _ I1 q1) fun u s2 ⟨y,H2,I2,r2,q2⟩=> ?_
 exact hf v u s2 x y H2 I2 r1 r2 q2
theorem aH {op:Operator}{r:R2}(ho:iI X (binaryOp op) r)(ha:PE X a ta)(hb:PE X b tb):PE X (.BinOp a op b pos) (Jg r ta tb):=by
 intro pins s σ H Q I h
 exact wpAny_BinOp (EW ha hb I h fun v u s2 x y H2 I2 rx ry q=>ho pins s2 σ H2 x y v u Q I2 rx ry q)
theorem wM {op:UnaryOp}{r:V→Hp→VK→Prop}(ho:RS X (unaryOp op) r)(ha:PE X a ta):PE X (.UnaryOp op a pos) (tUn r ta):=by
 intro pins s σ H Q I h
 exact UnaryOp_ (b8 (ha pins s σ H _ I h) fun v s1 ⟨x,H1,I1,r1,q1⟩=>ho pins s1 σ H1 x v Q I1 r1 q1)
theorem QS {f:Value→Value→Sem Value}{C:Int→Int→Prop}{g:Int→Int→Int}
  (rule:∀(i j:Int) (t u:Tok) (s:Shared) (Q:Value→Shared→Prop) (E:Value→Shared→Prop),C i j→Q (.int (g i j) s.toks) {s with toks:=s.toks+1}→wpAny (model X.prog X.w) X.A (f (.int i t) (.int j u)) Q E s):
  iI X f (rI C fun i j=>.int (g i j)):=by
 intro pins s σ H x y v u Q I rx ry h
 obtain ⟨i,j,rfl,rfl,hc,q⟩:=h
 obtain ⟨t,rfl⟩:=rx
 obtain ⟨t',rfl⟩:=ry
 exact rule i j t t' s _ _ hc ⟨.int (g i j),H,I.tok _,⟨_,rfl⟩,q⟩
theorem JW {f:Value→Value→Sem Value}{g:Int→Int→Int}
  (rule:∀(i j:Int) (t u:Tok) (s:Shared) (Q:Value→Shared→Prop) (E:Value→Shared→Prop),Q (.int (g i j) s.toks) {s with toks:=s.toks+1}→wpAny (model X.prog X.w) X.A (f (.int i t) (.int j u)) Q E s):
  iI X f (CG fun i j=>.int (g i j)):=by
 intro pins s σ H x y v u Q I rx ry h
 obtain ⟨i,j,rfl,rfl,q⟩:=h
 obtain ⟨t,rfl⟩:=rx
 obtain ⟨t',rfl⟩:=ry
 exact rule i j t t' s _ _ ⟨.int (g i j),H,I.tok _,⟨_,rfl⟩,q⟩
theorem EX {f:Value→Value→Sem Value}{g:Int→Int→Bool}
  (rule:∀(i j:Int) (t u:Tok) (s:Shared) (Q:Value→Shared→Prop) (E:Value→Shared→Prop),Q (.bool (g i j)) s→wpAny (model X.prog X.w) X.A (f (.int i t) (.int j u)) Q E s):
  iI X f (CG fun i j=>.bl (g i j)):=by
 intro pins s σ H x y v u Q I rx ry h
 obtain ⟨i,j,rfl,rfl,q⟩:=h
 obtain ⟨t,rfl⟩:=rx
 obtain ⟨t',rfl⟩:=ry
 exact rule i j t t' s _ _ ⟨.bl (g i j),H,I,rfl,q⟩
theorem bO:iI X (binaryOp .Add) (CG fun i j=>.int (i+j)):=JW fun _ _ _ _ _ _ _ q=>add_int q
theorem cu:iI X (binaryOp .Sub) (CG fun i j=>.int (i - j)):=JW fun _ _ _ _ _ _ _ q=>sub_int q
theorem zk:iI X (binaryOp .Mod) (rI (fun _ j=>j≠0) fun i j=>.int (i.fmod j)):=QS fun _ _ _ _ _ _ _ hc q=>mod_int' hc q
theorem unI {f:Value→Sem Value}{g:Int→Int}
  (rule:∀(i:Int) (t:Tok) (s:Shared) (Q:Value→Shared→Prop) (E:Value→Shared→Prop),Q (.int (g i) s.toks) {s with toks:=s.toks+1}→wpAny (model X.prog X.w) X.A (f (.int i t)) Q E s):
  RS X f (rU fun i=>.int (g i)):=by
 intro pins s σ H x v Q I rx h
 obtain ⟨i,rfl,q⟩:=h
 obtain ⟨t,rfl⟩:=rx
 exact rule i t s _ _ ⟨.int (g i),H,I.tok _,⟨_,rfl⟩,q⟩
theorem qO:RS X (unaryOp .USub) (rU fun i=>.int (-i)):=unI fun _ _ _ _ _ q=>neg_int q
end
def JX:V→V→Bool
 | .cb,.cb=>true | .cb,.int _=>true | .int _,.cb=>true | .cb,.bl _=>true | .bl _,.cb=>true | .cb,.str _=>true | .str _,.cb=>true
 | .int _,.int _=>true | .bl _,.bl _=>true | .str _,.str _=>true | .byt _,.byt _=>true
 | .int _,.str _=>true | .str _,.int _=>true | .bl _,.str _=>true | .str _,.bl _=>true
 | _,_=>false
def rEq:R2:=fun x y H Q=>JX x y=true∧Q (.bl (decide (x=y))) H
def rNe:R2:=fun x y H Q=>JX x y=true∧Q (.bl (!decide (x=y))) H
theorem sr {i j:Int}:decide (V.int i=V.int j)=(i==j):=by
 rw [abr]
 simp
theorem wN {i j:Bool}:decide (V.bl i=V.bl j)=(i==j):=by
 rw [abr]
 simp
theorem sy {i j:Str}:decide (V.str i=V.str j)=(i==j):=by
 rw [abr]
 simp
theorem sE {i j:Array UInt8}:decide (V.byt i=V.byt j)=(i.toList==j.toList):=by
 rw [abr]
 cases i
 cases j
 simp
section
variable {X:Cx}{a b c:Expr}{ta tb tc:TE}{pos:Pos}
theorem bw {pins:List (Addr×Obj)}{σ:St}{H:Hp}{s:Shared}{Q:VK}{k k' :Bool}(I:Inv X pins σ H s)(q:Q (.bl k) H)(e:k=k'):EP X pins σ Q (.bool k') s:=by
 subst e
 exact ⟨.bl k,H,I,rfl,q⟩
theorem cD:iI X (compareOp .Eq) rEq:=by
 intro pins s σ H x y v u Q I rx ry h
 obtain ⟨hs,q⟩:=h
 cases x with
 | cb=>
  cases rx
  cases y with
  | cb=>cases ry;exact PySem.EqNone.eq_none_none (bw I q (by simp))
  | bl j=>cases ry;exact PySem.EqNone.eq_none_bool (bw I q (by simp))
  | int j=>obtain ⟨t',rfl⟩:=ry;exact PySem.EqNone.eq_none_int (bw I q (by simp))
  | str j=>obtain ⟨t',rfl⟩:=ry;exact PySem.EqNone.eq_none_str (bw I q (by simp))
  | _=>exact absurd (show false=true from hs) aay
 | bl i=>
  cases rx
  cases y with
  | cb=>cases ry;exact PySem.EqNone.eq_bool_none (bw I q (by simp))
  | bl j=>cases ry;exact eq_bool (bw I q wN)
  | str j=>obtain ⟨t',rfl⟩:=ry;exact PySem.EqMixed.eq_bool_str (bw I q (by simp))
  | _=>exact absurd (show false=true from hs) aay
 | int i=>
  obtain ⟨t,rfl⟩:=rx
  cases y with
  | cb=>cases ry;exact PySem.EqNone.eq_int_none (bw I q (by simp))
  | int j=>obtain ⟨t',rfl⟩:=ry;exact eq_int (bw I q sr)
  | str j=>obtain ⟨t',rfl⟩:=ry;exact PySem.EqMixed.eq_int_str (bw I q (by simp))
  | _=>exact absurd (show false=true from hs) aay
 | str i=>
  obtain ⟨t,rfl⟩:=rx
  cases y with
  | cb=>cases ry;exact PySem.EqNone.eq_str_none (bw I q (by simp))
  | bl j=>cases ry;exact PySem.EqMixed.eq_str_bool (bw I q (by simp))
  | int j=>obtain ⟨t',rfl⟩:=ry;exact PySem.EqMixed.eq_str_int (bw I q (by simp))
  | str j=>obtain ⟨t',rfl⟩:=ry;exact eq_str (bw I q sy)
  | _=>exact absurd (show false=true from hs) aay
 | byt i=>
  obtain ⟨t,rfl⟩:=rx
  cases y with
  | byt j=>obtain ⟨t',rfl⟩:=ry;exact PySem.W.eq_bytes (bw I q sE)
  | _=>exact absurd (show false=true from hs) aay
 | _=>cases y <;> exact absurd (show false=true from hs) aay
theorem oR:iI X (compareOp .NotEq) rNe:=by
 intro pins s σ H x y v u Q I rx ry h
 obtain ⟨hs,q⟩:=h
 cases x with
 | cb=>
  cases rx
  cases y with
  | cb=>cases ry;exact PySem.EqNone.ne_none_none (bw I q (by simp))
  | bl j=>cases ry;exact PySem.EqNone.ne_none_bool (bw I q (by simp))
  | int j=>obtain ⟨t',rfl⟩:=ry;exact PySem.EqNone.ne_none_int (bw I q (by simp))
  | str j=>obtain ⟨t',rfl⟩:=ry;exact PySem.EqNone.ne_none_str (bw I q (by simp))
  | _=>exact absurd (show false=true from hs) aay
 | bl i=>
  cases rx
  cases y with
  | cb=>cases ry;exact PySem.EqNone.ne_bool_none (bw I q (by simp))
  | bl j=>cases ry;exact ne_bool (bw I q (congrArg not wN))
  | str j=>obtain ⟨t',rfl⟩:=ry;exact PySem.EqMixed.ne_bool_str (bw I q (by simp))
  | _=>exact absurd (show false=true from hs) aay
 | int i=>
  obtain ⟨t,rfl⟩:=rx
  cases y with
  | cb=>cases ry;exact PySem.EqNone.ne_int_none (bw I q (by simp))
  | int j=>obtain ⟨t',rfl⟩:=ry;exact ne_int (bw I q (congrArg not sr))
  | str j=>obtain ⟨t',rfl⟩:=ry;exact PySem.EqMixed.ne_int_str (bw I q (by simp))
  | _=>exact absurd (show false=true from hs) aay
 | str i=>
  obtain ⟨t,rfl⟩:=rx
  cases y with
  | cb=>cases ry;exact PySem.EqNone.ne_str_none (bw I q (by simp))
  | bl j=>cases ry;exact PySem.EqMixed.ne_str_bool (bw I q (by simp))
  | int j=>obtain ⟨t',rfl⟩:=ry;exact PySem.EqMixed.ne_str_int (bw I q (by simp))
  | str j=>obtain ⟨t',rfl⟩:=ry;exact ne_str (bw I q (congrArg not sy))
  | _=>exact absurd (show false=true from hs) aay
 | byt i=>
  obtain ⟨t,rfl⟩:=rx
  cases y with
  | byt j=>obtain ⟨t',rfl⟩:=ry;exact PySem.W.ne_bytes (bw I q (congrArg not sE))
  | _=>exact absurd (show false=true from hs) aay
 | _=>cases y <;> exact absurd (show false=true from hs) aay
theorem oT:iI X (compareOp .Lt) (CG fun i j=>.bl (decide (i < j))):=EX fun _ _ _ _ _ _ _ q=>lt_int q
theorem JY:iI X (compareOp .Gt) (CG fun i j=>.bl (decide (j < i))):=EX fun _ _ _ _ _ _ _ q=>gt_int q
theorem CH:iI X (compareOp .GtE) (CG fun i j=>.bl (decide (j≤i))):=EX fun _ _ _ _ _ _ _ q=>ge_int q
theorem wO:iI X (compareOp .Is) (fun x y H Q=>y=.cb∧Q (.bl (decide (x=.cb))) H):=by
 intro pins s σ H x y v u Q I rx ry h
 obtain ⟨rfl,q⟩:=h
 cases ry
 refine is_none_gen (bw I q ?_)
 cases x <;> first
  | (cases rx;rfl)
  | (obtain ⟨t,rfl⟩:=rx;rfl)
theorem zo:iI X (compareOp .IsNot) (fun x y H Q=>y=.cb∧Q (.bl (!decide (x=.cb))) H):=by
 intro pins s σ H x y v u Q I rx ry h
 obtain ⟨rfl,q⟩:=h
 cases ry
 refine isnot_none_gen (bw I q ?_)
 cases x <;> first
  | (cases rx;rfl)
  | (obtain ⟨t,rfl⟩:=rx;rfl)
theorem ba (b:Expr){op:CmpOp}(h:op≠.In:=by decide)(h2:op≠.NotIn:=by decide):behindInMarks op b=false:=by
 have e1:(op==CmpOp.In)=false:=by cases op <;> first | rfl | exact absurd rfl h
 have e2:(op==CmpOp.NotIn)=false:=by cases op <;> first | rfl | exact absurd rfl h2
 cases b <;> simp [behindInMarks,e1,e2]
theorem mT {op:CmpOp}{r:R2}(ho:iI X (compareOp op) r)(ha:PE X a ta)(hb:PE X b tb)(hm:behindInMarks op b=false):PE X (.Compare a [op] [b] pos) (Jg r ta tb):=by
 intro pins s σ H Q I h
 exact wpAny_Compare1 (EW ha hb I h fun v u s2 x y H2 I2 rx ry q=>ho pins s2 σ H2 x y v u Q I2 rx ry q) hm
inductive wQ (Q:(Bool→Hp→Prop))(x:V)(H' :Hp):Prop where
 | mk (k:_) (_:x=.bl k) (_:Q k H'):wQ Q x H'
def JZ (t:TE):TT:=fun σ H Q=>t σ H fun x H' =>wQ Q x H'
theorem aU {op:CmpOp}{r:R2}(ho:iI X (compareOp op) r)(ha:PE X a ta)(hb:PE X b tb)(hm:behindInMarks op b=false):PT X (.Compare a [op] [b] pos) (JZ (Jg r ta tb)):=by
 intro pins s σ H Q I h
 refine wpAny_isTrue_Compare1 (b8 (ha pins s σ H _ I h) fun v s1 ⟨x,H1,I1,r1,q1⟩=>b8 (hb pins s1 σ H1 _ I1 q1) fun u s2 ⟨y,H2,I2,r2,q2⟩=>
  b8 (ho pins s2 σ H2 x y v u _ I2 r1 r2 q2) fun c s3 ⟨z,H3,I3,r3,k,e,q3⟩=> ?_) hm
 subst e
 cases r3
 exact wpAny_truthy_bool ⟨H3,I3,q3⟩
theorem jW:(sizeLine:Nat) < 2^63:=by rw [sizeLine_eq];decide
theorem gv:iI X (binaryOp .Add) (fun x y H Q=>∃i j,x=.str i∧y=.str j∧i.length+j.length≤sizeLine∧Q (.str (i++j)) H):=by
 intro pins s σ H x y v u Q I rx ry h
 obtain ⟨i,j,rfl,rfl,hz,q⟩:=h
 obtain ⟨t,rfl⟩:=rx
 obtain ⟨t',rfl⟩:=ry
 exact add_str (fun t' tk=>⟨.str (i++j),H,I.tok _,⟨_,rfl⟩,q⟩) hz
theorem vals1 {x:V}{us:List Value}(r:Vals [x] us):∃u,us=[u]∧RelV x u:=by
 cases r with
 | cons r1 r2=>cases r2;exact ⟨_,rfl,r1⟩
theorem vals2 {x y:V}{us:List Value}(r:Vals [x,y] us):∃u w',us=[u,w']∧RelV x u∧RelV y w' :=by
 cases r with
 | cons r1 r2=>
  cases r2 with
  | cons r3 r4=>cases r4;exact ⟨_,_,rfl,r1,r3⟩
theorem oU:gj X (.builtin "abs") (fun xs H Q=>∃i,xs=[.int i]∧Q (.int (if i < 0 then -i else i)) H):=by
 intro pins s σ H xs us Q I r h
 obtain ⟨i,rfl,q⟩:=h
 obtain ⟨u,rfl,t,rfl⟩:=vals1 r
 exact call_abs_int fun u tk=>⟨.int (if i < 0 then -i else i),H,I.tok _,⟨_,rfl⟩,q⟩
theorem ua (hc:X.calm=true):gj X (.builtin "min") (fun xs H Q=>∃i j,xs=[.int i,.int j]∧Q (.int (if j < i then j else i)) H):=by
 intro pins s σ H xs us Q I r h
 obtain ⟨i,j,rfl,q⟩:=h
 obtain ⟨u,w',rfl,⟨t,rfl⟩,⟨t',rfl⟩⟩:=vals2 r
 refine min_two_ints (I.ok.hd hc) fun h' tk k=>⟨_,H,I.kept k,?_,q⟩
 by_cases hj:j < i
 ·rw [if_pos hj,if_pos hj];exact ⟨_,rfl⟩
 ·rw [if_neg hj,if_neg hj];exact ⟨_,rfl⟩
theorem mU:gj X (.type "str") (fun xs H Q=>∃i,xs=[.int i]∧i.natAbs.log2 < 1920∧Q (.str (toString i)) H):=by
 intro pins s σ H xs us Q I r h
 obtain ⟨i,rfl,hz,q⟩:=h
 obtain ⟨u,rfl,t,rfl⟩:=vals1 r
 exact PySem.P.str_of_int hz ⟨.str _,H,I.tok _,⟨_,rfl⟩,q⟩
end
end L2
namespace L2
open PySem PySem.Spec PyProof.Rows
structure qP (h:Heap)(x dx C:Addr)(mA:Str→Option Value):Prop where
 obj:h.get? x=some (PySem.W.instObj C dx)
 ns:h.Ns1 dx mA
 ne:dx≠x
theorem ub {h:Heap}{dx:Addr}{mA:Str→Option Value}(n:h.Ns1 dx mA):∃od,h.get? dx=some od∧∀name,PySem.W.lookIn name od=some (mA name):=by
 obtain ⟨o,es,ep,ho,hd,hk,_,hm⟩:=n
 refine ⟨o,ho,fun name=> ?_⟩
 have e:=hm name
 unfold nsFind findBy at e
 rw [← Array.find?_toList] at e
 unfold PySem.W.lookIn
 rw [hd]
 dsimp only
 split
 ·rename_i y q
  rw [q] at e
  exact congrArg some e
 ·rename_i q
  rw [q] at e
  have a:es.toList.any (·.refKey)=false:=by
   rw [List.any_eq_false]
   intro y hy
   obtain ⟨z,t,wU⟩:=hk y (Array.mem_toList_iff.mp hy)
   simp [DictEntry.refKey,wU]
  have a' :¬ es.toList.any (·.refKey)=true:=by rw [a];exact aay
  rw [if_neg a']
  exact congrArg some e
theorem qP.look {h:Heap}{x dx C:Addr}{mA:Str→Option Value}(I:qP h x dx C mA):∃od,PySem.W.InstAt h x (PySem.W.instObj C dx) C (some od)∧∀name,PySem.W.lookIn name od=some (mA name):=
 let ⟨od,ho,hl⟩:=ub I.ns
 ⟨od,⟨I.obj,rfl,rfl,ho⟩,hl⟩
section
variable {prog:Program}{w:World}{A:Around}{E:Value→Shared→Prop}{s:Shared}{K:Frag}{x dx C f:Addr}{mA:Str→Option Value}{name:Str}{v:Value}
theorem get_map {expr:Bool}{Q:Value→Shared→Prop}(X:K.In s.heap)(I:qP s.heap x dx C mA)(hg:PySem.W.plainGet K C name=true)(hh:PySem.W.hasDictIn K C=true)
  (ha:PySem.W.findIn K (.ref C) name=some none) (hv:mA name=some v) (QT :PySem.W.handedIn v=true) (h:Q v {s with toks:=s.toks+1}):
  wpAny (model prog w) A (getAttr (.ref x) name expr) Q E s:=by
 obtain ⟨od,J,hl⟩:=I.look
 exact PySem.W.get_value X J (PySem.W.plainGet_of hg).1 (PySem.W.findObj_own hh ha rfl (by rw [hl,hv])) QT h
theorem wV {pl:Sem Bool}{Q:Value×List Value→Shared→Prop}(X:K.In s.heap)(I:qP s.heap x dx C mA)(hg:PySem.W.plainGet K C name=true)
  (hf:PySem.W.findIn K (.ref C) name=some (some (.ref f))) (ht:PySem.W.isFn K (.ref f)=true) (hv:mA name=none) (h:Q (.ref f,[.ref x]) s):
  wpAny (model prog w) A (getMethod (.ref x) name pl) Q E s:=by
 obtain ⟨od,J,hl⟩:=I.look
 exact PySem.W.method_fn X J (PySem.W.plainGet_of hg).1 (PySem.W.plainGet_of hg).2 hf (beq_iff_eq.mp ht) (by show (PySem.W.lookIn name od).map (·.isSome)=some false;rw [hl,hv];rfl) h
theorem zp {ns:List Str}{Q:Unit→Shared→Prop}(X:K.In s.heap)(I:qP s.heap x dx C mA)
  (hs:PySem.W.findIn K (.ref C) "__setattr__"=some (some (.builtin "object.__setattr__"))) (hp:PySem.W.plainOver K C=true) (ht:PySem.W.takerIn K C name=some none) (hh:PySem.W.hasDictIn K C=true)
  (hw:PySem.Within mA ns) (hsz:ns.length≤sizeLine)
  (h:∀h',qP h' x dx C (fun y=>if y=name then some v else mA y)→Heap.SameBut dx s.heap h' →Q () {s with heap:=h',toks:=s.toks+2}):
  wpAny (model prog w) A (setAttr (.ref x) name v) Q E s:=by
 obtain ⟨od,J,hl⟩:=I.look
 refine PySem.W.set_plain X J hs (PySem.W.osa_open (s:={s with toks:=s.toks+1}) (r:=none) X J hp ht fun b=> ?_)
 obtain ⟨cd,hc,RB⟩:=PySem.W.any_some hh
 have hx:s.heap.get? x=some ⟨.ref C,some dx,.plain, #[]⟩:=I.obj
 refine wpAny_bind (wpAny_pure (wpAny_bind (wpAny_bind (wpAny_loadPart hx (wpAny_bind (PySem.W.Looks.here (s:={s with toks:=s.toks+1}) (PySem.W.looks_clsIn X hc) ?_))))))
 rw [RB]
 refine wpAny_pure (a:=some dx) (wpAny_bind (wpAny_pure (wpAny_bind ?_)))
 refine wpAny_nsSet1 (s:={s with toks:=s.toks+1}) I.ns fun h' Jh yY=> ?_
 obtain ⟨oD,esD,epD,hoD,hdD,hcD⟩:=Jh.count (PySem.Within.cons name v hw)
 refine wpAny_bind (wpAny_lookBehind hoD (by rw [hdD];exact pastItsLine_dict (aak hcD (by rw [aaP];omega))) ?_)
 exact wpAny_pure (h _ ⟨(yY.2 _ (aaU I.ne)).trans I.obj,Jh,I.ne⟩ yY)
theorem wW {R:Result→Shared→Prop}{vs:List Value}{kw:List (Str×Value)}(X:K.In s.heap)(hm:PySem.W.makesIn K C=true)
  (hi:PySem.W.findIn K (.ref C) "__init__"=some (some (.ref f))) (hf:PySem.W.typeIn K (.ref f)=some (.type "function"))
  (h:codeAny (model prog w) (A.under (.builtin "type.__call__" ⟨.ref C::vs,kw⟩)) (.call (.ref f) ⟨.ref (s.heap.objs.size+1)::vs,kw⟩) (PySem.W.InitBack (s.heap.objs.size+1) R)
   {s with heap:=(s.heap.push PySem.W.emptyDict).push (PySem.W.instObj C s.heap.objs.size)}):
  codeAny (model prog w) A (.call (.ref C) ⟨vs,kw⟩) R s:=by
 obtain ⟨hh,g,d,t,os⟩:=s
 exact PySem.W.make_core (PySem.W.makes_of X hm) (PySem.W.looks_findIn X hi) (fun self=>PySem.W.bind_fn X self hf) (.inl rfl) h
theorem uc {R:Result→Shared→Prop}(X:K.In s.heap)(hm:PySem.W.makesIn K C=true)
  (hi:PySem.W.findIn K (.ref C) "__init__"=some (some (.builtin "object.__init__")))
  (hb:∀self,PySem.W.Looks (model prog w) s.heap (bindSpecial (.builtin "object.__init__") self) (.builtin "object.__init__",[self]))
  (h:codeAny (model prog w) (A.under (.builtin "type.__call__" ⟨[.ref C],[]⟩)) (.call (.builtin "object.__init__") ⟨[.ref (s.heap.objs.size+1)],[]⟩) (PySem.W.InitBack (s.heap.objs.size+1) R)
   {s with heap:=(s.heap.push PySem.W.emptyDict).push (PySem.W.instObj C s.heap.objs.size)}):
  codeAny (model prog w) A (.call (.ref C) ⟨[],[]⟩) R s:=by
 obtain ⟨hh,g,d,t,os⟩:=s
 exact PySem.W.make_core (PySem.W.makes_of X hm) (PySem.W.looks_findIn X hi) hb (.inr ⟨rfl,rfl⟩) h
end
def cP (f:Str)(v:V):List (Str×V)→List (Str×V)
 | []=>[(f,v)]
 | (g,x)::r=>if g=f then (g,v)::r else (g,x)::cP f v r
theorem jd (f g:Str)(v:V):∀fs:List (Str×V),(cP f v fs).lookup g=if g=f then some v else fs.lookup g
 | []=>by
  show abj g [(f,v)]=_
  by_cases h:g=f
  ·have hb:(g==f)=true:=beq_iff_eq.mpr h
   simp only [abj,hb,if_pos h]
  ·have hb:(g==f)=false:=beq_eq_false_iff_ne.mpr h
   simp only [abj,hb,if_neg h]
 | (k,x)::r=>by
  have ih:=jd f g v r
  rw [show cP f v ((k,x)::r)=(if k=f then (k,v)::r else (k,x)::cP f v r) from rfl]
  by_cases hk:k=f
  ·rw [if_pos hk]
   by_cases h:g=k
   ·have hb:(g==k)=true:=beq_iff_eq.mpr h
    simp only [abj,hb,if_pos (h.trans hk)]
   ·have hb:(g==k)=false:=beq_eq_false_iff_ne.mpr h
    simp only [abj,hb,if_neg (fun e:g=f=>h (e.trans hk.symm))]
  ·rw [if_neg hk]
   by_cases h:g=k
   ·have hb:(g==k)=true:=beq_iff_eq.mpr h
    simp only [abj,hb,if_neg (fun e:g=f=>hk (h.symm.trans e))]
   ·have hb:(g==k)=false:=beq_eq_false_iff_ne.mpr h
    simp only [abj,hb]
    exact ih
theorem iL (f:Str)(v:V):∀fs:List (Str×V),f∈(cP f v fs).map (·.1)∧∀g,g∈fs.map (·.1)→g∈(cP f v fs).map (·.1)
 | []=>⟨by simp [cP],fun g h=>by simp at h⟩
 | (k,x)::r=>by
  obtain ⟨i1,i2⟩:=iL f v r
  rw [show cP f v ((k,x)::r)=(if k=f then (k,v)::r else (k,x)::cP f v r) from rfl]
  by_cases hk:k=f
  ·rw [if_pos hk]
   subst hk
   exact ⟨by simp,fun g h=>by simpa using h⟩
  ·rw [if_neg hk]
   refine ⟨?_,fun g h=> ?_⟩
   ·rw [aaj]
    exact aav _ i1
   ·rw [aaj] at h ⊢
    rcases aaJ.mp h with e | e
    ·exact aaJ.mpr (.inl e)
    ·exact aav _ (i2 g e)
theorem je (f:Str)(v:V):∀fs:List (Str×V),(cP f v fs).length≤fs.length+1
 | []=>by simp [cP]
 | (k,x)::r=>by
  have ih:=je f v r
  rw [show cP f v ((k,x)::r)=(if k=f then (k,v)::r else (k,x)::cP f v r) from rfl]
  by_cases hk:k=f
  ·rw [if_pos hk,aaP,aaP];omega
  ·rw [if_neg hk,aaP,aaP];omega
theorem fE.some_of {v:V}{o:Option Value}(r:fE (some v) o):∃u,o=some u∧RelV v u:=by
 cases o with
 | none=>exact (show False from r).elim
 | some u=>exact ⟨u,rfl,r⟩
theorem fE.none_of {o:Option Value}(r:fE none o):o=none:=by
 cases o with
 | none=>rfl
 | some u=>exact (show False from r).elim
theorem ud {v:V}{u:Value}(r:RelV v u):PySem.W.handedIn u=true:=by
 cases v with
 | cb=>cases (show u=Value.none from r);rfl
 | bl b=>cases (show u=Value.bool b from r);rfl
 | int i=>obtain ⟨t,e⟩:=(show ∃t,u=Value.int i t from r);cases e;rfl
 | str x=>obtain ⟨t,e⟩:=(show ∃t,u=Value.str x t from r);cases e;rfl
 | byt b=>obtain ⟨t,e⟩:=(show ∃t,u=Value.bytes b t from r);cases e;rfl
 | QL b=>obtain ⟨t,e⟩:=(show ∃t,u=Value.float b t from r);cases e;rfl
 | ref a=>cases (show u=Value.ref a from r);rfl
 | ty n=>cases (show u=Value.type n from r);rfl
section
variable {P:Program}{w:World}{H H' :Hp}{h h' :Heap}{a C dx:Addr}{fs fs' :List (Str×V)}
theorem mV (bK:gi P w H h)(e:H a=some (.ins C dx fs)):∃mA,qP h a dx C mA∧(∀f,fE (fs.lookup f) (mA f))∧PySem.Within mA (fs.map (·.1))∧fs.length≤1000∧H dx=some (.own a):=by
 obtain ⟨d,z,ne,ob,mA,n,r,q⟩:=(show cx P w H h a (.ins C dx fs) from bK a _ e)
 exact ⟨mA,⟨ob,n,ne⟩,r,q,z,d⟩
end
structure qE (K:Frag)(C:Addr):Prop where
 pg:PySem.W.plainGet K C Str.empty=true
 hd:PySem.W.hasDictIn K C=true
 po:PySem.W.plainOver K C=true
 sa:PySem.W.findIn K (.ref C) "__setattr__"=some (some (.builtin "object.__setattr__"))
theorem qE.get {K:Frag}{C:Addr}(c:qE K C)(f:Str):PySem.W.plainGet K C f=true:=c.pg
def dD (K:Frag)(C:Addr)(f:Str):Prop:=PySem.W.findIn K (.ref C) f=some none
theorem dD.J0 {K:Frag}{C:Addr}{f:Str}(n:dD K C f):PySem.W.takerIn K C f=some none:=by
 unfold PySem.W.takerIn
 rw [show PySem.W.findIn K (.ref C) f=some none from n]
 rfl
structure Meth (K:Frag)(C:Addr)(m:Str)(f:Addr):Prop where
 at_:PySem.W.findIn K (.ref C) m=some (some (.ref f))
 fn:PySem.W.isFn K (.ref f)=true
 kp:keepIn K (.ref f)=true
section
variable {X:Cx}{pins:List (Addr×Obj)}{σ:St}{H:Hp}{s:Shared}{a C dx:Addr}{fs:List (Str×V)}{f:Str}{v:V}{A:Around}{E:Value→Shared→Prop}
theorem qQ {b:Bool}{Q:Value→Shared→Prop}(I:Inv X pins σ H s)(e:H a=some (.ins C dx fs))(c:qE X.K C)(n:dD X.K C f)(l:fs.lookup f=some v)
  (h:∀u s',Inv X pins σ H s' →RelV v u→Q u s'):wpAny (model X.prog X.w) A (getAttr (.ref a) f b) Q E s:=by
 obtain ⟨mA,O,r,_,_,_⟩:=mV I.bK e
 obtain ⟨u,hu,ru⟩:=fE.some_of (v:=v) (o:=mA f) (by rw [← l];exact r f)
 exact get_map I.mQ O (c.get f) c.hd n hu (ud ru) (h u _ (I.tok _) ru)
theorem gw {m:Str}{g:Addr}{pl:Sem Bool}{Q:Value×List Value→Shared→Prop}(I:Inv X pins σ H s)(e:H a=some (.ins C dx fs))(c:qE X.K C)(k:Meth X.K C m g)(l:fs.lookup m=none)
  (h:Q (.ref g,[.ref a]) s):wpAny (model X.prog X.w) A (getMethod (.ref a) m pl) Q E s:=by
 obtain ⟨mA,O,r,_,_,_⟩:=mV I.bK e
 have hn:mA m=none:=fE.none_of (by rw [← l];exact r m)
 exact wV I.mQ O (c.get m) k.at_ k.fn hn h
theorem qR {y:V}{u:Value}{Q:Unit→Shared→Prop}(I:Inv X pins σ H s)(e:H a=some (.ins C dx fs))(c:qE X.K C)(n:dD X.K C f)(hl:fs.length < 1000)(ry:RelV y u)
  (h:∀s',Inv X pins σ (upd H a (.ins C dx (cP f y fs))) s' →Q () s'):wpAny (model X.prog X.w) A (setAttr (.ref a) f u) Q E s:=by
 obtain ⟨mA,O,r,wi,_,ho⟩:=mV I.bK e
 have hz:(fs.map (·.1)).length≤sizeLine:=by rw [ir,sizeLine_eq];omega
 refine zp I.mQ O c.sa c.po n.J0 c.hd wi hz fun h' O' sb=>h _ ?_
 have hd:∃o,h'.get? dx=some o:=let ⟨o,_,_,e',_⟩:=O'.ns;⟨o,e'⟩
 refine I.write (x:=a) (e:=dx) (by rw [e];exact True.intro) (.inr ho) (fun b q hb z=>(sb.2 b hb).trans z) hd ?_
 refine ⟨by rw [ak O.ne];exact ho,?_,O.ne,O'.obj,_,O'.ns,fun g=> ?_,fun g hg=> ?_⟩
 ·have:=je f y fs;omega
 ·show fE ((cP f y fs).lookup g) (if g=f then some u else mA g)
  rw [jd]
  by_cases q:g=f
  ·rw [if_pos q,if_pos q];exact ry
  ·rw [if_neg q,if_neg q];exact r g
 ·by_cases q:g=f
  ·rw [q];exact (iL f y fs).1
  ·refine (iL f y fs).2 g (wi g fun z=>hg ?_)
   show (if g=f then some u else mA g)=none
   rw [if_neg q];exact z
theorem Inv.made (I:Inv X pins σ H s):Inv X pins σ (upd (upd H s.heap.objs.size (.own (s.heap.objs.size+1))) (s.heap.objs.size+1) (.ins C s.heap.objs.size []))
  {s with heap:=(s.heap.push PySem.W.emptyDict).push (PySem.W.instObj C s.heap.objs.size)}:=by
 have e1:(s.heap.push PySem.W.emptyDict).get? s.heap.objs.size=some PySem.W.emptyDict:=Heap.get?_push_size s.heap rfl
 have e2:((s.heap.push PySem.W.emptyDict).push (PySem.W.instObj C s.heap.objs.size)).get? (s.heap.objs.size+1)=some (PySem.W.instObj C s.heap.objs.size):=by
  have:=Heap.get?_push_size (s.heap.push PySem.W.emptyDict) (o:=PySem.W.instObj C s.heap.objs.size) rfl
  rwa [Heap.size_push] at this
 have e3:(s.heap.push PySem.W.emptyDict).Ns s.heap.objs.size (fun _=>none):=⟨PySem.W.emptyDict, #[],_,e1,rfl,(fun e he=>absurd he (by simp)),fun _=>rfl⟩
 have I1:=I.laid (a:=s.heap.objs.size) (o:=.own (s.heap.objs.size+1)) (h' :=s.heap.push PySem.W.emptyDict) (t' :=s.toks) (fun b u q=>Heap.get?_push_of_some _ q) (aao _) ⟨_,e1⟩
 refine I1.laid (a:=s.heap.objs.size+1) (o:=.ins C s.heap.objs.size []) (t' :=s.toks) (fun b u q=>Heap.get?_push_of_some _ q) (akk (Heap.size_push _ _)) ?_
 have ne:s.heap.objs.size≠s.heap.objs.size+1:=aaN (aa6 _)
 refine ⟨by rw [ak ne,ah],aa4 _,ne,e2,fun _=>none,(Heap.Ns1.of_empty e3).at fun o q=>Heap.get?_push_of_some _ q,fun _=>True.intro,fun y hy=>absurd rfl hy⟩
theorem zq {prog:Program}{w:World}{env:Env}{e:Expr}{f:Str}{pos:Pos}{s:Shared}{Q:Value→Shared→Prop}(hb:attributeBase e f env (eval e env)=eval e env)
  (h:wpAny (model prog w) A (eval e env) (fun o s₁=>wpAny (model prog w) A (getAttr o f true) Q E s₁) E s):wpAny (model prog w) A (eval (.Attribute e f pos) env) Q E s:=
 Attribute_any_ h (by rw [arm_eval_Attribute,hb])
end
inductive CI (K:Frag)(f:Str)(Q:VK)(x:V)(H1:Hp):Prop where
 | mk (a C dx fs v:_) (_:x=.ref a) (_:H1 a=some (.ins C dx fs)) (_:qE K C) (_:dD K C f) (_:fs.lookup f=some v) (_:Q v H1):CI K f Q x H1
def RT (K:Frag)(ta:TE)(f:Str):TE:=fun σ H Q=>ta σ H fun x H1=>CI K f Q x H1
inductive CJ (K:Frag)(f:Str)(D:Ends)(σ:St)(y:V)(x:V)(H2:Hp):Prop where
 | mk (a C dx fs:_) (_:x=.ref a) (_:H2 a=some (.ins C dx fs)) (_:qE K C) (_:dD K C f) (_:fs.length < 1000) (_:D.nx σ (upd H2 a (.ins C dx (cP f y fs)))):CJ K f D σ y x H2
def RU (K:Frag)(ta tv:TE)(f:Str):TS:=fun D σ H=>tv σ H fun y H1=>ta σ H1 fun x H2=>CJ K f D σ y x H2
section
variable {X:Cx}{o e value:Expr}{f:Str}{pos pos' qS:Pos}{ta tv:TE}
theorem cz (he:PE X e ta)(hb:attributeBase e f X.env (eval e X.env)=eval e X.env):PE X (.Attribute e f pos) (RT X.K ta f):=by
 intro pins s σ H Q I h
 refine zq hb (b8 (he pins s σ H _ I h) fun u s1 ⟨x,H1,I1,rx,a,C,dx,fs,v,ex,ea,c,n,l,q⟩=> ?_)
 subst ex
 obtain rfl:u=Value.ref a:=rx
 exact qQ I1 ea c n l fun u' s2 I2 ru=>⟨v,H1,I2,ru,q⟩
theorem mW (ha:PE X o ta)(hv:PE X value tv)(hs:swapsWith value (some (.Attribute o f pos')) pos.line X.env=pure false):PS X (.Assign [.Attribute o f pos'] value pos) (RU X.K ta tv f):=by
 intro pins s σ H D I h
 refine plainObj_wpAny_Assign_Attribute (b8 (hv pins s σ H _ I h) fun u s1 ⟨y,H1,I1,ry,q⟩=>b8 (ha pins s1 σ H1 _ I1 q) fun ov s2 ⟨x,H2,I2,rx,a,C,dx,fs,ex,ea,c,n,l,q2⟩=> ?_) hs
 subst ex
 obtain rfl:ov=Value.ref a:=rx
 exact qR I2 ea c n l ry fun s3 I3=>⟨σ,_,I3,q2⟩
end
section
variable {X:Cx}{pins:List (Addr×Obj)}{σ:St}{H:Hp}{s:Shared}{A:Around}{E:Value→Shared→Prop}{Q:Value→Shared→Prop}{c:Value}{b:Bool}
end
end L2
namespace L2
open PySem PySem.Spec PyProof.Rows
structure b7 (k:Nat)(A:Around):Prop where
 hd:A.handled=none
 dp:A.depth+3*k+5 < recursionLimit
 un:A.units+16*k+200 < cLine
theorem b7.mono {j k:Nat}{A:Around}(r:b7 k A)(h:j≤k):b7 j A:=⟨r.hd,by have:=r.dp;omega,by have:=r.un;omega⟩
theorem b7.deeper {k:Nat}{A:Around}(r:b7 (k+1) A)(env:Env):b7 k (A.deeper env):=
 ⟨r.hd,by have:=r.dp;show A.depth+1+3*k+5 < _;omega,by have:=r.un;show A.units+3+16*k+200 < _;omega⟩
theorem qT {A:Around}{C:Addr}{us:List Value}{kw:List (Str×Value)}:(A.under (.builtin "type.__call__" ⟨.ref C::us,kw⟩)).depth=A.depth+1:=by
 first | rfl | simp [Around.under,Code.weight,Code.isCreation,Code.isGuard,Code.isCaller,Code.frames,Code.isFrame,guardIds]
theorem qU {A:Around}{C:Addr}{us:List Value}{kw:List (Str×Value)}:(A.under (.builtin "type.__call__" ⟨.ref C::us,kw⟩)).units=A.units+1:=by
 first | rfl | simp [Around.under,Code.cUnits,Code.frames,Code.isFrame]
theorem b7.make {k:Nat}{A:Around}(r:b7 (k+1) A)(C:Addr)(us:List Value)(kw:List (Str×Value)):b7 k (A.under (.builtin "type.__call__" ⟨.ref C::us,kw⟩)):=
 ⟨r.hd,by have:=r.dp;rw [qT];omega,by have:=r.un;rw [qU];omega⟩
theorem b7.depth {k:Nat}{A:Around}(r:b7 k A):A.depth < recursionLimit:=by have:=r.dp;omega
theorem b7.units {k:Nat}{A:Around}(r:b7 k A):A.units+64 < cLine:=by have:=r.un;omega
def fL:TA:=fun _ H Q=>Q [] H
def CK (ta:TE)(tr:TA):TA:=fun σ H Q=>ta σ H fun x H1=>tr σ H1 fun xs H2=>Q (x::xs) H2
section
variable {X:Cx}{e:Expr}{es:List Expr}{te:TE}{t:TA}{pos:Pos}
theorem aa:PA X [] fL:=fun _ _ _ _ H Q I h=>Calls.spliced_nil ⟨[],H,I,.nil,h⟩
theorem zt (ha:PE X e te)(hr:PA X es t)(hs:starEach (e::es) X.env=(false,eval e X.env)::starEach es X.env:=by rfl):PA X (e::es) (CK te t):=by
 intro pos pins s σ H Q I h
 rw [hs]
 show wpAny _ _ (spliced ((false,eval e X.env)::backTo pos (starEach es X.env))) _ _ s
 refine Calls.spliced_cons (b8 (ha pins s σ H _ I h) fun u s1 ⟨x,H1,I1,r1,q1⟩=> ?_)
 exact b8 (hr pos pins s1 σ H1 _ I1 q1) fun us s2 ⟨xs,H2,I2,r2,q2⟩=>⟨x::xs,H2,I2,.cons r1 r2,q2⟩
def RV (t:TA):TE:=fun σ H Q=>t σ H fun xs H1=>xs.length≤sizeLine∧∀p,H1 p=none→Q (.ref p) (upd H1 p (.tup xs))
def RW (t:TA):TE:=fun σ H Q=>t σ H fun xs H1=>xs.length≤sizeLine∧∀p,H1 p=none→Q (.ref p) (upd H1 p (.lst xs))
theorem aR {x1}(h:PA X es t):PE X (.Tuple es x1 pos) (RV t):=by
 intro pins s σ H Q I hq
 refine wpAny_Tuple_spliced (b8 (h pos pins s σ H _ I hq) fun us s1 ⟨xs,H1,I1,r,z,q⟩=>⟨by rw [← r.length];exact z,?_⟩)
 have hf:H1 s1.heap.objs.size=none:=I1.bK.fresh (aao _)
 refine ⟨.ref s1.heap.objs.size,upd H1 s1.heap.objs.size (.tup xs),I1.laid (t' :=s1.toks) (fun b u e=>Heap.get?_push_of_some _ e) (aao _) ?_,rfl,q _ hf⟩
 exact ⟨z,us,r,⟨_,Heap.get?_push_size _ rfl,rfl,_,rfl⟩⟩
theorem bD (h:PA X es t):PE X (.List es pos) (RW t):=by
 intro pins s σ H Q I hq
 refine wpAny_List_spliced (b8 (h pos pins s σ H _ I hq) fun us s1 ⟨xs,H1,I1,r,z,q⟩=>⟨by rw [← r.length];exact z,?_⟩)
 have hf:H1 s1.heap.objs.size=none:=I1.bK.fresh (aao _)
 refine ⟨.ref s1.heap.objs.size,upd H1 s1.heap.objs.size (.lst xs),I1.laid (t' :=s1.toks) (fun b u e=>Heap.get?_push_of_some _ e) (aao _) ?_,rfl,q _ hf⟩
 exact ⟨z,us,0,r,Heap.get?_push_size _ rfl⟩
end
abbrev Sp:=List V→Hp→VK→XK→Prop
abbrev iJ:=List Env→Hp→Shared→XK→Value→Shared→Prop
structure qV (P:Program)(w:World)(K:Frag)(mg:Str→Option Value)(base:Heap)(A:Around)(outer:List Env)(s:Shared)(H:Hp):Prop where
 frames:A.frames=some outer
 mod:Mod K mg base
 bs:∀b o,base.get? b=some o→s.heap.get? b=some o∧H b=none
 zg:base.objs.size≤s.heap.objs.size
 jx:s.heap.FunFrames base outer
 EI:∀b∈sf outer,H b=none
 bK:gi P w H s.heap
 bare:AllBare s.gens
def CE (outer:List Env)(P:Program)(w:World)(H:Hp)(s:Shared)(Q:VK)(u:Value)(s' :Shared):Prop:=
 ∃v H',s'.os=s.os∧AllBare s'.gens∧Un (sf outer) [] H H' s.heap s'.heap∧gi P w H' s'.heap∧RelV v u∧Q v H'
def CR (CX:iJ)(outer:List Env)(P:Program)(w:World)(H:Hp)(s:Shared)(Q:VK)(E:XK)(r:Result)(s' :Shared):Prop:=
 match r with
 | .ok (.ret u)=>CE outer P w H s Q u s'
 | .ok _=>False
 | .error e=>CX outer H s E e s'
structure cj (P:Program)(w:World)(K:Frag)(mg:Str→Option Value)(base:Heap)(CX:iJ)(k:Nat)(f:Addr)(fd:FuncData)(ps:List Str)(sp:Sp):Prop where
 len:∀vs H Q E,sp vs H Q E→vs.length=ps.length
 run:∀(A:Around) (outer:List Env) (s:Shared) (H:Hp) (args:Args) (us:List Value) (vs:List V) (Q:VK) (E:XK),b7 k A→qV P w K mg base A outer s H→BindsTo s fd args (ps.zip us)→Vals vs us→sp vs H Q E→
  codeAny (model P w) A (.call (.ref f) args) (CR CX outer P w H s Q E) s
theorem cj.mono {P:Program}{w:World}{K:Frag}{mg:Str→Option Value}{base:Heap}{CX:iJ}{j k:Nat}{f:Addr}{fd:FuncData}{ps:List Str}{sp:Sp}(F:cj P w K mg base CX j f fd ps sp)(h:j≤k):
  cj P w K mg base CX k f fd ps sp:=⟨F.len,fun A outer s H args us vs Q E hr=>F.run A outer s H args us vs Q E (hr.mono h)⟩
theorem cj.imp {P:Program}{w:World}{K:Frag}{mg:Str→Option Value}{base:Heap}{CX:iJ}{k:Nat}{f:Addr}{fd:FuncData}{ps:List Str}{sp sp' :Sp}(F:cj P w K mg base CX k f fd ps sp)
  (h:∀vs H Q E,sp' vs H Q E→sp vs H Q E):cj P w K mg base CX k f fd ps sp' :=
 ⟨fun vs H Q E q=>F.len vs H Q E (h _ _ _ _ q),fun A outer s H args us vs Q E hr he hb hv hs=>F.run A outer s H args us vs Q E hr he hb hv (h _ _ _ _ hs)⟩
theorem qV.make {P:Program}{w:World}{K:Frag}{mg:Str→Option Value}{base:Heap}{A:Around}{outer:List Env}{s:Shared}{H:Hp}(e:qV P w K mg base A outer s H)(C:Addr)(us:List Value)(kw:List (Str×Value)):
  qV P w K mg base (A.under (.builtin "type.__call__" ⟨.ref C::us,kw⟩)) outer s H:=⟨by first | exact e.frames | (simpa [Around.under,Code.envs,Code.isFrame,pushEnvs] using e.frames),e.mod,e.bs,e.zg,e.jx,e.EI,e.bK,e.bare⟩
section
variable {X:Cx}{pins:List (Addr×Obj)}{σ:St}{H:Hp}{s s' :Shared}
theorem Inv.J1 (I:Inv X pins σ H s):qV X.prog X.w X.K X.mg X.base X.A X.stack s H:=
 ⟨I.ok.frames,I.ok.mod,I.bs,aak I.ok.zg I.sz,I.stack,I.si,I.bK,I.bare⟩
theorem Inv.after {Q:VK}{u:Value}(I:Inv X pins σ H s)(h:CE X.stack X.prog X.w H s Q u s'):EP X pins σ Q u s' :=by
 obtain ⟨v,H',os,bare,un,bK,r,q⟩:=h
 obtain ⟨hh,g,d,t,os'⟩:=s'
 obtain rfl:os' =s.os:=os
 exact ⟨v,H',I.call (h' :=hh) (g' :=g) (d' :=d) (t' :=t) (ch:=[]) un bK bare (fun b z=>absurd z (by simp)),r,q⟩
end
def CL (sp:Sp)(dvs:List V)(E:XK)(t:TA):TE:=fun σ H Q=>t σ H fun vs H1=>sp (vs++dvs) H1 Q E
def CM (C:Addr)(sp:Sp)(dvs:List V)(E:XK)(t:TA):TE:=fun σ H Q=>t σ H fun vs H1=>∀x dx,H1 x=none→H1 dx=none→dx≠x→
 sp (.ref x::(vs++dvs)) (upd (upd H1 dx (.own x)) x (.ins C dx [])) (fun v H2=>v=.cb∧Q (.ref x) H2) E
def Binds (K:Frag)(fd:FuncData)(ps:List Str)(ds:List Value):Prop:=
 ∀(s:Shared) (us:List Value),K.In s.heap→(us++ds).length=ps.length→BindsTo s fd ⟨us,[]⟩ (ps.zip (us++ds))
theorem Binds.all {K:Frag}{fd:FuncData}{ps:List Str}(h:∀us:List Value,us.length=ps.length→bindArgs fd ⟨us,[]⟩=pure (ps.zip us)):Binds K fd ps []:=fun s us _ hl=>by
 rw [abW] at hl ⊢
 exact .of_eq (h us hl)
def Passes (CX:iJ)(X:Cx)(E:XK):Prop:=∀(pins:List (Addr×Obj)) (σ:St) (H:Hp) (s:Shared) (e:Value) (s' :Shared),Inv X pins σ H s→CX X.stack H s E e s' →X.xe e s'
section
variable {X:Cx}{CX:iJ}{k:Nat}{f C:Addr}{fd:FuncData}{ps:List Str}{sp:Sp}{dvs:List V}{ds:List Value}{E:XK}{x m:Str}{p pos apos:Pos}{e o:Expr}{es:List Expr}{ta:TE}{t:TA}
theorem mX {pins:List (Addr×Obj)}{σ:St}{H:Hp}{s:Shared}{Q:VK}{us:List Value}{vs:List V}(F:cj X.prog X.w X.K X.mg X.base CX k f fd ps sp)(hr:b7 k X.A)(hb:Binds X.K fd ps ds)(hd:Vals dvs ds)(hx:Passes CX X E)
  (I:Inv X pins σ H s) (r:Vals vs us) (h:sp (vs++dvs) H Q E):wpAny (model X.prog X.w) X.A (call (.ref f) us) (EP X pins σ Q) X.xe s:=by
 have r2:Vals (vs++dvs) (us++ds):=r.append hd
 have hl:(us++ds).length=ps.length:=by rw [← r2.length];exact F.len _ _ _ _ h
 refine wpAny_call (codeAny_mono (F.run X.A X.stack s H ⟨us,[]⟩ (us++ds) (vs++dvs) Q E hr I.J1 (hb s us I.mQ hl) r2 h) fun r s' hq=> ?_)
 cases r with
 | error e=>exact hx pins σ H s e s' I hq
 | ok fl=>
  cases fl with
  | ret u=>exact I.after hq
  | next=>exact False.elim hq
  | brk=>exact False.elim hq
  | cont=>exact False.elim hq
theorem zu (F:cj X.prog X.w X.K X.mg X.base CX k f fd ps sp)(hr:b7 k X.A)(hg:Gl X x)(hm:X.mg x=some (.ref f))(hk:keepIn X.K (.ref f)=true)(hb:Binds X.K fd ps ds)(hd:Vals dvs ds)(hx:Passes CX X E)
  (ha:PA X (e::es) t) (ue:(x==("__debug__":Str))=false:=by decide) (he:starEach (e::es) X.env=(false,eval e X.env)::starEach es X.env:=by rfl) (sG:(backTo pos (starEach es X.env)).any (·.1)=false:=by rfl):
  PE X (.Call (.Name x p) (e::es) [] pos) (CL sp dvs E t):=by
 intro pins s σ H Q I h
 refine wpAny_Call_Name_kw (gR I hg hm ?_ ue)
 refine PySem.W.callWith_K (h₀:=X.base) I.ok.mod.Je hk (b8 (ha pos pins s σ H _ I h) fun us s1 ⟨vs,H1,I1,r,q⟩=>⟨I1.mQ,?_⟩) he sG
 exact mX F hr hb hd hx I1 r q
structure Mk (K:Frag)(C f:Addr):Prop where
 makes:PySem.W.makesIn K C=true
 init:PySem.W.findIn K (.ref C) "__init__"=some (some (.ref f))
 fn:PySem.W.isFn K (.ref f)=true
 kp:keepIn K (.ref C)=true
theorem oV {pins:List (Addr×Obj)}{σ:St}{H:Hp}{s:Shared}{Q:VK}{us:List Value}{vs:List V}(M:Mk X.K C f)(F:cj X.prog X.w X.K X.mg X.base CX k f fd ps sp)(hr:b7 (k+1) X.A)(hb:Binds X.K fd ps ds)(hd:Vals dvs ds)
  (hx:Passes CX X E) (I:Inv X pins σ H s) (r:Vals vs us)
  (h:∀x dx,H x=none→H dx=none→dx≠x→sp (.ref x::(vs++dvs)) (upd (upd H dx (.own x)) x (.ins C dx [])) (fun v H2=>v=.cb∧Q (.ref x) H2) E):
  wpAny (model X.prog X.w) X.A (call (.ref C) us) (EP X pins σ Q) X.xe s:=by
 have hq:=h (s.heap.objs.size+1) s.heap.objs.size (I.bK.fresh (akB _)) (I.bK.fresh (aao _)) (aaN (aa6 _))
 have I2:=Inv.made (C:=C) I
 have r2:Vals (V.ref (s.heap.objs.size+1)::(vs++dvs)) (Value.ref (s.heap.objs.size+1)::(us++ds)):=.cons rfl (r.append hd)
 have hl:(Value.ref (s.heap.objs.size+1)::us++ds).length=ps.length:=by
  have e:=r2.length
  rw [F.len _ _ _ _ hq] at e
  exact e.symm
 refine wpAny_call (wW (f:=f) I.mQ M.makes M.init (beq_iff_eq.mp M.fn) (codeAny_mono (F.run _ X.stack _ _ ⟨Value.ref (s.heap.objs.size+1)::us,[]⟩ (Value.ref (s.heap.objs.size+1)::(us++ds)) _ _ E (hr.make C us [])
  (I2.J1.make C us []) (hb _ (Value.ref (s.heap.objs.size+1)::us) I2.mQ hl) r2 hq) fun r s' lC => ?_))
 cases r with
 | error e=>exact hx pins σ _ _ e s' I2 lC
 | ok fl=>
  cases fl with
  | ret u=>
   obtain ⟨v,H',I3,rv,ev,q3⟩:=I2.after lC
   subst ev
   exact ⟨rv,⟨V.ref (s.heap.objs.size+1),H',I3,rfl,q3⟩⟩
  | next=>exact False.elim lC
  | brk=>exact False.elim lC
  | cont=>exact False.elim lC
theorem zv (M:Mk X.K C f)(F:cj X.prog X.w X.K X.mg X.base CX k f fd ps sp)(hr:b7 (k+1) X.A)(hg:Gl X x)(hm:X.mg x=some (.ref C))(hb:Binds X.K fd ps ds)(hd:Vals dvs ds)(hx:Passes CX X E)
  (ha:PA X (e::es) t) (ue:(x==("__debug__":Str))=false:=by decide) (he:starEach (e::es) X.env=(false,eval e X.env)::starEach es X.env:=by rfl) (sG:(backTo pos (starEach es X.env)).any (·.1)=false:=by rfl):
  PE X (.Call (.Name x p) (e::es) [] pos) (CM C sp dvs E t):=by
 intro pins s σ H Q I h
 refine wpAny_Call_Name_kw (gR I hg hm ?_ ue)
 refine PySem.W.callWith_K (h₀:=X.base) I.ok.mod.Je M.kp (b8 (ha pos pins s σ H _ I h) fun us s1 ⟨vs,H1,I1,r,q⟩=>⟨I1.mQ,?_⟩) he sG
 exact oV M F hr hb hd hx I1 r q
theorem wX (M:Mk X.K C f)(F:cj X.prog X.w X.K X.mg X.base CX k f fd ps sp)(hr:b7 (k+1) X.A)(hg:Gl X x)(hm:X.mg x=some (.ref C))(hb:Binds X.K fd ps ds)(hd:Vals dvs ds)(hx:Passes CX X E)
  (ue:(x==("__debug__":Str))=false:=by decide):PE X (.Call (.Name x p) [] [] pos) (CM C sp dvs E fL):=by
 intro pins s σ H Q I h
 refine wpAny_Call_Name_kw (gR I hg hm ?_ ue)
 exact PySem.W.callWith_K0 I.mQ M.kp (oV (us:=[]) M F hr hb hd hx I .nil h)
end
section
variable {X:Cx}{CX:iJ}{k:Nat}{f C:Addr}{fd:FuncData}{ps ks:List Str}{sp:Sp}{E:XK}{x m:Str}{p pos apos akn:Pos}{e o:Expr}{es:List Expr}{kws:List Keyword}{te ta:TE}{t tk:TA}{nm:Option Str}
variable {g:List Value→List Value→List Value}{gV:List V→List V→List V}
end
structure aA (N P:List Str)(sc:Scope):Prop where
 kind:sc.kind=.function
 co:sc.isCoroutine=false
 gen:sc.isGenerator=false
 nd:N.Nodup
 pre:N.take P.length=P
 par:∀x∈P,sc.names.lookup x=some .local∨sc.names.lookup x=some .cell
 EY:∀y∈sc.names,y.2≠.free
theorem lO {kindOf:Str→Option NameKind}{x:Str}:∀{binds:List (Str×Value)} {m:Str→Option Value},(∀v,(x,v)∉binds)→bindL kindOf binds m x=m x
 | [],_,_=>rfl
 | (n,v)::r,m,h=>by
  unfold bindL
  rw [lO fun w hw=>h w (aav _ hw)]
  split
  ·have:x≠n:=by rintro rfl;exact h v aax
   simp [this]
  ·rfl
theorem lQ {kindOf:Str→Option NameKind}{x:Str}:∀{binds:List (Str×Value)} {m:Str→Option Value},(∀v,(x,v)∉binds)→bindC kindOf binds m x=m x
 | [],_,_=>rfl
 | (n,v)::r,m,h=>by
  unfold bindC
  rw [lQ fun w hw=>h w (aav _ hw)]
  split
  ·rfl
  ·have:x≠n:=by rintro rfl;exact h v aax
   simp [this]
theorem lR {kindOf:Str→Option NameKind}{x:Str}{v:Value}:∀{P:List Str} {vs:List Value} {i:Nat} {m:Str→Option Value},P.Nodup→P[i]? =some x→vs[i]? =some v→kindOf x=some .local→
  bindL kindOf (P.zip vs) m x=some v
 | [],_,_,_,_,h,_,_=>by simp at h
 | _::_,[],_,_,_,_,h,_=>by simp at h
 | p::P,w::vs,0,m,nd,h1,h2,hk=>by
  simp at h1 h2;subst h1;subst h2
  show bindL kindOf ((p,w)::P.zip vs) m p=_
  unfold bindL
  rw [lO fun v hv=>(aaX.mp nd).1 (ai_ hv).1,if_pos hk]
  simp
 | p::P,w::vs,i+1,m,nd,h1,h2,hk=>by
  show bindL kindOf ((p,w)::P.zip vs) m x=_
  unfold bindL
  exact lR (i:=i) (aaX.mp nd).2 (by simpa using h1) (by simpa using h2) hk
theorem lS {kindOf:Str→Option NameKind}{x:Str}{v:Value}:∀{P:List Str} {vs:List Value} {i:Nat} {m:Str→Option Value},P.Nodup→P[i]? =some x→vs[i]? =some v→kindOf x≠some .local→
  bindC kindOf (P.zip vs) m x=some v
 | [],_,_,_,_,h,_,_=>by simp at h
 | _::_,[],_,_,_,_,h,_=>by simp at h
 | p::P,w::vs,0,m,nd,h1,h2,hk=>by
  simp at h1 h2;subst h1;subst h2
  show bindC kindOf ((p,w)::P.zip vs) m p=_
  unfold bindC
  rw [lQ fun v hv=>(aaX.mp nd).1 (ai_ hv).1,if_neg hk]
  simp
 | p::P,w::vs,i+1,m,nd,h1,h2,hk=>by
  show bindC kindOf ((p,w)::P.zip vs) m x=_
  unfold bindC
  exact lS (i:=i) (aaX.mp nd).2 (by simpa using h1) (by simpa using h2) hk
def start (N:List Str)(vs:List V):St:=vs.map some++aau (N.length - vs.length) none
def jy (CX:iJ)(P:Program)(w:World)(K:Frag)(mg:Str→Option Value)(base:Heap)(N:List Str)(qual:Str)(scope:Scope)(f:Addr)(cd:Value)(A:Around)(outer:List Env)(s:Shared)(H:Hp)(E:XK):Cx where
 prog:=P
 w:=w
 K:=K
 mg:=mg
 base:=base
 A:=A.deeper (envOfC qual scope s.heap.objs.size f cd)
 N:=N
 s₀:=s
 H₀:=H
 env:=envOfC qual scope s.heap.objs.size f cd
 outer:=outer
 stack:=envOfC qual scope s.heap.objs.size f cd::outer
 ex:=[]
 calm:=true
 fn:=fun _=>true
 pn:=[]
 xe:=fun e s' =>wpAny (model P w) (A.deeper (envOfC qual scope s.heap.objs.size f cd)) (leaving (envOfC qual scope s.heap.objs.size f cd) e) (fun _ J2 =>CX outer H s E e J2) (fun e' J2 =>CX outer H s E e' J2) s'
theorem oW {sc:Scope}{n:Nat}{x:Str}(h:sc.names.lookup x=some .cell):∃c,(cellsFrom n sc.names []).lookup x=some c:=by
 have q:=PySem.W.cellsFrom_some sc.names n [] (.inl h)
 exact ab_.mp q
theorem uf {CX:iJ}{P:Program}{w:World}{K:Frag}{mg:Str→Option Value}{base:Heap}{N ps:List Str}{qual:Str}{scope:Scope}{f:Addr}{cd:Value}{A:Around}{outer:List Env}{s s1:Shared}{H:Hp}{E:XK}{us:List Value}{vs:List V}
  (S:aA N ps scope) (hd:A.handled=none) (e0:qV P w K mg base A outer s H) (hl:vs.length=ps.length) (r:Vals vs us)
  (x:InCallC s s.heap.objs.size (bindL (envOfC qual scope s.heap.objs.size f cd).kindOf (ps.zip us) fun _=>none) (cellsFrom (s.heap.objs.size+1) scope.names []) (bindC (envOfC qual scope s.heap.objs.size f cd).kindOf (ps.zip us) fun _=>none) s1):
  Inv (jy CX P w K mg base N qual scope f cd A outer s H E) [] (start N vs) H s1:=by
 have sG:ps.length≤N.length:=by have:=congrArg abk S.pre;rw [aaG] at this;omega
 obtain ⟨h1,tk,rfl,hk⟩:=x.done
 have J3:∀b:Addr,b∉(jy CX P w K mg base N qual scope f cd A outer s H E).ex:=fun b z=>absurd (show b∈([]:List Addr) from z) (by simp)
 refine ⟨⟨e0.mod,S.kind,rfl,rfl,aao _,fun y z c h1 h2=> ?_,fun y hy=> ?_,fun y c _ h=> ?_,fun _=>hd,Around.frames_deeper e0.frames,.inr ⟨rfl,rfl⟩,fun b z=>absurd z (J3 b),e0.bs,e0.zg,fun b _ _=>J3 b,fun b z=>absurd z (J3 b),e0.jx,e0.EI⟩,
  rfl,e0.bare,Un.kept hk,⟨_,x.toInCall.ns,fun i y v h1 h2 h3=> ?_⟩,fun y c h=>⟨_,x.cell y c h⟩,e0.bK.fresh (aao _),fun y c h=> ?_,fun p hp=>absurd (show p∈([]:List (Addr×Obj)) from hp) (by simp),e0.bK.kept hk,?_⟩
 ·exact name_of_addr x.apart (PySem.mem_of_lookup h1) (PySem.mem_of_lookup h2)
 ·have hy:scope.names.lookup y=some .cell∨scope.names.lookup y=some .free:=hy
  rcases hy with hy | hy
  ·exact oW hy
  ·exact absurd rfl (S.EY _ (PySem.mem_of_lookup hy))
 ·exact abe (x.above y c (PySem.mem_of_lookup h))
 ·have hi:i < vs.length:=by
   unfold start at h2
   by_cases hi:i < vs.length
   ·exact hi
   ·rw [aat (by simpa using hi)] at h2
    rw [aaY] at h2
    split at h2 <;> cases h2
  have ha:vs[i]? =some v:=by
   unfold start at h2
   rw [aaq (by simpa using hi),Wp] at h2
   cases e:vs[i]? with
   | none=>rw [e] at h2;cases h2
   | some a=>rw [e] at h2;cases h2;rfl
  obtain ⟨u,hu,rv⟩:=r.get ha
  have hp:ps[i]? =some y:=by
   rw [← S.pre,List.getElem?_take_of_lt (by omega)];exact h1
  have ndP:ps.Nodup:=by rw [← S.pre];exact S.nd.sublist (List.take_sublist _ _)
  refine ⟨u,rv,?_⟩
  rcases S.par y (aai hp) with k | k
  ·exact .inl ⟨k,lR ndP hp hu k⟩
  ·obtain ⟨c,e⟩:=oW (n:=s.heap.objs.size+1) k
   refine .inr ⟨.inl k,c,e,?_⟩
   have q:=x.cell y c e
   rw [lS ndP hp hu (by show scope.names.lookup y≠_;rw [k];decide)] at q
   exact q
 ·exact e0.bK.fresh (abe (x.above y c (PySem.mem_of_lookup h)))
 ·unfold start
  show _=N.length
  rw [aap,ir,aa2]
  omega
theorem sH {CX:iJ}{P:Program}{w:World}{K:Frag}{mg:Str→Option Value}{base:Heap}{k:Nat}{f:Addr}{name qual:Str}{params:Arguments}{body:List Stmt}{scope:Scope}{dV kV doc pm bx ct oc:Value}{an od:Option Addr}
  {kY:Array (Option Value)} {N ps:List Str} {sp:Sp} (lk:K.lookup f=some ⟨oc,od,.func (fnOf name qual params body scope dV kV doc pm an bx ct),kY⟩) (lj:codeIn K bx qual=true) (S:aA N ps scope)
  (len:∀vs H Q E,sp vs H Q E→vs.length=ps.length)
  (gS:∀(A:Around) (outer:List Env) (s:Shared) (H:Hp) (vs:List V) (Q:VK) (E:XK),b7 k (A.deeper (envOfC qual scope s.heap.objs.size f bx))→sp vs H Q E→
   ∃t,PSs (jy CX P w K mg base N qual scope f bx A outer s H E) body t∧t {nx:=fun _ H' =>Q .cb H',rt:=Q} (start N vs) H):
  cj P w K mg base CX (k+1) f (fnOf name qual params body scope dV kV doc pm an bx ct) ps sp:=by
 refine ⟨len,fun A outer s H args us vs Q E hr e0 hb r qF=> ?_⟩
 have hl:=len _ _ _ _ qF
 have KX:K.In s.heap:=e0.mod.Je.keeps fun b o e=>(e0.bs b o e).1
 have lim:s.heap.NoLimit:=e0.mod.nolimit.keeps fun b o e=>(e0.bs b o e).1
 have J4:∀y∈ps.zip us,scope.names.lookup y.1=some .local∨(scope.names.lookup y.1=some .cell∧((cellsFrom (s.heap.objs.size+1) scope.names []).lookup y.1).isSome=true):=fun ⟨n,v⟩ hy=>by
  rcases S.par n (ai_ hy).1 with q | q
  ·exact .inl q
  ·exact .inr ⟨q,PySem.W.cellsFrom_some _ _ _ (.inl q)⟩
 refine codeAny_call_function hr.depth (KX _ _ lk) rfl S.co S.gen rfl (PySem.W.codeRec_of KX lj) (hb _ _ _ _ ?_)
 refine wpAny_newFunctionEnv_cells S.kind J4 fun env he s1 x=> ?_
 subst he
 refine ⟨lim.keeps x.toInCall.keep,codeAny_func ?_⟩
 obtain ⟨t,ht,hq⟩:=gS A outer s H vs Q E (hr.deeper _) qF
 have I:Inv (jy CX P w K mg base N qual scope f bx A outer s H E) [] (start N vs) H s1:=uf S hr.hd e0 hl r x
 refine wpAny_mono (ht [] s1 (start N vs) H _ I hq) (fun fl s' hs=> ?_) fun e s' hs=>hs
 have fin:∀{σ' :St} {H' :Hp} {v:V} {u:Value},Inv (jy CX P w K mg base N qual scope f bx A outer s H E) [] σ' H' s' →RelV v u→Q v H' →CE outer P w H s Q u s' :=
  fun {σ' H' v u} J rv q=>⟨v,H',J.os,J.bare,J.base,J.bK,rv,q⟩
 cases fl with
 | ret u=>
  obtain ⟨v,σ',H',J,rv,q⟩:=hs
  exact fin J rv q
 | next=>
  obtain ⟨σ',H',J,q⟩:=hs
  exact fin (v:=V.cb) (u:=Value.none) J rfl q
 | brk=>
  obtain ⟨_,_,_,q⟩:=hs
  exact False.elim q
 | cont=>
  obtain ⟨_,_,_,q⟩:=hs
  exact False.elim q
end L2
namespace L2
open PySem PySem.Spec PyProof.Rows
section
variable {X:Cx}{x:Str}{p pos:Pos}{e:Expr}{es:List Expr}{t:TA}{id T:String}{r:List V→Hp→VK→Prop}
def tCB (r:List V→Hp→VK→Prop)(t:TA):TE:=fun σ H Q=>t σ H fun vs H1=>r vs H1 Q
theorem aQ (hc:gj X (.builtin id) r)(hg:Gl X x)(hm:X.mg x=none)(hv:bootBuiltins x=some (.builtin id))(ha:PA X (e::es) t)(hn:x≠ "__name__":=by decide)(ue:(x==("__debug__":Str))=false:=by decide)
  (he:starEach (e::es) X.env=(false,eval e X.env)::starEach es X.env:=by rfl) (sG:(backTo pos (starEach es X.env)).any (·.1)=false:=by rfl):PE X (.Call (.Name x p) (e::es) [] pos) (tCB r t):=by
 intro pins s σ H Q I h
 refine wpAny_Call_Name_kw (gu I hg hm hv ?_ hn ue)
 exact PyProof.Rows.callWith_builtin1 (b8 (ha pos pins s σ H _ I h) fun us s1 ⟨vs,H1,I1,r1,q1⟩=>hc pins s1 σ H1 vs us Q I1 r1 q1) he sG
theorem dA (hc:gj X (.type T) r)(hg:Gl X x)(hm:X.mg x=none)(hv:bootBuiltins x=some (.type T))(ha:PA X (e::es) t)(hn:x≠ "__name__":=by decide)(ue:(x==("__debug__":Str))=false:=by decide)
  (he:starEach (e::es) X.env=(false,eval e X.env)::starEach es X.env:=by rfl) (sG:(backTo pos (starEach es X.env)).any (·.1)=false:=by rfl):PE X (.Call (.Name x p) (e::es) [] pos) (tCB r t):=by
 intro pins s σ H Q I h
 refine wpAny_Call_Name_kw (gu I hg hm hv ?_ hn ue)
 exact PyProof.Rows.callWith_type1 (b8 (ha pos pins s σ H _ I h) fun us s1 ⟨vs,H1,I1,r1,q1⟩=>hc pins s1 σ H1 vs us Q I1 r1 q1) he sG
end
end L2
namespace HT
open PySem PyProof.Rows
section
open PySem.SeqAt
open PySem.AutoSeq1 (wpAny_loadPart')
open PySem.MeetsSeq PySem.MeetsSeq2 PySem.MeetsSeq3
end
section
variable {prog:Program}{w:World}{A:Around}{E:Value→Shared→Prop}{s:Shared}
def cW (n d:Nat):Option Int→Nat
 | none=>d
 | some v=>if v < 0 then (v+(n:Int)).toNat else min v.toNat n
theorem oX (n d:Nat):cW n d none=d:=rfl
theorem jE (n d k:Nat):cW n d (some (k:Int))=min k n:=by
 show (if (k:Int) < 0 then ((k:Int)+(n:Int)).toNat else min (k:Int).toNat n)=min k n
 rw [if_neg (by omega),Int.toNat_natCast]
theorem EZ (n d:Nat)(hd:d≤n)(o:Option Int):cW n d o≤n:=by
 cases o with
 | none=>exact hd
 | some v=>
  show (if v < 0 then (v+(n:Int)).toNat else min v.toNat n)≤n
  by_cases hv:v < 0
  ·rw [if_pos hv];omega
  ·rw [if_neg hv];exact Nat.min_le_right _ _
theorem sI (v:Int)(n d:Nat):(if v < 0 then max (v+(n:Int)) 0 else min v (n:Int))=((cW n d (some v):Nat):Int):=by
 show (if v < 0 then max (v+(n:Int)) 0 else min v (n:Int))=(((if v < 0 then (v+(n:Int)).toNat else min v.toNat n):Nat):Int)
 by_cases hv:v < 0
 ·simp only [if_pos hv];omega
 ·simp only [if_neg hv];omega
theorem qW (lo hi:Option Int)(n:Nat):Builtin.Slice.sliceAdjust lo hi 1 (n:Int)=(((cW n 0 lo:Nat):Int),((cW n n hi:Nat):Int)):=by
 have h1:¬ ((1:Int) < 0):=by omega
 unfold Builtin.Slice.sliceAdjust
 simp only [h1,if_false]
 refine acb ?_ ?_
 ·cases lo with
  | none=>rfl
  | some v=>exact sI v n 0
 ·cases hi with
  | none=>rfl
  | some v=>exact sI v n n
theorem qX (i j:Nat):Builtin.Slice.slicePlaces (i:Int) (j:Int) 1=j - i:=by
 unfold Builtin.Slice.slicePlaces
 have h1:(1:Int) > 0:=by omega
 simp only [h1,if_true,Int.ediv_one]
 split <;> omega
theorem jX {v:Value}{o:Option Int}{Q:Option Int→Shared→Prop}(p:IsPart v o)(h:Q o s):wpAny (model prog w) A (Builtin.Slice.slicePartIndex v) Q E s:=by
 cases p with
 | none=>exact slicePart_none h
 | int i t=>exact slicePart_int h
theorem iM {sl:Addr}{vl vu:Value}{lo hi:Option Int}{n:Nat}{Q:Int×Int×Nat→Shared→Prop}(hs:s.heap.IsSliceOf sl vl vu .none)(pl:IsPart vl lo)(pu:IsPart vu hi)
  (h:Q (((cW n 0 lo:Nat):Int),1,cW n n hi - cW n 0 lo) s):wpAny (model prog w) A (Builtin.Slice.sliceApplied (.ref sl) (pure (n:Int))) Q E s:=by
 obtain ⟨os,J5,hcs,J7⟩:=id hs
 unfold Builtin.Slice.sliceApplied Builtin.Slice.sliceFields
 refine wpAny_bind (wpAny_bind (wpAny_field J5 J7 (x:=vl) rfl (wpAny_bind (wpAny_field J5 J7 (x:=vu) rfl (wpAny_bind (wpAny_field J5 J7 (x:=.none) rfl (wpAny_pure ?_)))))))
 refine wpAny_bind (slicePart_none ?_)
 show wpAny _ _ (if ((1:Int)==0)=true then _ else _) _ _ s
 rw [if_neg (by decide)]
 refine wpAny_bind (jX pl (wpAny_bind (jX pu (wpAny_bind (wpAny_pure ?_)))))
 show wpAny _ _ (match Builtin.Slice.sliceAdjust lo hi 1 (n:Int) with | (lo,hi)=>pure (lo,(1:Int),Builtin.Slice.slicePlaces lo hi 1)) _ _ s
 rw [qW lo hi n]
 show wpAny _ _ (pure (((cW n 0 lo:Nat):Int),(1:Int),Builtin.Slice.slicePlaces ((cW n 0 lo:Nat):Int) ((cW n n hi:Nat):Int) 1)) _ _ s
 rw [qX]
 exact wpAny_pure h
theorem wY (xs:Array Value)(i k:Nat):((abF k).filterMap fun (m:Nat)=>xs[((i:Int)+(m:Int)*1).toNat]?).toArray=((xs.toList.drop i).take k).toArray:=by
 have e:(fun (m:Nat)=>xs[((i:Int)+(m:Int)*1).toNat]?)=fun m=>xs[i+m]? :=by
  funext m
  have:((i:Int)+(m:Int)*1).toNat=i+m:=by omega
  rw [this]
 rw [e]
 have:=pick_run xs i k
 rw [List.filterMap_map] at this
 have e2:((fun x=>xs[x]?) ∘ fun x=>i+x)=fun m=>xs[i+m]? :=rfl
 rw [e2] at this
 rw [this]
theorem gT {t sl:Addr}{items:Array Value}{vl vu:Value}{lo hi:Option Int}{Q:Value→Shared→Prop}(ht:IsTup s.heap t items)(hs:s.heap.IsSliceOf sl vl vu .none)(pl:IsPart vl lo)(pu:IsPart vu hi)
  (hw:¬ (cW items.size 0 lo=0∧cW items.size items.size hi=items.size))
  (h:Q (.ref s.heap.objs.size) {s with heap:=s.heap.push {cls:=.type "tuple",data:=.seq ((items.toList.drop (cW items.size 0 lo)).take (cW items.size items.size hi - cW items.size 0 lo)).toArray}})
  (hsz:items.size≤sizeLine):wpAny (model prog w) A (getItem (.ref t) (.ref sl)) Q E s:=by
 have sJ:sizeOk (.seq ((items.toList.drop (cW items.size 0 lo)).take (cW items.size items.size hi - cW items.size 0 lo)).toArray):=by
  show ((items.toList.drop (cW items.size 0 lo)).take (cW items.size items.size hi - cW items.size 0 lo)).toArray.size≤sizeLine
  rw [aaF,aaG,abS,abY]
  omega
 have hj:cW items.size items.size hi≤items.size:=EZ _ _ (aao _) hi
 obtain ⟨os,J5,hcs,J7⟩:=id hs
 have hTs:s.TypeIs (.ref sl) "slice":=⟨os,J5,hcs⟩
 unfold getItem
 try with_reducible refine wpAny_holding ?_
 first | refine wpAny_bind (wpAny_pure ?_) | skip
 refine wpAny_bind (wpAny_sequenceKey ht.typeIs (by decide) ?_)
 refine wpAny_bind (wpAny_callSpecial?_slot (name:=Str.ofString "__getitem__") ht.typeIs PyProof.Rows.slot_tuple_getitem
  (wpAny_call_entry PyProof.Rows.slot_tuple_getitem ht.typeIs entry_tuple_getitem ?_ (args_tuple_getitem _ _)))
 show wpAny _ _ (Builtin.Tuple.tupleItemsOf (.ref t) >>=_) _ _ s
 refine wpAny_bind (tupleItemsOf_ ht ?_)
 refine wpAny_bind (wpAny_typeOf hTs ?_)
 rw [if_pos (by decide)]
 refine wpAny_bind (iM hs pl pu ?_)
 have RX:¬ ((((cW items.size 0 lo:Nat):Int)==0 && (1:Int)==1 && (cW items.size items.size hi - cW items.size 0 lo)==items.size)=true):=by
  intro q
  rw [aa_,aa_] at q
  have q1:((cW items.size 0 lo:Nat):Int)=0:=eq_of_beq q.1.1
  have q2:cW items.size items.size hi - cW items.size 0 lo=items.size:=eq_of_beq q.2
  exact hw ⟨by omega,by omega⟩
 show wpAny _ _ (if (((cW items.size 0 lo:Nat):Int)==0 && (1:Int)==1 && (cW items.size items.size hi - cW items.size 0 lo)==items.size)=true then _ else _) _ _ s
 rw [if_neg RX,wY]
 first
  | exact wpAny_bind (m:=Builtin.Tuple.tupleExact _) (wpAny_newObj_type (wpAny_pure ⟨_,rfl,wpAny_pure h⟩) sJ)
  | exact wpAny_bind (m:=Builtin.Tuple.tupleExact _) (wpAny_newObj_type (wpAny_bind (wpAny_pure (wpAny_pure ⟨_,rfl,wpAny_pure h⟩))) sJ)
  | exact wpAny_bind (wpAny_bind (m:=Builtin.Tuple.tupleExact _) (wpAny_newObj_type (wpAny_pure (wpAny_pure ⟨_,rfl,wpAny_pure h⟩)) sJ))
  | exact wpAny_bind (wpAny_bind (m:=Builtin.Tuple.tupleExact _) (wpAny_newObj_type (wpAny_pure ⟨_,rfl,wpAny_pure h⟩) sJ))
end
end HT
namespace L2
open PySem PySem.Spec PyProof.Rows
abbrev TO:=St→Hp→(Option Int→Hp→Prop)→Prop
def PO (X:Cx)(e:Option Expr)(t:TO):Prop:=
 ∀(pins:List (Addr×Obj)) (s:Shared) (σ:St) (H:Hp) (Q:Option Int→Hp→Prop),Inv X pins σ H s→t σ H Q→
  wpAny (model X.prog X.w) X.A (evalPart e X.env) (fun u s' =>∃o H',Inv X pins σ H' s' ∧IsPart u o∧Q o H') X.xe s
def zA:TO:=fun _ H Q=>Q none H
inductive wZ (Q:(Option Int→Hp→Prop))(x:V)(H1:Hp):Prop where
 | mk (i:_) (_:x=.int i) (_:Q (some i) H1):wZ Q x H1
def J8 (t:TE):TO:=fun σ H Q=>t σ H fun x H1=>wZ Q x H1
section
variable {X:Cx}{e:Expr}{te:TE}{lo hi:Option Expr}{tl th:TO}{pos p2:Pos}
theorem d3:PO X none zA:=by
 intro pins s σ H Q I h
 rw [evalPart_none]
 exact wpAny_pure ⟨none,H,I,.none,h⟩
theorem dc (h:PE X e te):PO X (some e) (J8 te):=by
 intro pins s σ H Q I hw
 rw [evalPart_some]
 refine b8 (h pins s σ H _ I hw) fun u s1 ⟨x,H1,I1,r1,q1⟩=> ?_
 obtain ⟨i,rfl,q⟩:=q1
 obtain ⟨t,rfl⟩:=r1
 exact ⟨some i,H1,I1,.int i t,q⟩
def QU (X:Cx)(r:V→Option Int→Option Int→Hp→VK→Prop):Prop:=
 ∀(pins:List (Addr×Obj)) (s:Shared) (σ:St) (H:Hp) (x:V) (v vl vu:Value) (lo hi:Option Int) (sl:Addr) (Q:VK),Inv X pins σ H s→RelV x v→s.heap.IsSliceOf sl vl vu .none→IsPart vl lo→IsPart vu hi→r x lo hi H Q→
  ∃T id,typeLookup (.type T) "__getitem__"=pure (some (.builtin id))∧s.TypeIs v T∧wpAny (model X.prog X.w) X.A (getItem v (.ref sl)) (EP X pins σ Q) X.xe s
def tSl (r:V→Option Int→Option Int→Hp→VK→Prop)(te:TE)(tl th:TO):TE:=fun σ H Q=>te σ H fun x H1=>tl σ H1 fun l H2=>th σ H2 fun u H3=>r x l u H3 Q
theorem cQ {r:V→Option Int→Option Int→Hp→VK→Prop}(hr:QU X r)(he:PE X e te)(hl:PO X lo tl)(hu:PO X hi th):PE X (.Subscript e (.Slice lo hi none p2) pos) (tSl r te tl th):=by
 intro pins s σ H Q I h
 refine Subscript_ (b8 (he pins s σ H _ I h) fun v s1 ⟨x,H1,I1,r1,q1⟩=> ?_)
 refine wpAny_Slice (b8 (hl pins s1 σ H1 _ I1 q1) fun vl s2 ⟨l,H2,I2,pl,q2⟩=>b8 (hu pins s2 σ H2 _ I2 q2) fun vu s3 ⟨u,H3,I3,pu,q3⟩=> ?_)
 rw [evalPart_none]
 refine wpAny_pure ?_
 have I4:Inv X pins σ H3 {s3 with heap:=s3.heap.push {cls:=.type "slice",data:=.fields #[vl,vu,.none]}}:=I3.kept (t' :=s3.toks) fun b ob q=>Heap.get?_push_of_some _ q
 obtain ⟨T,id,hT,ht,hg⟩:=hr pins {s3 with heap:=s3.heap.push {cls:=.type "slice",data:=.fields #[vl,vu,.none]}} σ H3 x v vl vu l u s3.heap.objs.size Q I4 r1 (Heap.IsSliceOf.new ..) pl pu q3
 show wpAny (model X.prog X.w) X.A (subscriptTail e (.Slice lo hi none p2) v (.ref s3.heap.objs.size)) (EP X pins σ Q) X.xe {s3 with heap:=s3.heap.push {cls:=.type "slice",data:=.fields #[vl,vu,.none]}}
 exact tail_any (ops:=[.ref s3.heap.objs.size,v]) ht hT hg (by with_unfolding_all rfl)
def dE (xs:List V)(lo hi:Option Int):List V:=(xs.drop (HT.cW xs.length 0 lo)).take (HT.cW xs.length xs.length hi - HT.cW xs.length 0 lo)
theorem jf (xs:List V)(lo hi:Option Int):(dE xs lo hi).length≤xs.length:=by
 unfold dE
 rw [aaG,abS]
 omega
inductive J9 (K:Frag)(x:V)(lo:Option Int)(hi:Option Int)(H:Hp)(Q:VK):Prop where
 | mk (a xs:_) (_:x=.ref a) (_:bQ K H a xs) (_:¬ (HT.cW xs.length 0 lo=0∧HT.cW xs.length xs.length hi=xs.length)) (_:∀p,H p=none→Q (.ref p) (upd H p (.tup (dE xs lo hi)))):J9 K x lo hi H Q
theorem FA:QU X (J9 X.K):=by
 intro pins s σ H x v vl vu lo hi sl Q I rx hs pl pu h
 obtain ⟨a,xs,rfl,hx,hw,q⟩:=h
 cases rx
 obtain ⟨its,r,ht,hz⟩:=I.tuple hx
 have hlen:its.toArray.size=xs.length:=by rw [aaF];exact r.length.symm
 refine ⟨"tuple",_,PyProof.Rows.slot_tuple_getitem.lookup,ht.typeIs,?_⟩
 refine HT.gT ht hs pl pu (by rw [hlen];exact hw) ?_ (by rw [hlen];exact hz)
 rw [hlen]
 refine ⟨.ref s.heap.objs.size,_,I.laid (t' :=s.toks) (o:=.tup (dE xs lo hi)) (fun b ob q=>Heap.get?_push_of_some _ q) (aao _) ?_,rfl,q _ (I.bK.fresh (aao _))⟩
 exact ⟨aak (jf xs lo hi) hz,_,(r.drop (HT.cW xs.length 0 lo)).take (HT.cW xs.length xs.length hi - HT.cW xs.length 0 lo),IsTup.new _ _⟩
end
end L2
namespace L2
open PySem PySem.Spec PyProof.Rows
def v7 (n:Nat)(i:Int):Option Nat:=if 0≤i then (if i < n then some i.toNat else none) else if -(n:Int)≤i then some (i+n).toNat else none
def dr {α:Type}(xs:List α)(i:Int):Option α:=(v7 xs.length i).bind fun j=>xs[j]?
theorem sL {n:Nat}{i:Int}{j:Nat}(h:v7 n i=some j):seqIndex? i n=some j∧j < n∧ -(n:Int)≤i∧i < n:=by
 unfold v7 at h
 by_cases h0:0≤i
 ·rw [if_pos h0] at h
  by_cases h1:i < n
  ·rw [if_pos h1] at h
   have e:i.toNat=j:=aaE h
   exact ⟨by rw [seqIndex_of h0 h1,e],by omega,by omega,h1⟩
  ·rw [if_neg h1] at h;cases h
 ·rw [if_neg h0] at h
  by_cases h1: -(n:Int)≤i
  ·rw [if_pos h1] at h
   have e:(i+n).toNat=j:=aaE h
   exact ⟨by rw [seqIndex_neg (by omega) h1,e],by omega,h1,by omega⟩
  ·rw [if_neg h1] at h;cases h
theorem mY {α:Type}{xs:List α}{i:Int}{v:α}(h:dr xs i=some v):∃j,seqIndex? i xs.length=some j∧xs[j]? =some v∧j < xs.length∧ -(xs.length:Int)≤i∧i < xs.length:=by
 unfold dr at h
 cases e:v7 xs.length i with
 | none=>rw [e] at h;cases h
 | some j=>
  rw [e] at h
  obtain ⟨h1,h2,h3,h4⟩:=sL e
  exact ⟨j,h1,h,h2,h3,h4⟩
theorem a_ {α:Type}{xs:List α}{j:Nat}{v:α}(h:xs[j]? =some v):dr xs (j:Int)=some v:=by
 have hj:j < xs.length:=(be.mp h).1
 have e:v7 xs.length (j:Int)=some j:=by
  unfold v7
  rw [if_pos (by omega),if_pos (by omega)];simp
 unfold dr;rw [e];exact h
def zB (b:Expr):Prop:=∀o i,subscripted b false o i=operate [o,i] (getItem o i)
def FC (X:Cx)(r:R2):Prop:=
 ∀(value slice:Expr) (pins:List (Addr×Obj)) (s:Shared) (σ:St) (H:Hp) (x y:V) (v u:Value) (Q:VK),Inv X pins σ H s→RelV x v→RelV y u→r x y H Q→
  subscripted slice false v u=operate [v,u] (getItem v u)→wpAny (model X.prog X.w) X.A (subscriptTail value slice v u) (EP X pins σ Q) X.xe s
def RY (X:Cx)(id:String)(r:V→List V→Hp→VK→Prop):Prop:=
 ∀(pins:List (Addr×Obj)) (s:Shared) (σ:St) (H:Hp) (x:V) (xs:List V) (v:Value) (us:List Value) (Q:VK),Inv X pins σ H s→RelV x v→Vals xs us→r x xs H Q→
  wpAny (model X.prog X.w) X.A (call (.builtin id) (v::us)) (EP X pins σ Q) X.xe s
section
variable {X:Cx}{a b:Expr}{ta tb:TE}{pos:Pos}
theorem aS {r:R2}(hr:FC X r)(ha:PE X a ta)(hb:PE X b tb)(hs:zB b):PE X (.Subscript a b pos) (Jg r ta tb):=by
 intro pins s σ H Q I h
 exact Subscript_ (EW ha hb I h fun v u s2 x y H2 I2 rx ry q=>hr a b pins s2 σ H2 x y v u Q I2 rx ry q (hs _ _))
inductive zC (K:Frag)(x:V)(y:V)(H:Hp)(Q:VK):Prop where
 | mk (p xs i v:_) (_:x=.ref p) (_:y=.int i) (_:aT K H p xs) (_:dr xs i=some v) (_:Q v H):zC K x y H Q
inductive zD (K:Frag)(x:V)(y:V)(H:Hp)(Q:VK):Prop where
 | mk (p xs i v:_) (_:x=.ref p) (_:y=.int i) (_:bQ K H p xs) (_:dr xs i=some v) (_:Q v H):zD K x y H Q
inductive J_ (x:V)(y:V)(H:Hp)(Q:VK):Prop where
 | mk (z i c:_) (_:x=.str z) (_:y=.int i) (_:z.length≤sizeLine) (_:dr z.cps.toList i=some c) (_:Q (.str ⟨#[c]⟩) H):J_ x y H Q
theorem aK:FC X (zC X.K):=by
 intro value slice pins s σ H x y v u Q I rx ry h hs
 obtain ⟨p,xs,i,z,rfl,rfl,hq,he,q⟩:=h
 cases rx
 obtain ⟨t,rfl⟩:=ry
 obtain ⟨its,r,pl,hz⟩:=I.list hq
 obtain ⟨j,h1,h2,h3,h4,h5⟩:=mY he
 obtain ⟨w,ew,oI⟩:=r.get h2
 have hl:=r.length
 have hn:=jW
 have fin:EP X pins σ Q w s:=⟨z,H,I,oI,q⟩
 by_cases h0:0≤i
 ·have hj:i.toNat=j:=by
   rw [seqIndex_of h0 h5] at h1
   exact aaE h1
  exact item_listR pl.isList h0 (by omega) (by rw [hj];simpa using ew) fin hs
 ·have hj:(i+(its.toArray.size:Int)).toNat=j:=by
   rw [seqIndex_neg (by omega) h4] at h1
   rw [aaF, ← hl]
   exact aaE h1
  exact subscriptTail_builtinR (x:=w) pl.isList.typeIs slot_list_getitem.lookup
   (wpAny_getItem_list_neg (Q:=fun r s' =>r=w∧EP X pins σ Q r s') pl.isList (by omega) (by rw [aaF] <;> omega) (by omega) (by rw [hj];simpa using ew) ⟨rfl,fin⟩) hs
theorem gx:FC X (zD X.K):=by
 intro value slice pins s σ H x y v u Q I rx ry h hs
 obtain ⟨p,xs,i,z,rfl,rfl,hq,he,q⟩:=h
 cases rx
 obtain ⟨t,rfl⟩:=ry
 obtain ⟨its,r,pl,hz⟩:=I.tuple hq
 obtain ⟨j,h1,h2,h3,h4,h5⟩:=mY he
 obtain ⟨w,ew,oI⟩:=r.get h2
 have hl:=r.length
 have hn:=jW
 have fin:EP X pins σ Q w s:=⟨z,H,I,oI,q⟩
 exact subscriptTail_builtinR (x:=w) pl.typeIs slot_tuple_getitem.lookup
  (getItem_tuple (j:=j) (Q:=fun r s' =>r=w∧EP X pins σ Q r s') pl (by omega) (by omega) (by rw [aaF, ← hl];exact h1) (by simpa using ew) ⟨rfl,fin⟩) hs
theorem FD:FC X J_:=by
 intro value slice pins s σ H x y v u Q I rx ry h hs
 obtain ⟨z,i,c,rfl,rfl,hz,he,q⟩:=h
 obtain ⟨t,rfl⟩:=rx
 obtain ⟨t',rfl⟩:=ry
 obtain ⟨j,h1,h2,h3,h4,h5⟩:=mY he
 have hl:z.cps.toList.length=z.length:=by simp [Str.length]
 rw [hl] at h1 h4 h5
 have hn:=jW
 exact tail_any (typeIs_str s z t) slot_str_getitem.lookup (getItem_str (c:=c) (by
  have e1:decide (i < -(2^63:Int))=false:=decide_eq_false (by omega)
  have e2:decide (i≥2^63)=false:=decide_eq_false (by omega)
  rw [e1,e2,akY]) (by rw [h1];simpa using h2) ⟨.str ⟨#[c]⟩,H,I.tok _,⟨_,rfl⟩,q⟩) hs
theorem qY (its:List Value)(n j:Nat)(u:Value):Obj.mapSeq (·.setIfInBounds j u) {cls:=.type "list",data:=.seq its.toArray n}={cls:=.type "list",data:=.seq (its.set j u).toArray n}:=by
 simp [Obj.mapSeq]
theorem Inv.lst {pins:List (Addr×Obj)}{σ:St}{H:Hp}{s:Shared}{p:Addr}{xs:List V}(I:Inv X pins σ H s)(h:H p=some (.lst xs)):
  ∃(its:List Value) (n:Nat),Vals xs its∧s.heap.get? p=some {cls:=.type "list",data:=.seq its.toArray n}∧xs.length≤sizeLine:=by
 obtain ⟨z,its,n,r,e⟩:=I.bK p _ h
 exact ⟨its,n,r,e,z⟩
theorem Inv.FE {pins:List (Addr×Obj)}{σ:St}{H:Hp}{s:Shared}{p:Addr}{xs ys:List V}{its its' :List Value}{n n' :Nat}{f:Obj→Obj}(I:Inv X pins σ H s)(h:H p=some (.lst xs))
  (ho:s.heap.get? p=some {cls:=.type "list",data:=.seq its.toArray n}) (hf:f {cls:=.type "list",data:=.seq its.toArray n}={cls:=.type "list",data:=.seq its'.toArray n' }) (r:Vals ys its') (hz:ys.length≤sizeLine) (t:Nat):
  Inv X pins σ (upd H p (.lst ys)) {s with heap:=s.heap.update p f,toks:=t}:=by
 have e:(s.heap.update p f).get? p=some {cls:=.type "list",data:=.seq its'.toArray n' }:=by
  rw [Heap.get?_update_self f ho (by rw [hf] <;> rfl),hf]
 refine I.write (x:=p) (e:=p) (by rw [h];trivial) (.inl rfl) (fun b u hb q=>(Heap.get?_update_other _ _ (aaU hb)).trans q) ⟨_,e⟩ ?_
 exact ⟨hz,its',n',r,e⟩
inductive CN (o:V)(i:V)(v:V)(H:Hp)(Q:(Hp→Prop)):Prop where
 | mk (p xs k j:_) (_:o=.ref p) (_:i=.int k) (_:H p=some (.lst xs)) (_:v7 xs.length k=some j) (_:Q (upd H p (.lst (xs.set j v)))):CN o i v H Q
theorem set_list:JR X CN:=by
 intro pins s σ H o i v ov iv u Q I ro ri rv h
 obtain ⟨p,xs,k,j,rfl,rfl,hp,hj,q⟩:=h
 cases ro
 obtain ⟨t,rfl⟩:=ri
 obtain ⟨its,n,r,ho,hz⟩:=I.lst hp
 obtain ⟨h1,h2,h3,h4⟩:=sL hj
 have hl:=r.length
 have hn:=jW
 have I' :Inv X pins σ (upd H p (.lst (xs.set j v))) {s with heap:=s.heap.update p (Obj.mapSeq (·.setIfInBounds j u))}:=
  I.FE hp ho (qY its n j u) (r.set rv j) (by rw [List.length_set];exact hz) s.toks
 by_cases h0:0≤k
 ·have hk:k.toNat=j:=by
   rw [seqIndex_of h0 h4] at h1
   exact aaE h1
  exact PySem.W.ki_setAt ho h0 (by omega) (by rw [aaF, ← hl];exact h4) (by rw [hk];exact ⟨_,I',q⟩)
 ·have hk:(k+(its.toArray.size:Int)).toNat=j:=by
   rw [seqIndex_neg (by omega) h3] at h1
   rw [aaF, ← hl]
   exact aaE h1
  exact PySem.W.ki_setBack ho (by omega) (by rw [aaF, ← hl];exact h3) (by omega) (by rw [hk];exact ⟨_,I',q⟩)
theorem mZ (lo hi:Option Int)(n:Nat):(sliceBounds lo hi none n).1=((HT.cW n 0 lo:Nat):Int)∧(sliceBounds lo hi none n).2.1=((HT.cW n n hi:Nat):Int)∧(sliceBounds lo hi none n).2.2=1:=by
 refine ⟨?_,?_,rfl⟩
 ·cases lo with
  | none=>simp [sliceBounds,HT.cW]
  | some i=>
   simp only [sliceBounds,HT.cW,aku,show (1:Int) > 0 by decide,if_true]
   by_cases h:i < 0
   ·simp only [h,if_true] <;> omega
   ·simp only [h,if_false] <;> omega
 ·cases hi with
  | none=>simp [sliceBounds,HT.cW]
  | some i=>
   simp only [sliceBounds,HT.cW,aku,show (1:Int) > 0 by decide,if_true]
   by_cases h:i < 0
   ·simp only [h,if_true] <;> omega
   ·simp only [h,if_false] <;> omega
theorem lD (its:List Value)(lo hi:Option Int):slicePick its.toArray lo hi none=((its.drop (HT.cW its.length 0 lo)).take (HT.cW its.length its.length hi - HT.cW its.length 0 lo)).toArray:=by
 obtain ⟨h1,h2,h3⟩:=mZ lo hi its.toArray.size
 unfold slicePick
 rw [h1,h2,h3]
 simp only [sliceRange_one,pick_run,aaF] <;> rfl
inductive J' (K:Frag)(x:V)(lo:Option Int)(hi:Option Int)(H:Hp)(Q:VK):Prop where
 | mk (a xs:_) (_:x=.ref a) (_:aT K H a xs) (_:∀p,H p=none→Q (.ref p) (upd H p (.lst (dE xs lo hi)))):J' K x lo hi H Q
theorem fe:QU X (J' X.K):=by
 intro pins s σ H x v vl vu lo hi sl Q I rx hs pl pu h
 obtain ⟨a,xs,rfl,hx,q⟩:=h
 cases rx
 obtain ⟨its,r,ht,hz⟩:=I.list hx
 have hlen:=r.length
 refine ⟨"list",_,slot_list_getitem.lookup,ht.isList.typeIs,?_⟩
 refine wpAny_getItem_list_slice ht.isList hs pl pu .none (by simp) ?_ (by rw [aaF] <;> omega)
 rw [lD, ← hlen]
 refine ⟨.ref s.heap.objs.size,_,I.laid (t' :=s.toks) (o:=.lst (dE xs lo hi)) (fun b ob q=>Heap.get?_push_of_some _ q) (aao _) ?_,rfl,q _ (I.bK.fresh (aao _))⟩
 exact ⟨aak (jf xs lo hi) hz,_,0,(r.drop (HT.cW xs.length 0 lo)).take (HT.cW xs.length xs.length hi - HT.cW xs.length 0 lo),Heap.get?_push_size _ rfl⟩
def fM:V→Bool
 | .cb=>true
 | .bl _=>true
 | .int _=>true
 | .str _=>true
 | _=>false
def jg:V→V→Bool
 | .cb,.cb=>true
 | .bl a,.bl b=>a==b
 | .bl a,.int b=>(if a then 1 else 0)==b
 | .int a,.bl b=>a==(if b then 1 else 0)
 | .int a,.int b=>a==b
 | .str a,.str b=>a==b
 | _,_=>false
theorem w4 {A:Around}{s:Shared}{y x:V}{u v:Value}(ry:RelV y u)(rx:RelV x v)(fy:fM y=true)(fx:fM x=true):SeqAt.EqAt A s u v (jg y x):=by
 cases y with
 | cb=>
  cases ry
  cases x with
  | cb=>cases rx;exact SeqAt.EqAt.same _
  | bl b=>cases rx;exact SeqAt.EqAt.none_bool b
  | int b=>obtain ⟨t,rfl⟩:=rx;exact SeqAt.EqAt.none_int b t
  | str b=>obtain ⟨t,rfl⟩:=rx;exact SeqAt.EqAt.none_str b t
  | _=>exact absurd (show false=true from fx) aay
 | bl a=>
  cases ry
  cases x with
  | cb=>cases rx;exact SeqAt.EqAt.bool_none a
  | bl b=>cases rx;exact SeqAt.EqAt.bool_bool a b
  | int b=>obtain ⟨t,rfl⟩:=rx;exact SeqAt.EqAt.bool_int a b t
  | str b=>obtain ⟨t,rfl⟩:=rx;exact SeqAt.EqAt.bool_str a b t
  | _=>exact absurd (show false=true from fx) aay
 | int a=>
  obtain ⟨t',rfl⟩:=ry
  cases x with
  | cb=>cases rx;exact SeqAt.EqAt.int_none a t'
  | bl b=>cases rx;exact SeqAt.EqAt.int_bool a t' b
  | int b=>obtain ⟨t,rfl⟩:=rx;exact SeqAt.EqAt.int_int a t' b t
  | str b=>obtain ⟨t,rfl⟩:=rx;exact SeqAt.EqAt.int_str a t' b t
  | _=>exact absurd (show false=true from fx) aay
 | str a=>
  obtain ⟨t',rfl⟩:=ry
  cases x with
  | cb=>cases rx;exact SeqAt.EqAt.str_none a t'
  | bl b=>cases rx;exact SeqAt.EqAt.str_bool a t' b
  | int b=>obtain ⟨t,rfl⟩:=rx;exact SeqAt.EqAt.str_int a t' b t
  | str b=>obtain ⟨t,rfl⟩:=rx;exact SeqAt.EqAt.str_str a t' b t
  | _=>exact absurd (show false=true from fx) aay
 | _=>exact absurd (show false=true from fy) aay
def zE (x:V)(u:Value):Bool:=match u with
 | .none=>jg .cb x
 | .bool b=>jg (.bl b) x
 | .int i _=>jg (.int i) x
 | .str z _=>jg (.str z) x
 | _=>false
theorem w6 {x y:V}{u:Value}(r:RelV y u)(f:fM y=true):zE x u=jg y x:=by
 cases y with
 | cb=>cases r;rfl
 | bl b=>cases r;rfl
 | int i=>obtain ⟨t,rfl⟩:=r;rfl
 | str z=>obtain ⟨t,rfl⟩:=r;rfl
 | _=>exact absurd (show false=true from f) aay
theorem m4 {x:V}:∀{xs:List V} {us:List Value},Vals xs us→xs.all fM=true→us.any (zE x)=xs.any fun y=>jg y x
 | _,_,.nil,_=>rfl
 | y::xs,u::us,.cons r t,f=>by
  rw [akc,aa_] at f
  rw [abC,abC,w6 r f.1,m4 t f.2]
theorem jY {A:Around}{s:Shared}{x:V}{v:Value}(rx:RelV x v)(fx:fM x=true):∀{xs:List V} {us:List Value},Vals xs us→xs.all fM=true→∀u∈us,SeqAt.EqAt A s u v (zE x u)
 | _,_,.nil,_=>fun u hu=>by cases hu
 | y::xs,u::us,.cons r t,f=>fun u' hu=>by
  rw [akc,aa_] at f
  rcases aaJ.mp hu with rfl | hu
  ·rw [w6 r f.1];exact w4 r rx f.1 fx
  ·exact jY rx fx t f.2 u' hu
def Ji (x:V)(xs:List V):Bool:=xs.any fun y=>jg y x
inductive rIn (K:Frag)(neg:Bool)(x:V)(y:V)(H:Hp)(Q:VK):Prop where
 | mk (p xs:_) (_:y=.ref p) (_:(aT K H p xs∨bQ K H p xs)) (_:fM x=true) (_:xs.all fM=true) (_:Q (.bl (if neg then !Ji x xs else Ji x xs)) H):rIn K neg x y H Q
theorem gU:iI X (compareOp .NotIn) (rIn X.K true):=by
 intro pins s σ H x y v u Q I rx ry h
 obtain ⟨p,xs,rfl,hq,fx,fs,q⟩:=h
 cases ry
 rcases hq with hq | hq
 ·obtain ⟨its,r,pl,hz⟩:=I.list hq
  refine SeqAt.notIn_listAt (zE x) pl.isList (fun w hw=>jY rx fx r fs w (by simpa using hw)) ⟨.bl _,H,I,rfl,?_⟩
  rw [show its.toArray.any (zE x)=its.any (zE x) by simp,m4 r fs]
  exact q
 ·obtain ⟨its,r,pl,hz⟩:=I.tuple hq
  refine SeqAt.notIn_tupleAt (zE x) pl (fun w hw=>jY rx fx r fs w (by simpa using hw)) ⟨.bl _,H,I,rfl,?_⟩
  rw [show its.toArray.any (zE x)=its.any (zE x) by simp,m4 r fs]
  exact q
theorem aE:gj X (.builtin "len") (fun xs H Q=>∃p ys,xs=[.ref p]∧(aT X.K H p ys∨bQ X.K H p ys)∧Q (.int ys.length) H):=by
 intro pins s σ H xs us Q I r h
 obtain ⟨p,ys,rfl,hq,q⟩:=h
 obtain ⟨u,rfl,rx⟩:=vals1 r
 cases rx
 have hn:=jW
 rcases hq with hq | hq
 ·obtain ⟨its,r',pl,hz⟩:=I.list hq
  have hlen:=r'.length
  exact Calls.call_len_list pl.isList (by simp only [aaF] <;> omega) ⟨.int ys.length,H,I.tok _,⟨s.toks+1,by rw [aaF,hlen]⟩,q⟩
 ·obtain ⟨its,r',pl,hz⟩:=I.tuple hq
  have hlen:=r'.length
  exact len_tuple pl (by simp only [aaF] <;> omega) ⟨.int ys.length,H,I.tok _,⟨s.toks+1,by rw [aaF,hlen]⟩,q⟩
def tyV (K:Frag)(T:String)(x:V)(H:Hp):Prop:=match x with
 | .str _=>T="str"
 | .int _=>T="int"
 | .ref p=>(T="list"∧∃xs,aT K H p xs)∨(T="tuple"∧∃o,K.lookup p=some o∧o.cls=.type "tuple"∧o.dict=none)∨
   (T="dict"∧((∃kvs,H p=some (.dK kvs))∨∃kvs,H p=some (.dT kvs)))∨(T="set"∧∃S n,H p=some (.set S n))
 | _=>False
theorem w8 {pins:List (Addr×Obj)}{σ:St}{H:Hp}{s:Shared}{T:String}{x:V}{v:Value}(I:Inv X pins σ H s)(r:RelV x v)(ty:tyV X.K T x H):
  s.TypeIs v T∧∀a,v=.ref a→∃ob,s.heap.get? a=some ob∧ob.dict=none:=by
 cases x with
 | str z=>
  obtain ⟨t,rfl⟩:=r
  cases (show T="str" from ty)
  exact ⟨typeIs_str s z t,fun _ e=>nomatch e⟩
 | int i=>
  obtain ⟨t,rfl⟩:=r
  cases (show T="int" from ty)
  exact ⟨typeIs_int s i t,fun _ e=>nomatch e⟩
 | ref p=>
  cases r
  rcases ty with ⟨rfl,xs,hq⟩ | ⟨rfl,o,hk,hc,hd⟩ | ⟨rfl,hk⟩ | ⟨rfl,S,n,hk⟩
  ·obtain ⟨its,_,pl,_⟩:=I.list hq
   refine ⟨pl.isList.typeIs,fun a e=> ?_⟩
   cases e
   obtain ⟨o,n,e,c,hd,_⟩:=pl
   exact ⟨o,e,hd⟩
  ·refine ⟨⟨o,I.mQ p o hk,hc⟩,fun a e=> ?_⟩
   cases e
   exact ⟨o,I.mQ _ o hk,hd⟩
  ·have z:∃o,s.heap.get? p=some o∧o.ExactDict:=by
    rcases hk with ⟨kvs,hk⟩ | ⟨kvs,hk⟩
    ·obtain ⟨_,_,_,_,o,_,_,e,ex,_⟩:=I.bK p _ hk
     exact ⟨o,e,ex⟩
    ·obtain ⟨_,_,_,_,o,_,_,e,ex,_⟩:=I.bK p _ hk
     exact ⟨o,e,ex⟩
   obtain ⟨o,e,ex⟩:=z
   refine ⟨⟨o,e,ex.1⟩,fun a e2=> ?_⟩
   cases e2
   exact ⟨o,e,ex.2.1⟩
  ·obtain ⟨o,_,_,_,e,ex,_⟩:=I.bK p _ hk
   refine ⟨⟨o,e,ex.1⟩,fun a e2=> ?_⟩
   cases e2
   exact ⟨o,e,ex.2.1⟩
 | _=>exact False.elim ty
def tBM (K:Frag)(T:String)(r:V→List V→Hp→VK→Prop)(to:TE)(t:TA):TE:=fun σ H Q=>to σ H fun x H1=>tyV K T x H1∧t σ H1 fun xs H2=>r x xs H2 Q
variable {o e:Expr}{es:List Expr}{to:TE}{t:TA}{name:Str}{apos ff:Pos}{T id:String}{r:V→List V→Hp→VK→Prop}
theorem fN (pa:PlainAttrs T)(slot:Slot T name id)(hty:typeOf (.builtin id)=pure (.type "method_descriptor"))(hm:RY X id r)(ho:PE X o to)(ha:PA X (e::es) t)
  (w_:attributeBase o name X.env (eval o X.env)=eval o X.env:=by rfl)
  (RZ:((backTo ff (starEach (e::es) X.env)).all (fun x=> !x.1) && (backToKw ff (keywordEach [] X.env)).all (fun x=>x.1.isSome)
   && decide ((e::es).length+([]:List Keyword).length+(if ([]:List Keyword).isEmpty then 0 else 1) < 30))=true:=by rfl)
  (xa:(apos.endLine==ff.line)=true:=by rfl) (hs:starEach (e::es) X.env=(false,eval e X.env)::starEach es X.env:=by rfl) (FF:(backTo ff (starEach es X.env)).any (·.1)=false:=by rfl):
  PE X (.Call (.Attribute o name apos) (e::es) [] ff) (tBM X.K T r to t):=by
 intro pins s σ H Q I h
 refine wpAny_Call_method_late w_ RZ xa rfl (b8 (ho pins s σ H _ I h) fun v s1 ⟨x,H1,I1,r1,ty,q1⟩=> ?_)
 obtain ⟨h1,h2⟩:=w8 I1 r1 ty
 refine ⟨T,id,pa,slot,hty,h1,h2,?_⟩
 have hA:=ha ff pins s1 σ H1 _ I1 q1
 rw [hs] at hA ⊢
 refine Calls.callWith_builtin (by show (false || (backTo ff (starEach es X.env)).any (·.1))=false;rw [FF] <;> rfl) (Calls.evalArgs_plain ?_)
 exact b8 hA fun us s2 ⟨vs,H2,I2,r2,q2⟩=>hm pins s2 σ H2 x vs v us Q I2 r1 r2 q2
end
end L2
namespace L2
open PySem PySem.Spec PyProof.Rows
def MtM (X:Cx)(id:String)(r:V→List V→Hp→VK→Prop):Prop:=
 ∀(pins:List (Addr×Obj)) (s:Shared) (σ:St) (H:Hp) (x:V) (xs:List V) (v:Value) (us:List Value) (Q:VK),Inv X pins σ H s→RelV x v→Vals xs us→r x xs H Q→
  wpAny (model X.prog X.w) X.A (call (.builtin id) (v::us)) (EP X pins σ Q) X.xe s
theorem Vals.one:∀{x:V} {us:List Value},Vals [x] us→∃u,us=[u]∧RelV x u
 | _,_,.cons r .nil=>⟨_,rfl,r⟩
theorem Vals.rep {xs:List V}{us:List Value}(h:Vals xs us):∀k:Nat,Vals (aau k xs).flatten (aau k us).flatten
 | 0=>.nil
 | k+1=>by
  rw [abb,abb,abI,abI]
  exact Vals.append h (Vals.rep h k)
theorem foldl_rep (its:List Value):∀(k:Nat) (acc:List Value),
  akL (fun x1 x2=>x1++x2) acc.toArray (aau k its.toArray)=(acc++(aau k its).flatten).toArray
 | 0,acc=>by simp
 | k+1,acc=>by
  have e:acc.toArray++its.toArray=(acc++its).toArray:=by simp
  have e2:(acc++its)++(aau k its).flatten=acc++(aau (k+1) its).flatten:=by
   rw [abb,abI,abv]
  rw [← e2, ← foldl_rep its k (acc++its), ← e,abb,List.foldl_cons]
section
variable {X:Cx}{pins:List (Addr×Obj)}{σ:St}{H:Hp}{s:Shared}{l b:Addr}{xs ys zs:List V}
theorem Inv.Ka {its its' :List Value}{n:Nat}{f:Array Value→Array Value}{t' :Nat}(I:Inv X pins σ H s)(hH:H l=some (.lst xs))
  (e:s.heap.get? l=some {cls:=.type "list",data:=.seq its.toArray n}) (hf:f its.toArray=its'.toArray) (hv:Vals ys its') (hz:ys.length≤sizeLine):
  Inv X pins σ (upd H l (.lst ys)) {s with heap:=s.heap.update l (Obj.mapSeq f),toks:=t' }:=by
 have q:=PySem.IsL.update e f
 rw [hf] at q
 refine I.write (x:=l) (e:=l) (by rw [hH];exact trivial) (.inl rfl) (fun b' u hb hu=>(Heap.get?_update_other s.heap (Obj.mapSeq f) (aaU hb)).trans hu) ⟨_,q⟩ ?_
 exact ⟨hz,its',_,hv,q⟩
theorem Inv.FG {its:List Value}{t' :Nat}(I:Inv X pins σ H s)(hv:Vals ys its)(hz:ys.length≤sizeLine):
  Inv X pins σ (upd H s.heap.objs.size (.lst ys)) {s with heap:=s.heap.push {cls:=.type "list",data:=.seq its.toArray},toks:=t' }:=
 I.laid (fun _ _ q=>Heap.get?_push_of_some _ q) (aao _) ⟨hz,its,0,hv,Heap.get?_push_size _ rfl⟩
theorem Inv.fresh (I:Inv X pins σ H s):H s.heap.objs.size=none:=I.bK.fresh (aao _)
theorem Inv.jz (I:Inv X pins σ H s)(hH:H l=some (.lst xs)):xs.length≤sizeLine∧∃(its:List Value) (n:Nat),Vals xs its∧xs.length=its.length∧s.heap.get? l=some {cls:=.type "list",data:=.seq its.toArray n}:=by
 obtain ⟨z,its,n,r,e⟩:=I.bK l _ hH
 exact ⟨z,its,n,r,r.length,e⟩
theorem oY {n:Nat}(h:n≤sizeLine):Builtin.List.listTooLong n=false:=by
 unfold Builtin.List.listTooLong
 exact decide_eq_false (by omega)
end
section
variable {X:Cx}
inductive sM (x:V)(vs:List V)(H:Hp)(Q:VK):Prop where
 | mk (l xs y:_) (_:x=.ref l) (_:vs=[y]) (_:H l=some (.lst xs)) (_:xs.length < sizeLine) (_:Q .cb (upd H l (.lst (xs++[y])))):sM x vs H Q
theorem cg:MtM X "list.append" sM:=by
 intro pins s σ H x vs v us Q I rx rv h
 obtain ⟨l,xs,y,rfl,rfl,hH,hz,q⟩:=h
 cases rx
 obtain ⟨u,rfl,ru⟩:=rv.one
 obtain ⟨z,its,n,r,hl,e⟩:=I.jz hH
 refine call_meets F.slot_list_append ⟨_,e,rfl⟩ F.entry_list_append (F.args_list_append_2 _ _) (PySem.list_append l its.toArray n u (by rw [aaF];omega)) ⟨e,?_⟩
 refine ⟨.cb,_,I.Ka (its' :=its++[u]) hH e (by simp) (r.append (.cons ru .nil)) ?_,rfl,q⟩
 rw [aap,aj5]
 omega
inductive Kb (x:V)(y:V)(H:Hp)(Q:VK):Prop where
 | mk (l b xs zs:_) (_:x=.ref l) (_:y=.ref b) (_:H l=some (.lst xs)) (_:H b=some (.lst zs)) (_:xs.length+zs.length≤sizeLine) (_:∀p,H p=none→Q (.ref p) (upd H p (.lst (xs++zs)))):Kb x y H Q
theorem gy:iI X (binaryOp .Add) Kb:=by
 intro pins s σ H x y v u Q I rx ry h
 obtain ⟨l,b,xs,zs,rfl,rfl,hH,hB,hz,q⟩:=h
 cases rx
 cases ry
 obtain ⟨z,its,n,r,hl,e⟩:=I.jz hH
 obtain ⟨z2,dF,n2,r2,qZ,e2⟩:=I.jz hB
 refine PySem.P.add_list e e2 ?_ (by rw [aaF,aaF];omega)
 have ea:its.toArray++dF.toArray=(its++dF).toArray:=by simp
 rw [ea]
 exact ⟨.ref _,_,I.FG (t' :=s.toks) (r.append r2) (by rw [aap];omega),rfl,q _ I.fresh⟩
inductive Kc (x:V)(y:V)(H:Hp)(Q:VK):Prop where
 | mk (l k xs:_) (_:x=.ref l) (_:y=.int k) (_:H l=some (.lst xs)) (_: -(2^63)≤k) (_:k < 2^63) (_:xs.length*k.toNat≤sizeLine) (_:∀p,H p=none→Q (.ref p) (upd H p (.lst (aau k.toNat xs).flatten))):Kc x y H Q
theorem len_rep {α:Type}(xs:List α)(k:Nat):(aau k xs).flatten.length=k*xs.length:=by
 induction k with
 | zero=>simp
 | succ k ih=>rw [abb,abI,aap,ih,Nat.succ_mul,af_]
theorem q0:iI X (binaryOp .Mult) Kc:=by
 intro pins s σ H x y v u Q I rx ry h
 obtain ⟨l,k,xs,rfl,rfl,hH,h1,h2,hz,q⟩:=h
 cases rx
 obtain ⟨t,rfl⟩:=ry
 obtain ⟨z,its,n,r,hl,e⟩:=I.jz hH
 have hlen:its.toArray.size*k.toNat≤sizeLine:=by rw [aaF, ← hl];exact hz
 have R7:¬ its.toArray.size*k.toNat > (2^63 - 1) / 8:=by
  have:(sizeLine:Nat)≤(2^63 - 1) / 8:=by decide
  omega
 have R_:¬ (!Builtin.List.listFitsIndex k)=true:=by
  rw [fitsIndex_both h1 h2]
  exact aay
 have xc:¬ Builtin.List.listTooLong (its.toArray.size*k.toNat)=true:=by
  rw [oY hlen]
  exact aay
 have Sa:akL (fun x1 x2=>x1++x2) #[] (aau (if its.toArray.isEmpty=true then 0 else k.toNat) its.toArray)=(aau k.toNat its).flatten.toArray:=by
  have f0:∀m:Nat,akL (fun x1 x2=>x1++x2) #[] (aau m its.toArray)=(aau m its).flatten.toArray:=fun m=>by
   have:=foldl_rep its m []
   rw [abD] at this
   exact this
  rw [f0]
  cases its with
  | nil=>simp
  | cons a r' =>rw [if_neg (by simp)]
 refine wpAny_binaryOp_repeat_ref (T:="list") (U:="int") (by decide) ⟨_,e,rfl⟩ (fun s' =>typeIs_int s' k t) noFill_list_mul F.fills_int_mul F.slot_int_rmul repeat_list F.slot_int_index.lookup
  (call_meets F.slot_int_rmul (typeIs_int s k t) F.entry_int_rmul (F.args_int_rmul_2 _ _) (int___rmul___int_list k t l its.toArray n)
   ⟨e,rfl,⟨_,e,rfl⟩,call_meets F.slot_list_mul ⟨_,e,rfl⟩ F.entry_list_mul (F.args_list_mul_2 _ _) (AutoListH.list___mul___list_int_3 l its.toArray n k t R_ R7 xc) ⟨e,?_⟩⟩)
 rw [Sa]
 exact ⟨.ref _,_,I.FG (t' :=s.toks) (r.rep k.toNat) (by rw [len_rep,Nat.mul_comm];exact hz),rfl,q _ I.fresh⟩
end
section
variable {prog:Program}{w:World}{A:Around}{E:Value→Shared→Prop}{s:Shared}
set_option maxRecDepth 100000 in
end
section
variable {X:Cx}
end
end L2
namespace Att
open PySem PySem.W PySem.Calls PyProof.Rows
theorem jA {P:Params}{h:Heap}:∀(ns:List Int) (vs:List Value),WellAll P h vs (ns.map WData.int)→IntsAre vs ns:=by
 intro ns
 induction ns with
 | nil=>
  intro vs w
  rw [aaW] at w
  cases w
  exact .nil
 | cons n ns ih=>
  intro vs w
  rw [aaj] at w
  cases w with
  | cons a b=>
   cases a
   exact .cons _ _ (ih _ b)
theorem ug {l:OpenLaw}{n:Nat}(hn:l.most=some n){P:Params}{h:Heap}{args:List WData}{vals:List Value}
  (zF:l.row.toRowW.claim.pre args=true) (Sb:WellAll P h vals args):
  ∃a vs ns,vals=[Value.ref a]∧args=[WData.list (ns.map WData.int)]∧h.get? a=some {cls:=.type "list",data:=.seq vs.toArray}∧IntsAre vs ns∧ns.length≤n:=by
 have hsh:WShape.hasAll [] args [.list .int]=true:=(pre_splitW zF).1
 have hc:l.pre.holds [] {args:=args}=true:=(pre_splitW zF).2
 obtain ⟨d,r,rfl,h1,h2⟩:=hasAllW_cons hsh
 obtain rfl:=hasAllW_nil h2
 obtain ⟨xs,rfl,h3⟩:=hasW_list h1
 obtain ⟨ns,rfl⟩:=items_int h3
 have hlen:ns.length≤n:=by
  unfold OpenLaw.pre at hc
  have h4:(WTm.not (.lt (.lit (.int (n:Int))) (.len (.arg 0)))).holds [] {args:=[.list (ns.map .int)]}=true:=by
   have h4:=(holds_andW hc).1
   rw [hn] at h4
   exact h4
  have h5:=condW_of h4 (w_not (w_lt w_lit (w_len_list (w_arg rfl))))
  rw [ir] at h5
  refine acd fun q=> ?_
  have q' :(n:Int) < ((ns.length:Nat):Int):=by omega
  first
   | (rw [decide_eq_true q'] at h5;exact absurd h5 (by decide))
   | (simp at h5;omega)
 cases Sb with
 | cons w1 w2=>
  cases w2
  cases w1 with
  | list ho xf=>exact ⟨_,_,ns,rfl,rfl,ho,jA ns _ xf,hlen⟩
theorem uh (l:OpenLaw)(args:List WData):l.row.toRowW.claim.post args (.bool true) args=true:=
 postW_of (r:=l.row.toRowW) (X:=(true==true))
  (show WShape.has [] (.bool true) .bool=true by first | rfl | decide | simp [WShape.has,WShape.arms,WShape.armsAll])
  (show (WTm.eq .res (.lit (.bool true))).value [] {args:=args,res:=some (.bool true),after:=args}=some (.bool (true==true)) from w_eq_bool (w_res rfl) w_lit) rfl
section
variable {prog:Program}{w:World}{A:Around}{E:Value→Shared→Prop}{s:Shared}{K:Frag}
end
end Att
namespace L2
open PySem PySem.Spec PyProof.Rows
theorem lV:∀{vs:List Value} {ns:List Int},IntsAre vs ns→Vals (ns.map V.int) vs
 | _,_,.nil=>.nil
 | _,_,.cons n t h=>.cons ⟨t,rfl⟩ (lV h)
def Kd (H:Hp):Prop:=∀b,H b=none∨∃o xs,H b=some (.fD o (.lst xs))
theorem xg {P:Program}{w:World}{K:Frag}{mg mb:Str→Option Value}{CX:iJ}{k:Nat}{fa a:Addr}{fd:FuncData}{x:Str}{sp:Sp}{s₁:Shared}{vs:List Value}{ns:List Int}
  (KX:K.In s₁.heap) (hns:s₁.heap.Ns mainGlobals mg) (hb:s₁.heap.Ns builtinsNs mb) (hbb:∀x:Str,x≠ "__name__"→mb x=bootBuiltins x) (Sd:s₁.heap.NoLimit) (zG:s₁.heap.NoSeer) (hg:s₁.gens= #[])
  (ha:s₁.heap.get? a=some {cls:=.type "list",data:=.seq vs.toArray}) (hi:IntsAre vs ns) (hl:ns.length≤sizeLine) (hr:b7 k callerA)
  (F:∀base:Heap,K.In base→base.Ns mainGlobals mg→cj P w K mg base CX k fa fd [x] sp) (Ke:∀(s:Shared) (u:Value),BindsTo s fd ⟨[u],[]⟩ [(x,u)])
  (qF:∀H:Hp,Kd H→aT K H a (ns.map V.int)→sp [.ref a] H (fun v _=>v=.bl true) fun _ _ _=>False)
  (hCX:∀H e s',CX [] H s₁ (fun _ _ _=>False) e s' →False):
  codeAny (model P w) callerA (.call (.ref fa) ⟨[.ref a],[]⟩) (fun r s' =>r=.ok (.ret (.bool true))∧OldK s₁.heap s'.heap∧s'.os=s₁.os∧AllBare s'.gens) s₁:=by
 have rv:=lV hi
 have Se:=hi.length
 have core:∀H:Hp,Kd H→aT K H a (ns.map V.int)→gi P w H s₁.heap→(∀b,H b≠none→b=a)→(H a≠none→K.lookup a=none)→
   codeAny (model P w) callerA (.call (.ref fa) ⟨[.ref a],[]⟩) (fun r s' =>r=.ok (.ret (.bool true))∧OldK s₁.heap s'.heap∧s'.os=s₁.os∧AllBare s'.gens) s₁:=by
  intro H hO hS bK hA hK
  have m5:∀{b:Addr} {o:Obj},s₁.heap.get? b=some o→H b=none→(mP s₁.heap H).get? b=some o:=fun e n=>wm e n
  have J3:∀{b:Addr} {o:Obj} {es:Array DictEntry} {ep:Nat},s₁.heap.get? b=some o→o.data=.dict es ep→H b=none:=fun {b o es ep} e d=>by
   cases q:H b with
   | none=>rfl
   | some u=>
    have e' :b=a:=hA b (by rw [q];simp)
    subst e'
    rw [ha] at e;cases e
    have d' :Data.seq vs.toArray _=Data.dict es ep:=d
    cases d'
  have CO:∀{b:Addr} {m:Str→Option Value},s₁.heap.Ns b m→(mP s₁.heap H).Ns b m:=fun {b m} ⟨o,es,ep,e,d,r⟩=>⟨o,es,ep,m5 e (J3 e d),d,r⟩
  have hKb:K.In (mP s₁.heap H):=fun b o e=>m5 (KX b o e) (by
   cases q:H b with
   | none=>rfl
   | some u=>
    have e' :b=a:=hA b (by rw [q];simp)
    subst e'
    rw [hK (by rw [q];simp)] at e;cases e)
  have hM:Mod K mg (mP s₁.heap H):=⟨hKb,CO hns,⟨mb,CO hb,hbb⟩,let ⟨mc,h1,h2⟩:=Sd;⟨mc,CO h1,h2⟩,
   ⟨let ⟨mc,h1,h2⟩:=zG.statics;⟨mc,CO h1,h2⟩,let ⟨mc,h1,h2⟩:=zG.mods;⟨mc,CO h1,h2⟩,let ⟨mc,h1,h2⟩:=zG.imp;⟨mc,CO h1,h2⟩,
    let ⟨mg',bm,ob,h1,h2,h3,h4,h5⟩:=zG.main;⟨mg',bm,ob,CO h1,h2,m5 h3 (by
     cases q:H bm with
     | none=>rfl
     | some u=>
      have e' :bm=a:=hA bm (by rw [q];simp)
      subst e'
      rw [ha] at h3
      cases h3
      have h4' :Value.type "list"=Value.type "module":=h4
      injection h4' with e9
      exact absurd e9 (by decide)),h4,h5⟩⟩⟩
  have e0:qV P w K mg (mP s₁.heap H) callerA [] s₁ H:=⟨rfl,hM,fun b o e=>ze e,akk (tZ _ _),trivial,fun b hb=>absurd (show b∈([]:List Addr) from hb) (by simp),bK,.of_eq hg⟩
  refine codeAny_mono ((F _ hKb (CO hns)).run callerA [] s₁ H ⟨[.ref a],[]⟩ [.ref a] [.ref a] _ _ hr e0 (Ke s₁ (.ref a)) (.cons rfl .nil) (qF H hO hS)) fun r s' h=> ?_
  cases r with
  | error e=>exact (hCX H e s' h).elim
  | ok fl=>
   cases fl with
   | next=>exact False.elim h
   | brk=>exact False.elim h
   | cont=>exact False.elim h
   | ret u=>
    obtain ⟨v,H',os,bare,un,Sf,r',q⟩:=h
    have q' :v=.bl true:=q
    subst q'
    obtain rfl:u=Value.bool true:=r'
    refine ⟨rfl,OldK.of_keep fun b o e=> ?_,os,bare⟩
    cases q:H b with
    | none=>exact un.keep b o e q (by intro z;exact absurd (show b∈([]:List Addr) from z) (by simp)) (by simp)
    | some u=>
     rcases hO b with z | ⟨ob,xs,z⟩
     ·rw [q] at z;cases z
     ·have z2:=un.lh b ob _ z
      obtain ⟨e1,_⟩:=bK b _ z
      obtain ⟨e2,_⟩:=Sf b _ z2
      rw [e] at e1;cases e1
      exact e2
 cases hk:K.lookup a with
 | some o=>
  have e:=KX a o hk
  rw [ha] at e
  cases e
  refine core (fun _=>none) (fun _=>.inl rfl) (.inr ⟨_,vs.toArray,_,hk,rfl,rfl,rfl,by rw [aaF,Se];exact hl,by simpa using rv⟩) (fun b u z=>by have z' :(none:Option HO)=some u:=z;cases z') (fun b z=>absurd rfl z) fun z=>absurd rfl z
 | none=>
  refine core (fun b=>if b=a then some (.fD {cls:=.type "list",data:=.seq vs.toArray} (.lst (ns.map V.int))) else none) (fun b=> ?_) (.inl (.inr ⟨{cls:=.type "list",data:=.seq vs.toArray},if_pos rfl⟩)) (fun b u z=> ?_) (fun b z=> ?_) fun _=>hk
  ·by_cases hb:b=a
   ·exact .inr ⟨_,_,if_pos hb⟩
   ·exact .inl (if_neg hb)
  ·by_cases hb:b=a
   ·have z' :=(if_pos hb).symm.trans z
    cases z'
    subst hb
    exact ⟨ha,by rw [ir];exact hl,vs,_,rv,ha⟩
   ·have z' :=(if_neg hb).symm.trans z
    cases z'
  ·by_cases hb:b=a
   ·exact hb
   ·exact absurd (if_neg hb) z
end L2
namespace L2
open PySem PySem.Spec PyProof.Rows
abbrev KOf {K:Frag}{h:Heap}(_:K.In h):Frag:=K
end L2
namespace L2
open PySem PySem.Spec PyProof.Rows
def inClass (s:Stmt)(j:Nat):Stmt:=match s with
 | .ClassDef _ _ _ body _ _ _ _ _ _ _=>body.getD j (.Pass ⟨0,0,0,0⟩)
 | _=>.Pass ⟨0,0,0,0⟩
def av (s:Stmt):Arguments:=match s with
 | .FunctionDef _ a _ _ _ _ _ _ _ _=>a
 | _=>{posonlyargs:=[],args:=[],vararg:=none,kwonlyargs:=[],kw_defaults:=[],kwarg:=none,defaults:=[]}
def au (s:Stmt):List Stmt:=match s with
 | .FunctionDef _ _ b _ _ _ _ _ _ _=>b
 | _=>[]
def af (s:Stmt):Scope:=match s with
 | .FunctionDef _ _ _ _ _ _ sc _ _ _=>sc
 | _=>{kind:=.function,names:=[],isGenerator:=false,isCoroutine:=false}
abbrev E0:XK:=fun _ _ _=>False
structure kZ (K:Frag)(x qual:Str)(st:Stmt)(f:Addr)(fd:FuncData):Prop where
 ex:∃(oc:Value) (od:Option Addr) (kV doc pm:Value) (an:Option Addr) (bx ct:Value) (kY:Array (Option Value)),
  fd=fnOf x qual (av st) (au st) (af st) .none kV doc pm an bx ct∧K.lookup f=some ⟨oc,od,.func fd,kY⟩∧codeIn K bx qual=true
 kp:keepIn K (.ref f)=true
section
variable {P:Program}{w:World}{K:Frag}{mg:Str→Option Value}{base:Heap}
theorem kZ.binds {x qual:Str}{st:Stmt}{f:Addr}{fd:FuncData}{ps:List Str}(F:kZ K x qual st f fd)
  (h:∀(kV doc pm:Value) (an:Option Addr) (bx ct:Value) (us:List Value),us.length=ps.length→bindArgs (fnOf x qual (av st) (au st) (af st) .none kV doc pm an bx ct) ⟨us,[]⟩=pure (ps.zip us)):Binds K fd ps []:=by
 obtain ⟨oc,od,kV,doc,pm,an,bx,ct,kY,rfl,lk,lj⟩:=F.ex
 exact .all (h kV doc pm an bx ct)
theorem cA {x qual:Str}{st:Stmt}{f:Addr}{oc:Value}{od an:Option Addr}{kY:Array (Option Value)}{kV doc pm bx ct:Value}(l:K.lookup f=some ⟨oc,od,.func (fnOf x qual (av st) (au st) (af st) .none kV doc pm an bx ct),kY⟩)
  (c:codeIn K bx qual=true) (k:keepIn K (.ref f)=true):kZ K x qual st f (fnOf x qual (av st) (au st) (af st) .none kV doc pm an bx ct):=⟨⟨oc,od,kV,doc,pm,an,bx,ct,kY,rfl,l,c⟩,k⟩
end
theorem cy {A:Around}{k:Nat}(hr:b7 k A):A.units+1 < cLine:=aar (Nat.add_le_add_left (by decide:1≤64) _) hr.units
section
variable {X:Cx}
theorem pv (i:Nat){x:Str}{pos:Pos}(hN:X.N[i]? =some x:=by rfl)(hv:Ry X.env.scope x:=by first | exact aan rfl | exact aaZ (aan rfl) | exact aaZ (aaZ rfl))(hd:(x==("__debug__":Str))=false:=by decide)
  (lj:(x==("__classdict__":Str))=false:=by decide):PE X (.Name x pos) (EL i):=EM hN hv hd lj
end
theorem Kf {A B:Prop}(h:B):if false=true then A else B:=by
 rw [if_neg aay]
 exact h
theorem bI {c A B:Prop}[Decidable c](h1:c→A)(h2:¬ c→B):if c then A else B:=by
 by_cases h:c
 ·rw [if_pos h]
  exact h1 h
 ·rw [if_neg h]
  exact h2 h
def ar (H H' :Hp):Prop:=∀b o,H b=some o→H' b=some o
theorem ar.refl (H:Hp):ar H H:=fun _ _ h=>h
theorem ar.trans {H H1 H2:Hp}(a:ar H H1)(b:ar H1 H2):ar H H2:=fun c o h=>b c o (a c o h)
theorem ar.free {H H' :Hp}(e:ar H H'){l:Addr}(h:H' l=ald):H l=ald:=by
 cases q:H l with
 | none=>rfl
 | some o=>
  rw [e l o q] at h
  cases h
theorem ar.seq {K:Frag}{H H' :Hp}{a:Addr}{xs:List V}(e:ar H H')(h:aT K H a xs):aT K H' a xs:=by
 rcases h with (h | ⟨o,h⟩) | h
 ·exact .inl (.inl (e _ _ h))
 ·exact .inl (.inr ⟨o,e _ _ h⟩)
 ·exact .inr h
end L2
namespace Ty
def gz (t b:Int):Int:=(aa0 t b:Nat)
def sg (t b:Int):Int:=if b < 0 then -gz t b else gz t b
def low (t b:Int):Int×Int:=(t.fdiv (sg t b),b.fdiv (sg t b))
theorem oZ (a b:Int):aa0 b (a.fmod b)=aa0 a b:=by
 rw [akl,Int.gcd_sub_mul_left_right,Int.gcd_comm]
theorem lW {a b:Int}(h:b≠0):(a.fmod b).natAbs < b.natAbs:=by
 rcases ab7 b 0 with q | q | q
 ·have h1:(-a).fmod (-b)= -(a.fmod b):=by
   rw [akl,akl,Int.neg_fdiv_neg,Int.neg_mul]
   omega
  have h2:=abq (-a) (show 0 < -b by omega)
  have h3:=ab2 (-a) (show 0 < -b by omega)
  omega
 ·exact absurd q h
 ·have h2:=abq a q
  have h3:=ab2 a q
  omega
theorem m6 {t b:Int}(h:b≠0):0 < gz t b:=by
 have:=akF.mpr (aaZ h:t≠0∨b≠0)
 show (0:Int) < ((aa0 t b:Nat):Int)
 omega
theorem Kg {t b:Int}(h:b≠0):(gz t b).natAbs≤b.natAbs:=by
 have h1:aa0 t b ∣ b.natAbs:=Int.natAbs_dvd_natAbs.mpr (abl t b)
 have h2:=Nat.le_of_dvd (by omega) h1
 show ((aa0 t b:Nat):Int).natAbs≤_
 omega
theorem jZ {t b:Int}(h:b≠0):sg t b≠0:=by
 have:=m6 (t:=t) h
 unfold sg
 split <;> omega
theorem FH {t b:Int}:(sg t b).natAbs=(gz t b).natAbs:=by
 unfold sg
 split
 ·exact ab3 _
 ·rfl
theorem o9 (t b:Int):sg t b ∣ t:=by
 unfold sg gz
 split
 ·exact Int.neg_dvd.mpr (abn t b)
 ·exact abn t b
theorem m7 (t b:Int):sg t b ∣ b:=by
 unfold sg gz
 split
 ·exact Int.neg_dvd.mpr (abl t b)
 ·exact abl t b
theorem bZ {a g:Int}(h:g≠0)(d:g ∣ a):a=g*a.fdiv g:=by
 obtain ⟨c,hc⟩:=d
 have:=abw h hc
 rw [this]
 exact hc
theorem jF {t b:Int}(h:b≠0):t=sg t b*(low t b).1:=bZ (jZ h) (o9 t b)
theorem gW {t b:Int}(h:b≠0):b=sg t b*(low t b).2:=bZ (jZ h) (m7 t b)
theorem gX {t b:Int}(h:b≠0):0 < (low t b).2:=by
 have e:=gW (t:=t) h
 have g:=m6 (t:=t) h
 rcases ab7 (low t b).2 0 with q | q | q
 ·exfalso
  by_cases c:b < 0
  ·have s:sg t b= -gz t b:=by unfold sg;rw [if_pos c]
   rw [s] at e
   have:=Int.mul_pos_of_neg_of_neg (show -gz t b < 0 by omega) q
   omega
  ·have s:sg t b=gz t b:=by unfold sg;rw [if_neg c]
   rw [s] at e
   have:=ab5 g q
   omega
 ·exfalso
  rw [q,abJ] at e
  exact h e
 ·exact q
theorem uk {t b:Int}(h:b≠0):(low t b).1*b=t*(low t b).2:=by
 have e1:=jF (t:=t) h
 have e2:=gW (t:=t) h
 calc (low t b).1*b=(low t b).1*(sg t b*(low t b).2):=by rw [← e2]
  _=sg t b*(low t b).1*(low t b).2:=by rw [← ab',abK (low t b).1]
  _=t*(low t b).2:=by rw [← e1]
theorem jG {t b:Int}(h:b≠0):aa0 (low t b).1 (low t b).2=1:=by
 have e1:=jF (t:=t) h
 have e2:=gW (t:=t) h
 have k:aa0 t b=(sg t b).natAbs*aa0 (low t b).1 (low t b).2:=by
  have q:=akv (sg t b) (low t b).1 (low t b).2
  rw [← e1, ← e2] at q
  exact q
 have g:(sg t b).natAbs=aa0 t b:=by
  rw [FH]
  rfl
 have p:=akF.mpr (aaZ h:t≠0∨b≠0)
 rw [g] at k
 have k' :aa0 t b*1=aa0 t b*aa0 (low t b).1 (low t b).2:=by rw [Nat.mul_one];exact k
 exact (Nat.eq_of_mul_eq_mul_left p k').symm
theorem cE {g a:Int}(h:g≠0):a.natAbs≤(g*a).natAbs:=by
 rw [ab4]
 have:1≤g.natAbs:=by omega
 have:=aaK a.natAbs this
 omega
theorem j0 {t b:Int}(h:b≠0):(low t b).1.natAbs≤t.natAbs:=by
 have e:=jF (t:=t) h
 have:=cE (g:=sg t b) (a:=(low t b).1) (jZ h)
 rw [← e] at this
 exact this
theorem j3 {t b:Int}(h:b≠0):(low t b).2.natAbs≤b.natAbs:=by
 have e:=gW (t:=t) h
 have:=cE (g:=sg t b) (a:=(low t b).2) (jZ h)
 rw [← e] at this
 exact this
theorem xh {t b g x y:Int}(hg:g≠0)(ht:t=g*x)(hb:b=g*y)(hy:0 < y)(h1:aa0 x y=1):low t b=(x,y):=by
 have hbn:b≠0:=by
  rw [hb]
  exact akG hg (by omega)
 have gg:aa0 t b=g.natAbs:=by
  rw [ht,hb,akv,h1,Nat.mul_one]
 have s:sg t b=g:=by
  unfold sg gz
  rw [gg]
  by_cases c:g < 0
  ·have:b < 0:=by rw [hb];exact Int.mul_neg_of_neg_of_pos c hy
   rw [if_pos this]
   omega
  ·have:¬ b < 0:=by
    have:=Int.mul_nonneg (show 0≤g by omega) (show 0≤y by omega)
    omega
   rw [if_neg this]
   omega
 unfold low
 rw [s]
 rw [abw hg ht,abw hg hb]
theorem o_ {x y:Int}(hy:0 < y)(h:aa0 x y=1):low x y=(x,y):=xh (g:=1) (by decide) (by omega) (by omega) hy h
theorem lX {t b k:Int}(hk:k≠0)(h:b≠0):low (k*t) (k*b)=low t b:=by
 refine xh (g:=k*sg t b) (akG hk (jZ h)) ?_ ?_ (gX h) (jG h)
 ·rw [ab']
  exact congrArg (k*·) (jF h)
 ·rw [ab']
  exact congrArg (k*·) (gW h)
theorem lE {t b u c:Int}(hb:b≠0)(hc:c≠0)(h:t*c=u*b):low t b=low u c:=by
 rw [← lX (t:=t) (b:=b) hc hb, ← lX (t:=u) (b:=c) hb hc]
 rw [abK c t,h,abK u b,abK c b]
end Ty
set_option maxHeartbeats 4000000
namespace Ty
open PySem PySem.Spec PyProof.Rows L2
open Builtin.Int (intBits)
section
variable {X:Cx}
def lY (i j:Int):Prop:=intBits i≤33554432∧intBits j≤33554432
theorem b_:iI X (binaryOp .Mult) (rI lY fun i j=>.int (i*j)):=
 QS fun _ _ _ _ _ _ _ hc q=>mul_int q (IntMulOk.of_le hc.1 hc.2 (by decide))
def Kh (i j:Int):Prop:=j≠0∧intBits j≤9000
theorem Sg {i j:Int}(h:intBits j≤9000):Builtin.divisionGoesByPylong i j=false:=by
 refine PyProof.noPylong_of_log2 ?_
 have h1:=intBits_le_iff.mp h
 by_cases h0:j.natAbs=0
 ·rw [h0]
  decide+kernel
 ·exact (Nat.log2_lt h0).mpr h1
theorem pd:iI X (binaryOp .FloorDiv) (rI Kh fun i j=>.int (i.fdiv j)):=
 QS fun _ _ _ _ _ _ _ hc q=>floordiv_int hc.1 q (.inl (Sg hc.2))
end
inductive Da where
 | v (x:V)
 | t (ds:List Da)
 | l (ds:List Da)
mutual
def Is (K:Frag)(H:Hp):Da→V→Prop
 | .v x,u=>u=x∧fM x=true
 | .t ds,u=>∃p xs,u=.ref p∧bQ K H p xs∧gA K H ds xs
 | .l ds,u=>∃p xs,u=.ref p∧aT K H p xs∧gA K H ds xs
def gA (K:Frag)(H:Hp):List Da→List V→Prop
 | [],[]=>True
 | d::ds,x::xs=>Is K H d x∧gA K H ds xs
 | _,_=>False
end
mutual
def gY:Da→Da→Bool
 | .v x,.v y=>jg x y
 | .t ds,.t es=>dG ds es
 | .l ds,.l es=>dG ds es
 | _,_=>false
def dG:List Da→List Da→Bool
 | [],[]=>true
 | d::ds,e::es=>gY d e && dG ds es
 | _,_=>false
end
mutual
def alike:Da→Da→Bool
 | .v _,.v _=>true
 | .t ds,.t es=>dH ds es
 | .l ds,.l es=>dH ds es
 | _,_=>false
def dH:List Da→List Da→Bool
 | d::ds,e::es=>alike d e && dH ds es
 | _,_=>true
end
mutual
def dep:Da→Nat
 | .v _=>0
 | .t ds=>lF ds+1
 | .l ds=>lF ds+1
def lF:List Da→Nat
 | []=>0
 | d::ds=>max (dep d) (lF ds)
end
theorem gA.length {K:Frag}{H:Hp}:∀{ds:List Da} {xs:List V},gA K H ds xs→ds.length=xs.length
 | [],[],_=>rfl
 | _::_,_::_,h=>congrArg (·+1) (gA.length (by unfold gA at h;exact h.2))
 | [],_::_,h=>by unfold gA at h;exact h.elim
 | _::_,[],h=>by unfold gA at h;exact h.elim
def gZ (ds es:List Da)(j:Nat):Bool:=match ds[j]?,es[j]? with
 | some d,some e=>gY d e
 | _,_=>true
theorem cY:∀ds es:List Da,dG ds es=((abF (min ds.length es.length)).all (gZ ds es) && ds.length==es.length)
 | [],[]=>rfl
 | [],_::_=>by simp [dG]
 | _::_,[]=>by simp [dG]
 | d::ds,e::es=>by
  have ih:=cY ds es
  have r:min (d::ds).length (e::es).length=min ds.length es.length+1:=by simp [Nat.succ_min_succ]
  rw [r,List.range_succ_eq_map,akc,List.all_map]
  have b0:gZ (d::ds) (e::es) 0=gY d e:=rfl
  have b1:(gZ (d::ds) (e::es) ∘ Nat.succ)=gZ ds es:=by
   funext j
   rfl
  have l1:((d::ds).length==(e::es).length)=(ds.length==es.length):=by simp
  rw [b0,b1,l1,Bool.and_assoc, ← ih]
  rfl
section
variable {X:Cx}{pins:List (Addr×Obj)}{σ:L2.St}{H:Hp}{s:Shared}
theorem xi {x:V}(h:fM x=true):jg x x=true:=by
 cases x <;> first | rfl | (simp [jg];done) | (cases h;done)
mutual
theorem m8 (I:Inv X pins σ H s):∀(d e:Da) (x:V),Is X.K H d x→Is X.K H e x→alike d e=true→gY d e=true
 | .v a,.v b,x,h1,h2,_=>by
  unfold Is at h1 h2
  obtain ⟨rfl,f⟩:=h1
  obtain ⟨rfl,_⟩:=h2
  unfold gY
  exact xi f
 | .t ds,.t es,x,h1,h2,a=>by
  unfold Is at h1 h2
  obtain ⟨p,xs,rfl,q1,k1⟩:=h1
  obtain ⟨p',ys,e',q2,k2⟩:=h2
  cases e'
  cases I.fY q1 q2
  unfold gY
  unfold alike at a
  exact j4 I ds es xs k1 k2 a
 | .l ds,.l es,x,h1,h2,a=>by
  unfold Is at h1 h2
  obtain ⟨p,xs,rfl,q1,k1⟩:=h1
  obtain ⟨p',ys,e',q2,k2⟩:=h2
  cases e'
  cases I.fG q1 q2
  unfold gY
  unfold alike at a
  exact j4 I ds es xs k1 k2 a
 | .v _,.t _,_,_,_,a=>by unfold alike at a;cases a
 | .v _,.l _,_,_,_,a=>by unfold alike at a;cases a
 | .t _,.v _,_,_,_,a=>by unfold alike at a;cases a
 | .t _,.l _,_,_,_,a=>by unfold alike at a;cases a
 | .l _,.v _,_,_,_,a=>by unfold alike at a;cases a
 | .l _,.t _,_,_,_,a=>by unfold alike at a;cases a
theorem j4 (I:Inv X pins σ H s):∀(ds es:List Da) (xs:List V),gA X.K H ds xs→gA X.K H es xs→dH ds es=true→dG ds es=true
 | [],[],_,_,_,_=>by unfold dG;rfl
 | d::ds,e::es,x::xs,h1,h2,a=>by
  unfold gA at h1 h2
  unfold dH at a
  rw [aa_] at a
  unfold dG
  rw [m8 I d e x h1.1 h2.1 a.1,j4 I ds es xs h1.2 h2.2 a.2]
  rfl
 | [],_::_,[],_,h2,_=>by unfold gA at h2;exact h2.elim
 | [],_::_,_::_,h1,_,_=>by unfold gA at h1;exact h1.elim
 | _::_,[],[],h1,_,_=>by unfold gA at h1;exact h1.elim
 | _::_,[],_::_,_,h2,_=>by unfold gA at h2;exact h2.elim
 | _::_,_::_,[],h1,_,_=>by unfold gA at h1;exact h1.elim
end
theorem in1_units (A:Around):A.in1.units=A.units+1:=rfl
mutual
theorem sN (I:Inv X pins σ H s):∀(d e:Da) (x y:V) (u w:Value) (A:Around),Is X.K H d x→Is X.K H e y→alike d e=true→RelV x u→RelV y w→A.units+dep d < cLine→SeqAt.EqAt A s u w (gY d e)
 | .v a,.v b,x,y,u,w,A,h1,h2,_,r1,r2,_=>by
  unfold Is at h1 h2
  obtain ⟨rfl,f1⟩:=h1
  obtain ⟨rfl,f2⟩:=h2
  unfold gY
  exact w4 r1 r2 f1 f2
 | .t ds,.t es,x,y,u,w,A,h1,h2,a,r1,r2,hu=>by
  have gc :=h1
  have Sh :=h2
  unfold Is at h1 h2
  obtain ⟨p,xs,rfl,q1,k1⟩:=h1
  obtain ⟨p',ys,rfl,q2,k2⟩:=h2
  cases r1
  cases r2
  by_cases e:p=p'
  ·subst e
   rw [m8 I _ _ _ gc Sh a]
   exact .same _
  ·refine .of_refs e ?_
   obtain ⟨its,v1,t1,_⟩:=I.tuple q1
   obtain ⟨dF,v2,t2,_⟩:=I.tuple q2
   unfold gY
   rw [cY,k1.length,k2.length,v1.length,v2.length]
   have z:=SeqAt.RcAt.tuples (A:=A) (e:=gZ ds es) t1 t2 (by unfold dep at hu;omega) fun j g1 g2=>by
    unfold dep at hu
    unfold alike at a
    exact fO I ds es xs ys its dF A.in1 k1 k2 a v1 v2 (by rw [in1_units];omega) j (by simpa using g1) (by simpa using g2)
   simpa using z
 | .l ds,.l es,x,y,u,w,A,h1,h2,a,r1,r2,hu=>by
  have gc :=h1
  have Sh :=h2
  unfold Is at h1 h2
  obtain ⟨p,xs,rfl,q1,k1⟩:=h1
  obtain ⟨p',ys,rfl,q2,k2⟩:=h2
  cases r1
  cases r2
  by_cases e:p=p'
  ·subst e
   rw [m8 I _ _ _ gc Sh a]
   exact .same _
  ·refine .of_refs e ?_
   obtain ⟨its,v1,t1,_⟩:=I.list q1
   obtain ⟨dF,v2,t2,_⟩:=I.list q2
   unfold gY
   unfold dep at hu
   unfold alike at a
   by_cases el:its.length=dF.length
   ·rw [cY,k1.length,k2.length,v1.length,v2.length]
    have z:=SeqAt.RcAt.lists (A:=A) (e:=gZ ds es) t1.isList t2.isList (by simpa using el) (by omega) fun j g1 g2=>
     fO I ds es xs ys its dF A.in1 k1 k2 a v1 v2 (by rw [in1_units];omega) j (by simpa using g1) (by simpa using g2)
    rw [el,Nat.min_self,beq_self_eq_true,akZ]
    rw [aaF,el] at z
    exact z
   ·have ne:dG ds es=false:=by
     rw [cY,k1.length,k2.length,v1.length,v2.length,beq_eq_false_iff_ne.mpr el,aj7]
    rw [ne]
    exact SeqAt.RcAt.lists_lengths t1.isList t2.isList (by simpa using el) (by omega)
 | .v _,.t _,_,_,_,_,_,_,_,a,_,_,_=>by unfold alike at a;cases a
 | .v _,.l _,_,_,_,_,_,_,_,a,_,_,_=>by unfold alike at a;cases a
 | .t _,.v _,_,_,_,_,_,_,_,a,_,_,_=>by unfold alike at a;cases a
 | .t _,.l _,_,_,_,_,_,_,_,a,_,_,_=>by unfold alike at a;cases a
 | .l _,.v _,_,_,_,_,_,_,_,a,_,_,_=>by unfold alike at a;cases a
 | .l _,.t _,_,_,_,_,_,_,_,a,_,_,_=>by unfold alike at a;cases a
theorem fO (I:Inv X pins σ H s):∀(ds es:List Da) (xs ys:List V) (us ws:List Value) (A:Around),gA X.K H ds xs→gA X.K H es ys→dH ds es=true→Vals xs us→Vals ys ws→A.units+lF ds < cLine→
  ∀(j:Nat) (h1:j < us.length) (h2:j < ws.length),SeqAt.EqAt A s us[j] ws[j] (gZ ds es j)
 | d::ds,e::es,x::xs,y::ys,u::us,w::ws,A,k1,k2,a,.cons r1 v1,.cons r2 v2,hu,0,_,_=>by
  unfold gA at k1 k2
  unfold dH at a
  rw [aa_] at a
  unfold lF at hu
  exact sN I d e x y u w A k1.1 k2.1 a.1 r1 r2 (by omega)
 | d::ds,e::es,x::xs,y::ys,u::us,w::ws,A,k1,k2,a,.cons r1 v1,.cons r2 v2,hu,j+1,h1,h2=>by
  unfold gA at k1 k2
  unfold dH at a
  rw [aa_] at a
  unfold lF at hu
  exact fO I ds es xs ys us ws A k1.2 k2.2 a.2 v1 v2 (by omega) j (by simpa using h1) (by simpa using h2)
 | [],_,[],_,_,_,_,_,_,_,.nil,_,_,_,h1,_=>absurd h1 (abf _)
 | _,[],_,[],_,_,_,_,_,_,_,.nil,_,_,_,h2=>absurd h2 (abf _)
 | [],_,_::_,_,_,_,_,k1,_,_,_,_,_,_,_,_=>by unfold gA at k1;exact k1.elim
 | _::_,_,[],_,_,_,_,k1,_,_,_,_,_,_,_,_=>by unfold gA at k1;exact k1.elim
 | _,[],_,_::_,_,_,_,_,k2,_,_,_,_,_,_,_=>by unfold gA at k2;exact k2.elim
 | _,_::_,_,[],_,_,_,_,k2,_,_,_,_,_,_,_=>by unfold gA at k2;exact k2.elim
end
end
section
variable {X:Cx}
inductive CP (K:Frag)(x:V)(y:V)(H:Hp)(Q:VK):Prop where
 | mk (ds es:_) (_:((Is K H (.t ds) x∧Is K H (.t es) y)∨(Is K H (.l ds) x∧Is K H (.l es) y))) (_:dH ds es=true) (_:lF ds≤60) (_:Q (.bl (dG ds es)) H):CP K x y H Q
theorem zH (hu:X.A.units+64 < cLine):iI X (compareOp .Eq) (CP X.K):=by
 intro pins s σ H x y v u Q I rx ry h
 obtain ⟨ds,es,h,a,hd,q⟩:=h
 rcases h with ⟨h1,h2⟩ | ⟨h1,h2⟩
 ·unfold Is at h1 h2
  obtain ⟨p,xs,rfl,q1,k1⟩:=h1
  obtain ⟨p',ys,rfl,q2,k2⟩:=h2
  cases rx
  cases ry
  obtain ⟨its,v1,t1,_⟩:=I.tuple q1
  obtain ⟨dF,v2,t2,_⟩:=I.tuple q2
  have z:=SeqAt.RcAt.tuples (A:=X.A) (e:=gZ ds es) t1 t2 (by omega) fun j g1 g2=>
   fO I ds es xs ys its dF X.A.in1 k1 k2 a v1 v2 (by rw [in1_units];omega) j (by simpa using g1) (by simpa using g2)
  refine z X.prog X.w X.xe _ ⟨.bl _,H,I,rfl,?_⟩
  have e:=cY ds es
  rw [k1.length,k2.length,v1.length,v2.length] at e
  simpa [e] using q
 ·unfold Is at h1 h2
  obtain ⟨p,xs,rfl,q1,k1⟩:=h1
  obtain ⟨p',ys,rfl,q2,k2⟩:=h2
  cases rx
  cases ry
  obtain ⟨its,v1,t1,_⟩:=I.list q1
  obtain ⟨dF,v2,t2,_⟩:=I.list q2
  have e:=cY ds es
  rw [k1.length,k2.length,v1.length,v2.length] at e
  by_cases el:its.length=dF.length
  ·have z:=SeqAt.RcAt.lists (A:=X.A) (e:=gZ ds es) t1.isList t2.isList (by simpa using el) (by omega) fun j g1 g2=>
    fO I ds es xs ys its dF X.A.in1 k1 k2 a v1 v2 (by rw [in1_units];omega) j (by simpa using g1) (by simpa using g2)
   refine z X.prog X.w X.xe _ ⟨.bl _,H,I,rfl,?_⟩
   rw [el,Nat.min_self,beq_self_eq_true,akZ] at e
   simpa [e,el] using q
  ·have ne:dG ds es=false:=by rw [e,beq_eq_false_iff_ne.mpr el,aj7]
   rw [ne] at q
   exact SeqAt.RcAt.lists_lengths t1.isList t2.isList (by simpa using el) (by omega) X.prog X.w X.xe _ ⟨.bl _,H,I,rfl,q⟩
end
section
variable {K:Frag}
end
theorem bT:bootBuiltins "len"=some (.builtin "len"):=by decide+kernel
theorem CQ:bootBuiltins "abs"=some (.builtin "abs"):=by decide+kernel
theorem Ki:bootBuiltins "str"=some (.type "str"):=by decide+kernel
theorem j5:bootBuiltins "list"=some (.type "list"):=by decide+kernel
def FI (_ j:Int):Prop:=j≠0
theorem nz {i j:Int}(h:j≠0):FI i j:=h
theorem d5 {X:Cx}:iI X (binaryOp .Mod) (rI FI fun i j=>.int (i.fmod j)):=zk
end Ty
set_option maxHeartbeats 4000000
namespace TyAtt
open PySem PySem.W PySem.Calls PyProof.Rows
open Builtin.Int (intBits)
theorem um {ns:List Int}{n:Int}(h:(WData.list (ns.map WData.int)).layable=true)(hn:n∈ns):intBits n≤1048576:=by
 obtain ⟨_,_,hw⟩:=layableW_iff.mp h
 have a:∀(l:List Int),n∈l→intBits n≤WData.weightAll (l.map WData.int):=by
  intro l
  induction l with
  | nil=>intro q;cases q
  | cons y r ih=>
   intro q
   rw [aaj]
   unfold WData.weightAll
   rcases aaJ.mp q with z | z
   ·subst z
    have:intBits n≤WData.weight (.int n):=by
     unfold WData.weight
     exact aao _
    omega
   ·have:=ih z
    omega
 have b:=a ns hn
 unfold WData.weight at hw
 omega
theorem pe {l:OpenLaw}{n:Nat}{q:Program}{loose:List Str}{XP:(Str→Option Value)→Heap→Prop}{YP:World→Heap→Prop}{d:DefRec}
  (hn:l.most=some n) (Si:d.params.defaults=[])
  (call:∀(w:World) (s₀ s₁:Shared) (mg mb:Str→Option Value) (fa:Addr) (o:Obj) (pm cd doc:Value) (a:Addr) (vs:List Value) (ns:List Int),
   Ground q loose [] XP w s₀ mg mb s₁.heap→YP w s₁.heap→
   s₁.heap.get? fa=some o→o.data=.func (docDef d.name d.params d.body d.scope pm cd doc)→s₁.heap.CodeRec cd d.name→mg d.name=some (.ref fa)→
   s₁.heap.get? a=some {cls:=.type "list",data:=.seq vs.toArray}→IntsAre vs ns→ns.length≤n→(∀i∈ns,intBits i≤1048576)→s₁.gens= #[]→
   codeAny (model l.prog w) callerA (.call (.ref fa) ⟨[.ref a],[]⟩) (fun r s' =>r=.ok (.ret (.bool true))∧OldK s₁.heap s'.heap∧s'.os=s₁.os∧AllBare s'.gens) s₁):
  WalkO q loose XP YP l.row.toRowW d [] (fun f vs=>PySem.call f vs):=by
 intro w s₀ s₁ mg mb G Y fa o pm cd doc dV kV ho hd lj hD Kj hg args vals as zF hlay hrd Sb hlo
 obtain rfl:dV=.none:=Dflts.none hD Si
 obtain rfl:kV=.none:=Dflts.noKw hD
 obtain ⟨a,vs,ns,rfl,rfl,FJ,hints,hlen⟩:=Att.ug hn zF Sb
 have hb:∀i∈ns,intBits i≤1048576:=fun i hi=>um (layW_cons hlay).1 hi
 refine enter_call (codeAny_mono (call w s₀ s₁ mg mb fa o pm cd doc a vs ns G Y ho (fd_plain hd) lj Kj FJ hints hlen hb hg) fun r s' hq=> ?_)
 obtain ⟨rfl,h2,h3,h4⟩:=hq
 exact ⟨.inl ⟨.bool true,.bool true,[],rfl,fun _=>rfl,.bool true,Att.uh l _,fun _=>⟨List.Pairwise.nil,fun _ hm=>(nomatch hm)⟩⟩,h2,h3,h4⟩
end TyAtt
namespace Ty
open PySem PySem.Spec PyProof.Rows L2
open Builtin.Int (intBits)
structure Fn (P:Program)(w:World)(K:Frag)(mg:Str→Option Value)(base:Heap)(CX:iJ)(k:Nat)(x:Str)(ps:List Str)(sp:Sp):Prop where
 ex:∃(f:Addr) (fd:FuncData),cj P w K mg base CX k f fd ps sp∧Binds K fd ps []∧mg x=some (.ref f)∧keepIn K (.ref f)=true
structure Def (K:Frag)(mg:Str→Option Value)(x:Str)(st:Stmt)(ps:List Str):Prop where
 ex:∃(f:Addr) (dV oc:Value) (od:Option Addr) (kV doc pm:Value) (an:Option Addr) (bx ct:Value) (kY:Array (Option Value)),
  K.lookup f=some ⟨oc,od,.func (fnOf x x (av st) (au st) (af st) dV kV doc pm an bx ct),kY⟩∧codeIn K bx x=true∧keepIn K (.ref f)=true∧
  Binds K (fnOf x x (av st) (au st) (af st) dV kV doc pm an bx ct) ps []∧mg x=some (.ref f)
theorem Def.of {K:Frag}{mg:Str→Option Value}{x:Str}{st:Stmt}{ps:List Str}{f:Addr}{fd:FuncData}(F:kZ K x x st f fd)(b:Binds K fd ps [])(m:mg x=some (.ref f)):Def K mg x st ps:=by
 obtain ⟨oc,od,kV,doc,pm,an,bx,ct,kY,rfl,lk,lj⟩:=F.ex
 exact ⟨f,.none,oc,od,kV,doc,pm,an,bx,ct,kY,lk,lj,F.kp,b,m⟩
section
variable {P:Program}{w:World}{K:Frag}{mg:Str→Option Value}{base:Heap}{CX:iJ}
theorem Def.ok {x:Str}{st:Stmt}{N ps:List Str}{k:Nat}{sp:Sp}(D:Def K mg x st ps)(S:aA N ps (af st))(len:∀vs H Q E,sp vs H Q E→vs.length=ps.length)
  (gS:∀(f:Addr) (bx:Value) (A:Around) (outer:List Env) (s:Shared) (H:Hp) (vs:List V) (Q:VK) (E:XK),b7 k (A.deeper (envOfC x (af st) s.heap.objs.size f bx))→sp vs H Q E→
   ∃t,PSs (jy CX P w K mg base N x (af st) f bx A outer s H E).so (au st) t∧t {nx:=fun _ H' =>Q .cb H',rt:=Q} (start N vs) H):Fn P w K mg base CX (k+1) x ps sp:=by
 obtain ⟨f,dV,oc,od,kV,doc,pm,an,bx,ct,kY,lk,lj,kp,b,m⟩:=D.ex
 refine ⟨f,_,sH lk lj S len fun A outer s H vs Q E hr qF=> ?_,b,m,kp⟩
 obtain ⟨t,h,q⟩:=gS f bx A outer s H vs Q E hr qF
 exact ⟨t,h.so,q⟩
theorem _root_.L2.kZ.okG {x:Str}{st:Stmt}{f:Addr}{fd:FuncData}{N ps:List Str}{k:Nat}{sp:Sp}(F:kZ K x x st f fd)(S:aA N ps (af st))(len:∀vs H Q E,sp vs H Q E→vs.length=ps.length)
  (gS:∀(bx:Value) (A:Around) (outer:List Env) (s:Shared) (H:Hp) (vs:List V) (Q:VK) (E:XK),b7 k (A.deeper (envOfC x (af st) s.heap.objs.size f bx))→sp vs H Q E→
   ∃t,PSs (jy CX P w K mg base N x (af st) f bx A outer s H E).so (au st) t∧t {nx:=fun _ H' =>Q .cb H',rt:=Q} (start N vs) H):cj P w K mg base CX (k+1) f fd ps sp:=by
 obtain ⟨oc,od,kV,doc,pm,an,bx,ct,kY,rfl,lk,lj⟩:=F.ex
 refine sH lk lj S len fun A outer s H vs Q E hr qF=> ?_
 obtain ⟨t,h,q⟩:=gS bx A outer s H vs Q E hr qF
 exact ⟨t,h.so,q⟩
def ph (CX:iJ):Prop:=∀outer H s e s',CX outer H s E0 e s' →False
theorem pj {X:Cx}(h:ph CX):Passes CX X.so E0:=fun _ _ _ _ _ _ _ q=>(h _ _ _ _ _ q).elim
section
variable {X:Cx}{k:Nat}{ps:List Str}{sp:Sp}{E:XK}{x:Str}{p pos:Pos}{e:Expr}{es:List Expr}{t:TA}
theorem ay (F:Fn X.prog X.w X.K X.mg X.base CX k x ps sp)(hr:b7 k X.A)(hx:Passes CX X E)(ha:PA X (e::es) t)(hg:Gl X x:=by rfl)(ue:(x==("__debug__":Str))=false:=by decide)
  (he:starEach (e::es) X.env=(false,eval e X.env)::starEach es X.env:=by rfl) (sG:(backTo pos (starEach es X.env)).any (·.1)=false:=by rfl):PE X (.Call (.Name x p) (e::es) [] pos) (CL sp [] E t):=by
 obtain ⟨f,fd,G,b,m,kp⟩:=F.ex
 exact zu G hr hg m kp b .nil hx ha ue he sG
end
end
def xj (K:Frag):Sp:=fun vs H Q _=>∃(a:Addr) (ns:List Int),vs=[.ref a]∧aT K H a (ns.map V.int)∧ns.length≤63∧(∀i∈ns,intBits i≤1048576)∧∀H',Q (.bl true) H'
theorem walk {l:PySem.W.OpenLaw}{q:Program}{loose:List Str}{XP:(Str→Option Value)→Heap→Prop}{YP:World→Heap→Prop}{d:DefRec}{K:Params→Frag}{CX:World→iJ}{x:Str}{k:Nat}
  (hn:l.most=some 63) (Si:d.params.defaults=[]) (hi:importsNone q=true) (hr:b7 k callerA)
  (hY:∀(w:World) (h:Heap),YP w h→(K w.params).In h) (hm:∀w,ph (CX w))
  (F:∀(w:World) (mg:Str→Option Value) (fa:Addr) (h:Heap),(K w.params).In h→h.Ns mainGlobals mg→mg d.name=some (.ref fa)→
   ∃fd:FuncData,(∀(s:Shared) (u:Value),BindsTo s fd ⟨[u],[]⟩ [(x,u)])∧
    ∀base:Heap,(K w.params).In base→base.Ns mainGlobals mg→cj l.prog w (K w.params) mg base (CX w) k fa fd [x] (xj (K w.params))):
  PySem.W.WalkO q loose XP YP l.row.toRowW d [] (fun f vs=>PySem.call f vs):=by
 refine TyAtt.pe hn Si fun w s₀ s₁ mg mb fa o pm cd doc a vs ns G Y ho hd lj Kj FJ hints hlen hb hg=> ?_
 have KX:=hY w _ Y
 obtain ⟨fd,hbd,hF⟩:=F w mg fa _ KX G.T.g Kj
 exact xg KX G.T.g G.T.b G.T.builtins G.T.nolimit (G.T.seer hi) hg FJ hints (aak hlen (by decide)) hr hF hbd (fun H hO hS=>⟨a,ns,rfl,hS,hlen,hb,fun _=>rfl⟩) fun H e s' =>hm w [] H s₁ e s'
end Ty
set_option maxHeartbeats 4000000
namespace Ty
open PySem PySem.Spec PyProof.Rows
end Ty
set_option maxHeartbeats 4000000
namespace Ty
open PySem PySem.Spec PyProof.Rows L2
def DictAt (h:Heap)(a:Addr)(dx:Option Addr):Prop:=∃o,h.get? a=some o∧o.dict=dx
def aX (P:Program)(w:World):iJ:=fun outer H s E e s' =>∃(a:Addr) (cls a0:Value) (dx:Option Addr) (H' :Hp) (B:Heap),
 e=.ref a∧Heap.FlyingW B outer a cls a0 s'.heap∧DictAt s'.heap a dx∧Un (sf outer) [] H H' s.heap s'.heap∧gi P w H' s'.heap∧s'.os=s.os∧AllBare s'.gens∧
 (∀b o,s.heap.get? b=some o→b∉sf outer→∃o',B.get? b=some o')∧(∀b u,H' b=some u→∃o,B.get? b=some o)∧E cls dx H'
theorem aX.m9 {P:Program}{w:World}:ph (aX P w):=fun _ _ _ _ _ ⟨_,_,_,_,_,_,_,_,_,_,_,_,_,_,_,z⟩=>z
section
variable {P:Program}{w:World}{K:Frag}{mg:Str→Option Value}{base:Heap}{N:List Str}{qual:Str}{scope:Scope}{f:Addr}{bx:Value}{A:Around}{outer:List Env}{s0:Shared}{H0:Hp}{E:XK}
abbrev cxr (P:Program)(w:World)(K:Frag)(mg:Str→Option Value)(base:Heap)(N:List Str)(qual:Str)(scope:Scope)(f:Addr)(bx:Value)(A:Around)(outer:List Env)(s0:Shared)(H0:Hp)(E:XK):Cx:=jy (aX P w) P w K mg base N qual scope f bx A outer s0 H0 E
end
end Ty
set_option maxHeartbeats 4000000
namespace Ty
open PySem PySem.Spec PyProof.Rows L2
section
variable {X:Cx}{pins:List (Addr×Obj)}{σ:L2.St}{H H' :Hp}{s:Shared}
def XP (X:Cx)(pins:List (Addr×Obj))(σ:L2.St)(E:XK)(e:Value)(s' :Shared):Prop:=∃H s,Inv X pins σ H s∧aX X.prog X.w X.stack H s E e s'
end
end Ty
set_option maxHeartbeats 4000000
namespace TyExc
open PySem PySem.W PySem.Calls PyProof.Rows Builtin Builtin.ObjectAttr Builtin.Getset_descriptor
section
variable {prog:Program}{w:World}{A:Around}{E:Value→Shared→Prop}{K:Frag}{h:Heap}{g:Array GenState}{d:Drawn}{t:Nat}{os:OsState}{a C:Addr}{o:Obj}
end
end TyExc
set_option maxHeartbeats 4000000
namespace Ty
open PySem PySem.Spec PyProof.Rows L2
section
variable {X:Cx}
end
end Ty
set_option maxHeartbeats 4000000
namespace TyExc
open PySem PySem.W PySem.Calls PyProof.Rows Builtin Builtin.ObjectAttr Builtin.Getset_descriptor
section
variable {prog:Program}{w:World}{A:Around}{E:Value→Shared→Prop}{K:Frag}{h:Heap}{g:Array GenState}{d:Drawn}{t:Nat}{os:OsState}{a C:Addr}{o:Obj}{od:Option Obj}{name:Str}{v:Value}
end
end TyExc
set_option maxHeartbeats 4000000
namespace TyExc
open PySem PySem.W PySem.Calls PyProof.Rows Builtin Builtin.ObjectAttr
section
variable {prog:Program}{w:World}{A:Around}{E:Value→Shared→Prop}{K:Frag}{s:Shared}{x C:Addr}{ox:Obj}{od:Option Obj}{name:Str}{v:Value}{cd:ClassData}
end
end TyExc
set_option maxHeartbeats 400000
namespace TyExc
open PySem PySem.W PySem.Calls PyProof.Rows Builtin
section
variable {prog:Program}{w:World}{A:Around}{K:Frag}{h:Heap}{g:Array GenState}{d:Drawn}{t:Nat}{os:OsState}{e C:Addr}{oe:Obj}{vs:Array Value}{args:List Value}{E:Value→Shared→Prop}
end
end TyExc
set_option maxHeartbeats 400000
namespace TyExc
open PySem PySem.W PySem.Calls PyProof.Rows Builtin
section
variable {prog:Program}{w:World}{A:Around}{K:Frag}{h:Heap}{g:Array GenState}{d:Drawn}{t:Nat}{os:OsState}{nm q:Str}{C N f:Addr}{bs bm bmB:List Value}{Sj:Bool}{sn:List Str}{sub:List Value}{ab:Bool}{col:Option Bool}{dd:Option Addr}{k0 k1 k2 k3 k5:Option Value}{B newId Sk:String}{rest:List Value}{E:Value→Shared→Prop}
end
end TyExc
set_option maxHeartbeats 400000
namespace TyExc
open PySem PySem.W PySem.Calls PyProof.Rows Builtin
section
variable {M:Model}{A:Around}{E:Value→Shared→Prop}{env:Env}{nm q:Str}{C N:Addr}{bs bm:List Value}{Sj:Bool}{sn:List Str}{sub:List Value}{ab:Bool}{col:Option Bool}{dd:Option Addr}{k0 k1 k2 k3 k5:Option Value}{newId:String}{s:Shared}{x:Sem Value}{Q:Flow→Shared→Prop}
end
end TyExc
set_option maxHeartbeats 400000
namespace TyExc
open PySem PySem.W
end TyExc
namespace Ty
open PySem PySem.Spec PyProof.Rows L2
section
variable {P:Program}{w:World}{H:Hp}{h:Heap}{C a:Addr}{dx:Option Addr}
end
section
variable {X:Cx}
end
end Ty
set_option maxHeartbeats 1000000
namespace Ty
open PySem PySem.Spec PyProof.Rows L2
section
variable {P:Program}{w:World}{K:Frag}{mg:Str→Option Value}{base:Heap}{N:List Str}{qual:Str}{scope:Scope}{f:Addr}{bx:Value}{A:Around}{outer:List Env}{s0:Shared}{H0:Hp}{E:XK}
end
end Ty
set_option maxHeartbeats 4000000
namespace Ty
open PySem PySem.Spec PyProof.Rows L2
section
variable {prog:Program}{w:World}{A:Around}{R:Result→Shared→Prop}{s:Shared}
theorem m_ {elt target iter:Expr}{ifs:List Expr}{scope:Scope}{pos:Pos}{it acc:Value}{env:Env}(I:Nat→Shared→Prop)
  (turn:∀n s,I n s→wpAny (model prog w) A (pyNext it) (fun r s₁=>match r with
   | none=>R (.ok .next) s₁
   | some v=>wpAny (model prog w) A (letOwnedTupleGo target it v) (fun _ s₁' =>wpAny (model prog w) A (assign target env v) (fun _ s₂=>
     wpAny (model prog w) A (forIn ifs true fun c r=>if r=true then do let ok ← isTrue c env (eval c env);pure (ForInStep.yield ok) else pure (ForInStep.yield r)) (fun ok s₃=>
      if ok=true then wpAny (model prog w) A (eval elt env) (fun x s₄=>
       wpAny (model prog w) A (call (.builtin "list.append") [acc,x]) (fun _ s₅=>∃m,m < n∧I m s₅) (fun _ _=>False) s₄) (fun _ _=>False) s₃
      else ∃m,m < n∧I m s₃) (fun _ _=>False) s₂) (fun _ _=>False) s₁') (fun _ _=>False) s₁) (fun _ _=>False) s)
  (n:Nat) (h:I n s):
  codeAny (model prog w) A (.compLoop (.ListComp elt [⟨target,iter,ifs,0⟩] scope pos) 0 it acc env) R s:=by
 refine codeAny_loop rfl I (fun n s hI=> ?_) n h
 show wpAny _ A ((compTurn (.ListComp elt [⟨target,iter,ifs,0⟩] scope pos) 0 it acc env).onRaise (fun x=>do noteFrame x env;theTreesLotGoes x)) _ _ s
 refine wpAny_noted ?_
 rw [compTurn_list]
 refine wpAny_bind (wpAny_standAt (wpAny_bind (wpAny_mono (turn n s hI) (fun r s₁ h₁=> ?_) fun _ _ h' =>h'.elim)))
 cases r with
 | none=>exact wpAny_pure h₁
 | some v=>
  refine wpAny_bind (wpAny_mono h₁ (fun _ s₁' h₁' => ?_) fun _ _ h' =>h'.elim)
  refine wpAny_bind (wpAny_mono h₁' (fun _ s₂ h₂=>wpAny_bind (wpAny_mono h₂ (fun ok s₃ h₃=> ?_) fun _ _ h' =>h'.elim)) fun _ _ h' =>h'.elim)
  cases ok with
  | false=>exact wpAny_pure ⟨rfl,h₃⟩
  | true=>
   exact wpAny_bind (wpAny_bind (wpAny_mono h₃ (fun x s₄ h₄=>wpAny_bind (wpAny_mono h₄ (fun _ s₅ h₅=>wpAny_pure (wpAny_pure ⟨rfl,h₅⟩)) fun _ _ h' =>h'.elim)) fun _ _ h' =>h'.elim))
end
def cn (env:Env)(fr:List Str):List (Str×Addr):=fr.filterMap fun n=>(env.cells.lookup n).map fun c=>(n,c)
theorem lookup_mem {α:Type}{x:Str}{c:α}:∀{l:List (Str×α)},l.lookup x=some c→(x,c)∈l
 | [],h=>by simp at h
 | (y,d)::r,h=>by
  rw [akw] at h
  cases e:x==y with
  | true=>
   rw [e] at h
   have e1:x=y:=by simpa using e
   cases h
   rw [e1]
   exact aax
  | false=>
   rw [e] at h
   exact aav _ (lookup_mem h)
theorem uo {env:Env}{fr:List Str}{x:Str}{c:Addr}(h:(x,c)∈cn env fr):env.cells.lookup x=some c:=by
 obtain ⟨n,_,e⟩:=ab1.mp h
 cases q:env.cells.lookup n with
 | none=>rw [q] at e;cases e
 | some d=>
  rw [q] at e
  have e' :(n,d)=(x,c):=aaE e
  cases e'
  exact q
theorem dB {env:Env}{fr:List Str}{x:Str}{c:Addr}(h:(cn env fr).lookup x=some c):env.cells.lookup x=some c:=uo (lookup_mem h)
theorem iN {env:Env}{x:Str}{c:Addr}(q:env.cells.lookup x=some c):∀{fr:List Str},x∈fr→(cn env fr).lookup x=some c
 | [],h=>nomatch h
 | y::r,h=>by
  unfold cn
  rw [abB]
  by_cases e:x=y
  ·subst e
   rw [q]
   simp
  ·have hr:x∈r:=by
    rcases aaJ.mp h with z | z
    ·exact absurd z e
    ·exact z
   have ih:=iN q hr
   cases z:env.cells.lookup y with
   | none=>exact ih
   | some d=>
    show abj x ((y,d)::_)=_
    rw [akw]
    have ne:(x==y)=false:=by simpa using e
    rw [ne]
    exact ih
def iO (env:Env):List Str→Prop
 | []=>True
 | y::r=>(env.kindOf y=some .cell∨env.kindOf y=some .free)∧iO env r
theorem iO.at {env:Env}{x:Str}:∀{fr:List Str},iO env fr→x∈fr→env.kindOf x=some .cell∨env.kindOf x=some .free
 | [],_,h=>nomatch h
 | y::r,a,h=>by
  rcases aaJ.mp h with z | z
  ·rw [z]
   exact a.1
  ·exact iO.at a.2 z
section
variable {X:Cx}
def pC (X:Cx)(NB:List Str)(scope:Scope)(cl:List (Str×Addr))(C:Addr)(s:Shared)(H:Hp)(fp:List Addr):Cx:=
 {prog:=X.prog,w:=X.w,K:=X.K,mg:=X.mg,base:=X.base,A:=X.A,N:=NB,s₀:=s,H₀:=H,env:=compEnvC scope cl C X.env,outer:=X.stack,stack:=X.stack,ex:=fp,fn:=fun _=>false,calm:=X.calm,pn:=[],xe:=fun _ _=>False}
structure FK (X:Cx)(scope:Scope)(fr:List Str)(caps:List Nat):Prop where
 Kk:closureFor scope X.env=pure (cn X.env fr)
 cell:∀y∈scope.names,y.2≠.cell
 kind:scope.kind=.function
 names:∀y∈scope.names,y.2=.local→scope.names.lookup y.1=some .local
 free:∀y∈scope.names,y.2=.free→y.1∈fr
 caps:caps.map (fun i=>X.N[i]?)=fr.map some
 out:iO X.env fr
 inn:iO (compEnvC scope [] 0 X.env) fr
def PF (X:Cx)(ifs:List Expr)(t:TT):Prop:=
 ∀(pins:List (Addr×Obj)) (s:Shared) (σ:L2.St) (H:Hp) (Q:Bool→Hp→Prop),Inv X pins σ H s→t σ H Q→
  wpAny (model X.prog X.w) X.A (forIn ifs true fun c r=>if r=true then do let ok ← isTrue c X.env (eval c X.env);pure (ForInStep.yield ok) else pure (ForInStep.yield r)) (TP X pins σ Q) X.xe s
def iP:TT:=fun _ H Q=>Q true H
theorem cR:PF X [] iP:=fun _ _ _ H _ I h=>wpAny_tests_nil ⟨H,I,h⟩
def sB (k:Nat)(caps:List Nat)(σ:L2.St):L2.St:=aau k none++caps.map fun i=>(σ[i]?).getD none
def j6 (D:Addr)(g:TG)(tt:TT)(te:TE)(J:It)(σ0:L2.St)(H1:Hp)(Q:VK):Prop:=∃W:Nat→Nat→L2.St→List V→Hp→Prop,
 (∃m,W 0 m σ0 [] (upd H1 D (.lst [])))∧∀i m σ2 ys H2,W i m σ2 ys H2→(J.stop i H2∧Q (.ref D) H2)∨(J.go i H2∧∀x H3,J.wG i H2 x H3→g x σ2 H3 fun σ4 H4=>tt σ4 H4 fun b H5=>
  if b=true then te σ4 H5 fun v H6=>H6 D=some (.lst ys)∧ys.length < sizeLine∧∃m',m' < m∧W (i+1) m' σ4 (ys++[v]) (upd H6 D (.lst (ys++[v]))) else ∃m',m' < m∧W (i+1) m' σ4 ys H5)
def CS (k:Nat)(caps:List Nat)(wi:TI)(g:TG)(tt:TT)(te:TE):TE:=fun σ H Q=>wi σ H fun J H1=>∀D,H1 D=none→j6 D g tt te J (sB k caps σ) H1 Q
theorem FL {k:Nat}{caps:List Nat}{σ:L2.St}{i:Nat}{v:V}(h:(sB k caps σ)[i]? =some (some v)):k≤i∧∃j,caps[i - k]? =some j∧σ[j]? =some (some v):=by
 unfold sB at h
 by_cases c:i < k
 ·rw [aaq (by simpa using c),aaY,if_pos c] at h
  cases h
 ·rw [aat (by simpa using acd c),aa2,Wp] at h
  refine ⟨acd c,?_⟩
  cases e:caps[i - k]? with
  | none=>rw [e] at h;cases h
  | some j=>
   rw [e] at h
   refine ⟨j,rfl,?_⟩
   have h' :(σ[j]?).getD none=some v:=aaE h
   cases z:σ[j]? with
   | none=>rw [z] at h';cases h'
   | some o=>
    rw [z] at h'
    exact congrArg some h'
theorem j7 {elt target iter:Expr}{ifs:List Expr}{scope:Scope}{pos:Pos}{tn fr:List Str}{caps:List Nat}{g:TG}{tt:TT}{te:TE}{pins:List (Addr×Obj)}{σ:L2.St}{H2:Hp}{s2:Shared}{J:It}{fp:List Addr}{it:Addr}
  {CT:Nat→Heap→Prop} {Q:VK} {RR:Value→Addr→Result→Shared→Prop} {E:Value→Shared→Prop} (hc:X.calm=true) (B:FK X scope fr caps)
  (hg:∀C s H fp,PG (pC X (tn++fr) scope (cn X.env fr) C s H fp) target g) (ht:∀C s H fp,PF (pC X (tn++fr) scope (cn X.env fr) C s H fp) ifs tt) (he:∀C s H fp,PE (pC X (tn++fr) scope (cn X.env fr) C s H fp) elt te)
  (I2:Inv X pins σ H2 s2) (T:Turn X.prog X.w X.K target J fp it CT) (CD:CT 0 s2.heap) (f2:∀b∈fp,iK X pins H2 b) (q:∀D,H2 D=none→j6 D g tt te J (sB tn.length caps σ) H2 Q)
  (fin:∀D C H' s' m,Inv X pins σ H' s' →s'.heap.Ns C m→iK X pins H' C→Q (.ref D) H' →RR (.ref D) C (.ok .next) s'):
  wpAny (model X.prog X.w) X.A (newList []) (fun acc s₃=>wpAny (model X.prog X.w) X.A (newFunctionEnv scope X.env.globals (cn X.env fr) [] X.env.qual none .none (some X.env)) (fun Kl s₄=>
   codeAny (model X.prog X.w) X.A (.compStart (.ListComp elt [⟨target,iter,ifs,0⟩] scope pos) 0 (.ref it) acc {Kl with scope:=relabel scope X.env}) (RR acc Kl.locals) s₄) E s₃) E s2:=by
 refine wpAny_newObj_type (wpAny_newFunctionEnv B.cell (by intro y hy;simp at hy) (fun h₁ Sl Sn=> ?_) B.kind)
 have I3:Inv X pins σ (upd H2 s2.heap.objs.size (.lst [])) {s2 with heap:=s2.heap.push {cls:=.type "list",data:=.seq ([]:List Value).toArray}}:=I2.FG (t' :=s2.toks) (its:=[]) .nil (aa4 _)
 obtain ⟨W,⟨m0,w0⟩,turn⟩:=q s2.heap.objs.size (I2.bK.fresh (aao _))
 generalize hH3:upd H2 s2.heap.objs.size (.lst [])=H3 at I3 w0
 have f3:∀b∈fp,iK X pins H3 b:=fun b hb=>by
  obtain ⟨a0,a1⟩:=f2 b hb
  refine ⟨?_,a1⟩
  obtain ⟨o,e,_⟩:=T.obj _ _ CD b hb
  rw [← hH3,ak (aaN (Heap.lt_size e))]
  exact a0
 generalize hD:s2.heap.objs.size=D at*
 generalize QV:({s2 with heap:=s2.heap.push {cls:=.type "list",data:=.seq ([]:List Value).toArray}}:Shared)=s3 at*
 have e3:s3.heap=s2.heap.push {cls:=.type "list",data:=.seq ([]:List Value).toArray}:=by rw [← QV]
 have JU:CT 0 s3.heap:=T.keep _ _ _ CD fun b _ o e=>by rw [e3];exact Heap.get?_push_of_some _ e
 have kept:∀b o,s3.heap.get? b=some o→h₁.get? b=some o:=fun b o e=>(Sn.2 b (aaN (Heap.lt_size e))).trans (Heap.get?_push_of_some _ e)
 generalize hC:s3.heap.objs.size=C at*
 have QW:s3.heap.objs.size≤C:=akk hC
 have I4:Inv X pins σ H3 {s3 with heap:=h₁,toks:=s3.toks+([]:List (Str×Value)).length}:=I3.kept kept
 have fpC:∀b∈fp,b≠C:=fun b hb z=>by
  obtain ⟨o,e,_⟩:=T.obj _ _ JU b hb
  exact absurd z (aaN (aaC (Heap.lt_size e) QW))
 have nst:∀b∈fp,b∉sf X.stack:=fun b hb z=>(aaJ.mp (I3.qK b z)).elim (f3 b hb).2.1 (f3 b hb).2.2.1
 have okB:(pC X (tn++fr) scope (cn X.env fr) C s3 H3 fp).Ok:=by
  refine ⟨I3.ok.mod,B.kind,I3.ok.glob,I3.ok.blt,QW,fun x y c e1 e2=>I3.ok.inj x y c (dB e1) (dB e2),fun x hx=> ?_,fun x c z=>(nomatch z),I3.ok.hd,I3.ok.frames,.inl rfl,
   fun b hb=>⟨fpC b hb,fun x c e=>(f3 b hb).2.2.2.2.1 x c (dB e)⟩,I3.bs,aak I3.ok.zg I3.sz,fun b o e hb=> ?_,nst,I3.stack,I3.si⟩
  ·have hm:∃k,(x,k)∈scope.names∧k≠.local∧(k=.cell∨k=.free):=by
    have:∃k',(relabel scope X.env).names.lookup x=some k' ∧(k' =.cell∨k' =.free):=by
     rcases hx with z | z
     ·exact ⟨_,z,.inl rfl⟩
     ·exact ⟨_,z,.inr rfl⟩
    obtain ⟨k',e',h'⟩:=this
    obtain ⟨⟨n,k⟩,hn,en⟩:=aal.mp (lookup_mem e')
    dsimp only at en
    by_cases cc:(k==NameKind.free && X.env.scope.kind==.function && X.env.kindOf n==some .cell)=true
    ·rw [if_pos cc] at en
     cases en
     have kf:k=.free:=by
      rw [aa_,aa_] at cc
      simpa using cc.1.1
     exact ⟨k,hn,(by intro z;rw [kf] at z;cases z),.inr kf⟩
    ·rw [if_neg cc] at en
     cases en
     exact ⟨k',hn,fun z' =>by rcases h' with y | y <;> (rw [y] at z';cases z'),h'⟩
   obtain ⟨k,hk,_,h2⟩:=hm
   rcases h2 with z | z
   ·exact absurd z (B.cell _ hk)
   ·have hf:=B.free _ hk z
    obtain ⟨c,ec⟩:=I3.ok.has x (B.out.at hf)
    exact ⟨c,iN ec hf⟩
  ·obtain ⟨_,_,_,h1,_⟩:=f3 b hb
   rcases h1 with z | z
   ·exact I3.ok.wo b o e z
   ·exact abd _ (aaC (aaC (Heap.lt_size e) I3.ok.zg) z)
 have IB:Inv (pC X (tn++fr) scope (cn X.env fr) C s3 H3 fp) [] (sB tn.length caps σ) H3 {s3 with heap:=h₁,toks:=s3.toks+([]:List (Str×Value)).length}:=by
  refine ⟨okB,rfl,I3.bare,Un.kept kept,⟨_,Sl,fun i x v e1 e2 _=> ?_⟩,fun x c e=>I4.cell x c (dB e),?_,fun x c e=>I3.fF x c (dB e),fun p hp=>(nomatch hp),I3.bK.kept kept,?_⟩
  ·obtain ⟨hk,j,ej,es⟩:=FL e2
   have uq :fr[i - tn.length]? =some x:=by
    have z:(tn++fr)[i]? =some x:=e1
    rw [aat hk] at z
    exact z
   have hx:x∈fr:=aai uq
   have eN:X.N[j]? =some x:=by
    have z:=congrArg (fun l:List (Option Str)=>l[i - tn.length]?) B.caps
    simp only [Wp,ej,uq,abE] at z
    exact aaE z
   have ko:=B.out.at hx
   obtain ⟨m,hn,hl⟩:=I4.loc
   obtain ⟨u,r,lk⟩:=hl j x v eN es (by rcases ko with z | z;exact .inr (.inl z);exact .inr (.inr z))
   refine ⟨u,r,?_⟩
   rcases lk with ⟨k1,_⟩ | ⟨_,c,ec,ic⟩
   ·rcases ko with z | z <;> (rw [z] at k1;cases k1)
   ·exact .inr ⟨B.inn.at hx,c,iN ec hx,ic⟩
  ·exact I3.bK.fresh QW
  ·have:=congrArg abk B.caps
   simp only [ir] at this
   show (sB tn.length caps σ).length=(tn++fr).length
   unfold sB
   simp [this]
 have xk:∀{H' :Hp},(∀b∈fp,H' b=none)→∀b∈fp,iK (pC X (tn++fr) scope (cn X.env fr) C s3 H3 fp) [] H' b:=fun hn b hb=>
  ⟨hn b hb,fpC b hb,nst b hb,.inl hb,fun x c e=>(f3 b hb).2.2.2.2.1 x c (dB e),fun p hp=>(nomatch hp)⟩
 have st4:CT 0 h₁:=T.keep _ _ _ JU fun b _ o e=>kept b o e
 have loop:codeAny (model X.prog X.w) X.A (.compLoop (.ListComp elt [⟨target,iter,ifs,0⟩] scope pos) 0 (.ref it) (.ref D) (compEnvC scope (cn X.env fr) C X.env)) (RR (.ref D) C) {s3 with heap:=h₁,toks:=s3.toks+([]:List (Str×Value)).length}:=by
  refine m_ (fun n s' =>∃i σ' ys H',Inv (pC X (tn++fr) scope (cn X.env fr) C s3 H3 fp) [] σ' H' s' ∧CT i s'.heap∧(∀b∈fp,H' b=none)∧W i n σ' ys H') ?_ m0 ⟨0,_,[],H3,IB,st4,fun b hb=>(f3 b hb).1,w0⟩
  rintro n s5 ⟨i,σ5,ys,H5,I5,Jf,QR,w5⟩
  rcases turn i n σ5 ys H5 w5 with ⟨stop,qn⟩ | ⟨go,step⟩
  ·refine wpAny_mono (T.done (pC X (tn++fr) scope (cn X.env fr) C s3 H3 fp) rfl rfl rfl hc i [] s5 σ5 H5 (fun _ _=>False) I5 (xk QR) Jf stop) (fun r s6 ⟨hr,I6⟩=> ?_) fun _ _ z=>z
   subst hr
   obtain ⟨m,hn,_⟩:=I6.loc
   have J6:Inv X pins σ H5 s6:=I3.JK (ch:=fp) I6.os I6.base I6.bK I6.bare fun b hb=>⟨(f3 b hb).2.2.2.1,(f3 b hb).2.1,(f3 b hb).2.2.2.2.1,(f3 b hb).2.2.2.2.2⟩
   exact fin D C H5 s6 m J6 hn (I3.mS QW I6.free) qn
  ·refine wpAny_mono (T.item (pC X (tn++fr) scope (cn X.env fr) C s3 H3 fp) rfl rfl rfl hc i [] s5 σ5 H5 (fun _ _=>False) I5 (xk QR) Jf go) (fun r s6 ⟨u,hr,h6⟩=> ?_) fun _ _ z=>z
   subst hr
   refine wpAny_mono h6 (fun _ s7 ⟨x,H7,I7,r7,y7,So,fr7⟩=> ?_) fun _ _ z=>z
   have I7' :=I7.pinned (xk fr7) (T.obj _ _ So)
   have held:∀{σ' :L2.St} {H' :Hp} {s' :Shared},Inv (pC X (tn++fr) scope (cn X.env fr) C s3 H3 fp) ([]++jU fp s7.heap) σ' H' s' →CT (i+1) s'.heap∧∀b∈fp,H' b=none:=fun {σ' H' s'} I' =>by
    refine ⟨T.keep _ _ _ So fun b hb o e=>(I'.pin (b,o) (aaM _ (aaM _ (e_ hb e)))).1,fun b hb=> ?_⟩
    obtain ⟨o,e,d⟩:=T.obj _ _ So b hb
    exact (I'.pin (b,o) (aaM _ (aaM _ (e_ hb e)))).2.1
   refine wpAny_mono (hg C s3 H3 fp _ s7 σ5 H7 x u _ I7' r7 (step x H7 y7)) (fun _ s8 ⟨σ8,H8,I8,q8⟩=> ?_) fun _ _ z=>z
   refine wpAny_mono (ht C s3 H3 fp _ s8 σ8 H8 _ I8 q8) (fun ok s9 ⟨H9,I9,q9⟩=> ?_) fun _ _ z=>z
   cases ok with
   | false=>
    rw [if_neg aay] at q9
    obtain ⟨m',hm,w9⟩:=q9
    rw [if_neg aay]
    obtain ⟨a,b⟩:=held I9
    exact ⟨m',hm,i+1,σ8,ys,H9,I9.fK,a,b,w9⟩
   | true=>
    rw [if_pos rfl] at q9
    rw [if_pos rfl]
    refine wpAny_mono (he C s3 H3 fp _ s9 σ8 H9 _ I9 q9) (fun v sO ⟨y,zI,I10,r10,hDD,hl,m',hm,w10⟩=> ?_) fun _ _ z=>z
    refine wpAny_mono (cg (X:=pC X (tn++fr) scope (cn X.env fr) C s3 H3 fp) _ sO σ8 zI (.ref D) [y] (.ref D) [v] (fun _ H' =>W (i+1) m' σ8 (ys++[y]) H') I10 rfl (.cons r10 .nil) ⟨D,ys,y,rfl,rfl,hDD,hl,w10⟩) (fun _ ur ⟨z,Jj,I11,_,q11⟩=> ?_) fun _ _ z=>z
    obtain ⟨a,b⟩:=held I11
    exact ⟨m',hm,i+1,σ8,ys++[y],Jj,I11.fK,a,b,q11⟩
 exact codeAny_compStart_list loop (T.self X.A 0 _ _ _ st4 loop)
theorem de {elt target iter:Expr}{ifs:List Expr}{scope:Scope}{pos:Pos}{tn fr:List Str}{caps:List Nat}{wi:TI}{g:TG}{tt:TT}{te:TE}(hc:X.calm=true)(B:FK X scope fr caps)(hi:PI X target iter wi)
  (hg:∀C s H fp,PG (pC X (tn++fr) scope (cn X.env fr) C s H fp) target g) (ht:∀C s H fp,PF (pC X (tn++fr) scope (cn X.env fr) C s H fp) ifs tt) (he:∀C s H fp,PE (pC X (tn++fr) scope (cn X.env fr) C s H fp) elt te)
  (hs:∀x,foldedSetIterable iter X.env x=pure x:=by intro _;rfl):PE X (.ListComp elt [⟨target,iter,ifs,0⟩] scope pos) (CS tn.length caps wi g tt te):=by
 intro pins s σ H Q I h
 rw [eval_ListComp]
 refine wpAny_comprehension_free (use:=none) rfl hs B.Kk B.kind B.names (b8 (hi pins s σ H _ I h) fun v s1 h1=>b8 h1 fun QQ s2 h2=> ?_)
 obtain ⟨it,fp,CT,J,H2,rfl,I2,T,CD,f2,q⟩:=h2
 refine j7 (Q:=Q) (RR:=fun acc C=>compPost (model X.prog X.w) X.A X.xe none (EP X pins σ Q) acc C) hc B hg ht he I2 T CD f2 q ?_
 intro D C H' s' m I' hn fc qq
 obtain ⟨g0,g1,g2,g3,g4,g5⟩:=fc
 exact ⟨m,hn,fun h' CU =>⟨.ref D,H',I'.turned (t' :=s'.toks) (fun b o hb e=>(CU.2 b hb).trans e) g0 g1 g3 g4 g5,rfl,qq⟩⟩
theorem jH {i:Nat}{y:Str}{py:Pos}{Km:Pos}{elt target iter:Expr}{ifs:List Expr}{scope:Scope}{pos:Pos}{tn fr:List Str}{caps:List Nat}{wi:TI}{g:TG}{tt:TT}{te:TE}(hN:X.N.Nodup)(hiN:X.N[i]? =some y)(hx:Loc X.env.scope y)
  (hc:X.calm=true) (B:FK X scope fr caps) (hi:PI X target iter wi)
  (hg:∀C s H fp,PG (pC X (tn++fr) scope (cn X.env fr) C s H fp) target g) (ht:∀C s H fp,PF (pC X (tn++fr) scope (cn X.env fr) C s H fp) ifs tt) (he:∀C s H fp,PE (pC X (tn++fr) scope (cn X.env fr) C s H fp) elt te)
  (Jk:swapsWith (.ListComp elt [⟨target,iter,ifs,0⟩] scope pos) (some (.Name y py)) Km.line X.env=pure true:=by rfl)
  (hs:∀x,foldedSetIterable iter X.env x=pure x:=by intro _;rfl) (hf:X.fn y=true∨X.env.scope.names.lookup y=some .local:=by first | exact .inl rfl | exact .inr rfl | assumption):
  PS X (.Assign [.Name y py] (.ListComp elt [⟨target,iter,ifs,0⟩] scope pos) Km) (ET (CS tn.length caps wi g tt te) (dk i)):=by
 intro pins s σ H D I h
 rw [exec_Assign_Name_used _ _ _ _ Jk]
 refine wpAny_bind (wpAny_standAt (wpAny_bind ?_))
 show wpAny _ X.A (do let _ ← comprehension (.ListComp elt [⟨target,iter,ifs,0⟩] scope pos) scope X.env _ (newList []) false (eval iter X.env) (some (assign (.Name y py) X.env))) _ _ s
 refine wpAny_bind (wpAny_mono (wpAny_comprehension_free (use:=some (assign (.Name y py) X.env)) (Q:=fun _ s' =>SP X pins D .next s') rfl hs B.Kk B.kind B.names
  (b8 (hi pins s σ H _ I h) fun v s1 h1=>b8 h1 fun QQ s2 h2=> ?_)) (fun _ s' hq=>wpAny_pure (wpAny_pure hq)) fun _ _ e=>e)
 obtain ⟨it,fp,CT,J,H2,rfl,I2,T,CD,f2,q⟩:=h2
 refine j7 (Q:=fun v H1=>dk i v σ H1 D.nx) (RR:=fun acc C=>compPost (model X.prog X.w) X.A X.xe (some (assign (.Name y py) X.env)) (fun _ s' =>SP X pins D .next s') acc C) hc B hg ht he I2 T CD f2 q ?_
 intro DD C H' s' m I' hn fc qq
 obtain ⟨g0,g1,g2,g3,g4,g5⟩:=fc
 show wpAny _ X.A (assign (.Name y py) X.env (.ref DD)) _ _ _
 refine wpAny_assign_Name (lN I' hN hiN hx (v:=.ref DD) (u:=.ref DD) rfl (fun J2 I'' ⟨a,sb,ha⟩=> ?_) hf)
 have hCa:C≠a:=by
  rcases ha with z | z
  ·rw [z]
   exact g1
  ·exact fun e=>g4 y a z e.symm
 exact ⟨m,hn.sameBut sb hCa,fun h' CU =>⟨_,H',I''.turned (t' :=J2.toks) (fun b o hb e=>(CU.2 b hb).trans e) g0 g1 g3 g4 g5,qq⟩⟩
end
section
variable {D:Addr}{te:TE}{cap:L2.St}{H1:Hp}{Q:VK}
theorem q4 {J:It}(n:Nat)(xs:Nat→V)(Pv:Nat→List V→Hp→Prop)(h0:Pv 0 [] (upd H1 D (.lst [])))
  (go:∀i ys H,i < n→Pv i ys H→J.go i H∧∀x H',J.wG i H x H' →H' =H∧x=xs i) (stop:∀ys H,Pv n ys H→J.stop n H)
  (hs:∀i ys H (R:VK),i < n→Pv i ys H→H D=some (.lst ys)→(∀v H6,H6 D=some (.lst ys)→ys.length < sizeLine→Pv (i+1) (ys++[v]) (upd H6 D (.lst (ys++[v])))→R v H6)→te (some (xs i)::cap) H R)
  (hd:∀ys H,Pv n ys H→H D=some (.lst ys)→Q (.ref D) H):j6 D (dk 0) iP te J (none::cap) H1 Q:=by
 refine ⟨fun i m σ ys H=>m=n - i∧i≤n∧(∃o,σ=o::cap)∧Pv i ys H∧H D=some (.lst ys),⟨n,by simp,aa4 _,⟨none,rfl⟩,h0,ah⟩,?_⟩
 rintro i m σ ys H ⟨rfl,hi,⟨o,rfl⟩,p,hD⟩
 by_cases jV:i < n
 ·obtain ⟨g1,g2⟩:=go i ys H jV p
  refine .inr ⟨g1,fun x H' y=> ?_⟩
  obtain ⟨e1,e2⟩:=g2 x H' y
  subst e1 e2
  unfold dk iP
  dsimp only
  rw [if_pos rfl]
  exact hs i ys _ _ jV p hD fun v H6 a b c=>⟨a,b,n - (i+1),by omega,rfl,by omega,⟨_,rfl⟩,c,ah⟩
 ·have e:i=n:=by omega
  subst e
  exact .inl ⟨stop ys H p,hd ys H p hD⟩
end
section
variable {X:Cx}{tg:Expr}
end
end Ty
set_option maxHeartbeats 4000000
namespace Ty
open PySem PySem.Spec PyProof.Rows L2
section
variable {prog:Program}{w:World}{A:Around}{E:Value→Shared→Prop}
end
structure Kn (K:Frag)(C:Addr):Prop where
 makes:PySem.W.makesIn K C=true
 init:PySem.W.findIn K (.ref C) "__init__"=some (some (.builtin "object.__init__"))
 kp:keepIn K (.ref C)=true
def Ko (C:Addr):TE:=fun _ H Q=>∀x dx,H x=none→H dx=none→dx≠x→Q (.ref x) (upd (upd H dx (.own x)) x (.ins C dx []))
section
variable {X:Cx}
theorem zJ {pins:List (Addr×Obj)}{σ:L2.St}{H:Hp}{s:Shared}{Q:VK}{C:Addr}(M:Kn X.K C)(I:Inv X pins σ H s)(h:Ko C σ H Q):wpAny (model X.prog X.w) X.A (call (.ref C) []) (EP X pins σ Q) X.xe s:=by
 have hq:=h (s.heap.objs.size+1) s.heap.objs.size (I.bK.fresh (akB _)) (I.bK.fresh (aao _)) (aaN (aa6 _))
 have I2:=Inv.made (C:=C) I
 have Y:=PySem.W.makes_of (M:=model X.prog X.w) I.mQ M.makes
 refine wpAny_call (uc I.mQ M.makes M.init (fun self=>PySem.W.Looks.of_pure (PySem.W.oi_bind self)) ?_)
 have ho:((s.heap.push PySem.W.emptyDict).push (PySem.W.instObj C s.heap.objs.size)).get? (s.heap.objs.size+1)=some (PySem.W.instObj C s.heap.objs.size):=by
  have:=Heap.get?_push_size (s.heap.push PySem.W.emptyDict) (o:=PySem.W.instObj C s.heap.objs.size) rfl
  rwa [Heap.size_push] at this
 have t1:PySem.W.Looks (model X.prog X.w) ((s.heap.push PySem.W.emptyDict).push (PySem.W.instObj C s.heap.objs.size)) (typeOf (.ref (s.heap.objs.size+1))) (.ref C):=(PySem.W.Looks.ld ho).andThen .now
 have t2:PySem.W.Looks (model X.prog X.w) ((s.heap.push PySem.W.emptyDict).push (PySem.W.instObj C s.heap.objs.size)) (isInstance (.ref (s.heap.objs.size+1)) (.type "object")) true:=
  t1.andThen (Y.top.keeps fun b o e=>Heap.get?_push_of_some _ (Heap.get?_push_of_some _ e))
 refine codeAny_call_builtin PySem.W.oi_plain PySem.W.entry_oi (@PySem.W.check_slot (model X.prog X.w) _ _ _ "object.__init__" "object" "__init__" (.ref (s.heap.objs.size+1)) [] [] _ PySem.W.oi_kind PySem.W.oi_split t2 (PySem.W.oi_args (.ref (s.heap.objs.size+1))) ?_)
 rw [PySem.W.oi_run]
 exact wpAny_pure (And.intro rfl ⟨V.ref (s.heap.objs.size+1),_,I2,rfl,hq⟩)
theorem FN {x:Str}{p pos:Pos}{C:Addr}(M:Kn X.K C)(hg:Gl X x)(hm:X.mg x=some (.ref C))(ue:(x==("__debug__":Str))=false:=by decide):PE X (.Call (.Name x p) [] [] pos) (Ko C):=by
 intro pins s σ H Q I h
 refine wpAny_Call_Name_kw (gR I hg hm ?_ ue)
 exact PySem.W.callWith_K0 I.mQ M.kp (zJ M I h)
end
structure bE (P:Program)(w:World)(K:Frag)(mg:Str→Option Value)(base:Heap)(CX:iJ)(k:Nat)(C:Addr)(m:Str)(ps:List Str)(sp:Sp):Prop where
 ex:∃(f:Addr) (fd:FuncData),qE K C∧Meth K C m f∧cj P w K mg base CX k f fd ps sp∧Binds K fd ps []
theorem bE.mono {P:Program}{w:World}{K:Frag}{mg:Str→Option Value}{base:Heap}{CX:iJ}{j k:Nat}{C:Addr}{m:Str}{ps:List Str}{sp:Sp}(M:bE P w K mg base CX j C m ps sp)(h:j≤k):bE P w K mg base CX k C m ps sp:=by
 obtain ⟨f,fd,a,b,c,d⟩:=M.ex
 exact ⟨f,fd,a,b,c.mono h,d⟩
section
variable {X:Cx}{CX:iJ}{k:Nat}{E:XK}{m:Str}{pos apos:Pos}{e o:Expr}{es:List Expr}{ta:TE}{t:TA}
inductive CV (P:Program)(w:World)(K:Frag)(mg:Str→Option Value)(base:Heap)(CX:iJ)(k:Nat)(m:Str)(E:XK)(t:TA)(σ:L2.St)(Q:VK)(x:V)(H1:Hp):Prop where
 | mk (a C dx fs ps sp:_) (_:x=.ref a) (_:H1 a=some (.ins C dx fs)) (_:fs.lookup m=none) (_:bE P w K mg base CX k C m ps sp) (_:t σ H1 fun vs H2=>sp (x::vs) H2 Q E):CV P w K mg base CX k m E t σ Q x H1
def Kp (P:Program)(w:World)(K:Frag)(mg:Str→Option Value)(base:Heap)(CX:iJ)(k:Nat)(m:Str)(E:XK)(ta:TE)(t:TA):TE:=fun σ H Q=>ta σ H fun x H1=>CV P w K mg base CX k m E t σ Q x H1
theorem cS {pl:Sem Bool}(he:PE X o ta)(hr:b7 k X.A)(hx:Passes CX X E)
  (ht:eval (.Call (.Attribute o m apos) [] [] pos) X.env=(do
   let ov ← eval o X.env
   standAt apos.atName
   let (f,first) ← holding [ov] (getMethod ov m pl)
   callWith pos f first (backTo pos (starEach [] X.env)) (backToKw pos (keywordEach [] X.env))):=by rfl):
  PE X (.Call (.Attribute o m apos) [] [] pos) (Kp X.prog X.w X.K X.mg X.base CX k m E ta fL):=by
 intro pins s σ H Q I h
 refine PySem.W.methodCall_KW (pl:=pl) (b8 (he pins s σ H _ I h) fun u s1 ⟨x,H1,I1,rx,a,C,dx,fs,ps,sp,ex,ea,l,M,q⟩=> ?_) ht
 subst ex
 obtain rfl:u=Value.ref a:=rx
 obtain ⟨f,fd,c,hm,F,hb⟩:=M.ex
 refine gw I1 ea c hm l ?_
 exact PySem.W.callWith_K0 (first:=[.ref a]) I1.mQ hm.kp (mX (us:=[.ref a]) (vs:=[.ref a]) (dvs:=[]) F hr hb .nil hx I1 (.cons rfl .nil) q)
theorem cZ {pl:Sem Bool}(he:PE X o ta)(hr:b7 k X.A)(hx:Passes CX X E)(ha:PA X (e::es) t)
  (zi:starEach (e::es) X.env=(false,eval e X.env)::starEach es X.env:=by rfl) (sG:(backTo pos (starEach es X.env)).any (·.1)=false:=by rfl)
  (ht:eval (.Call (.Attribute o m apos) (e::es) [] pos) X.env=(do
   let ov ← eval o X.env
   standAt apos.atName
   let (f,first) ← holding [ov] (getMethod ov m pl)
   callWith pos f first (backTo pos (starEach (e::es) X.env)) (backToKw pos (keywordEach [] X.env))):=by rfl):
  PE X (.Call (.Attribute o m apos) (e::es) [] pos) (Kp X.prog X.w X.K X.mg X.base CX k m E ta t):=by
 intro pins s σ H Q I h
 refine PySem.W.methodCall_KW (pl:=pl) (b8 (he pins s σ H _ I h) fun u s1 ⟨x,H1,I1,rx,a,C,dx,fs,ps,sp,ex,ea,l,M,q⟩=> ?_) ht
 subst ex
 obtain rfl:u=Value.ref a:=rx
 obtain ⟨f,fd,c,hm,F,hb⟩:=M.ex
 refine gw I1 ea c hm l ?_
 refine PySem.W.callWith_K (first:=[.ref a]) (h₀:=X.base) I.ok.mod.Je hm.kp (b8 (ha pos pins s1 σ H1 _ I1 q) fun us s2 ⟨vs,H2,I2,r,q2⟩=>⟨I2.mQ,?_⟩) zi sG
 refine mX (us:=.ref a::us) (vs:=.ref a::vs) (dvs:=[]) F hr hb .nil hx I2 (.cons rfl r) ?_
 rw [abW]
 exact q2
end
theorem pD {X:Cx}{CX:iJ}(h:ph CX)(e:X.xe=fun _ _=>False):Passes CX X E0:=fun _ _ _ _ _ _ _ q=>(h _ _ _ _ _ q).elim
end Ty
set_option maxHeartbeats 4000000
namespace Ty
open PySem PySem.Spec PyProof.Rows L2
section
variable {σ:L2.St}{H:Hp}{Q:VK}{QB:Bool→Hp→Prop}{QA:List V→Hp→Prop}{D:Ends}{t u:TS}{ta tb te:TE}{tc td:TT}{t1:TA}
end
end Ty
set_option maxHeartbeats 4000000
namespace Ty
open PySem PySem.Spec PyProof.Rows L2
section
variable {X:Cx}
inductive Kq (x:V)(lo:Option Int)(hi:Option Int)(H:Hp)(Q:VK):Prop where
 | mk (z:_) (_:x=.str z) (_:z.length≤sizeLine) (_:Q (.str (Txt.slice z lo hi)) H):Kq x lo hi H Q
theorem FO:QU X Kq:=by
 intro pins s σ H x v vl vu lo hi sl Q I rx hs pl pu h
 obtain ⟨z,rfl,hz,q⟩:=h
 obtain ⟨t,rfl⟩:=rx
 refine ⟨"str",_,F.slot_str_getitem.lookup,typeIs_str _ _ _,?_⟩
 cases pl <;> cases pu
 ·exact wpAny_getItem_str_slice (l:=none) (u:=none) (st:=none) hs rfl (post_val_or_str ⟨aak (Txt.slice_le z _ _) hz,fun t' k=>⟨.str _,H,I.tok k,⟨t',rfl⟩,q⟩⟩)
 ·rename_i j uj
  exact wpAny_getItem_str_slice (l:=none) (u:=some (j,uj)) (st:=none) hs rfl (post_val_or_str ⟨aak (Txt.slice_le z _ _) hz,fun t' k=>⟨.str _,H,I.tok k,⟨t',rfl⟩,q⟩⟩)
 ·rename_i i ui
  exact wpAny_getItem_str_slice (l:=some (i,ui)) (u:=none) (st:=none) hs rfl (post_val_or_str ⟨aak (Txt.slice_le z _ _) hz,fun t' k=>⟨.str _,H,I.tok k,⟨t',rfl⟩,q⟩⟩)
 ·rename_i i ui j uj
  exact wpAny_getItem_str_slice (l:=some (i,ui)) (u:=some (j,uj)) (st:=none) hs rfl (post_val_or_str ⟨aak (Txt.slice_le z _ _) hz,fun t' k=>⟨.str _,H,I.tok k,⟨t',rfl⟩,q⟩⟩)
inductive CW (x:V)(y:V)(H:Hp)(Q:VK):Prop where
 | mk (z n:_) (_:x=.str z) (_:y=.int n) (_:MulOk z n) (_:Q (.str (Txt.mul z n)) H):CW x y H Q
theorem ng:iI X (binaryOp .Mult) CW:=by
 intro pins s σ H x y v u Q I rx ry h
 obtain ⟨z,n,rfl,rfl,ok,q⟩:=h
 obtain ⟨t,rfl⟩:=rx
 obtain ⟨t',rfl⟩:=ry
 exact SB.mul ok fun t' k=>⟨.str _,H,I.tok k,⟨t',rfl⟩,q⟩
end
end Ty
set_option maxHeartbeats 4000000
namespace Ty
open PySem PySem.Spec PyProof.Rows L2 PySem.NumText
def dg (m:Nat):List Nat:=(Nat.toDigits 10 m).map Char.toNat
def tx (n:Int):Str:=Str.ofString (toString n)
def Kr:Str:=Str.ofString "/"
def nt (q:Int×Int):Str:=if q.2=1 then tx q.1 else tx q.1++Kr++tx q.2
end Ty
set_option maxHeartbeats 4000000
namespace Ty
open PySem PySem.Spec PyProof.Rows L2 PySem.NumText
section
variable {X:Cx}
end
def isStar:Expr→Bool
 | .Starred .. =>true
 | _=>false
theorem uu {e:Expr}{es:List Expr}{env:Env}(h:isStar e=false):starEach (e::es) env=(false,eval e env)::starEach es env:=by
 cases e <;> first | rfl | (cases h;done)
theorem aq {X:Cx}{e:Expr}{es:List Expr}{te:TE}{t:TA}(ha:PE X e te)(hr:PA X es t)(h:isStar e=false:=by rfl):PA X (e::es) (CK te t):=zt ha hr (uu h)
end Ty
set_option maxHeartbeats 4000000
namespace Ty
open PySem PySem.Spec PyProof.Rows L2
section
variable {D:Addr}{te:TE}{cap:L2.St}{H1:Hp}{Q:VK}
def bL (D:Addr)(H H' :Hp):Prop:=∀b o,b≠D→H b=some o→H' b=some o
theorem bL.of {H H' :Hp}(s:ar H H'):bL D H H' :=fun b o _ e=>s b o e
theorem bL.upd {H:Hp}{o:HO}:bL D H (upd H D o):=fun b o' n e=>by rw [ak n];exact e
theorem pE {J:It}(n:Nat)(xs:Nat→V)(Rel:Nat→V→Hp→Prop)(nD:H1 D=none)(hn:n < sizeLine)
  (go:∀i H,i < n→ar H1 H→J.go i H∧∀x H',J.wG i H x H' →H' =H∧x=xs i) (stop:∀H,ar H1 H→J.stop n H)
  (hR:∀i v H H' ys,H D=some (.lst ys)→bL D H H' →Rel i v H→Rel i v H')
  (he:∀i H (R:VK),i < n→ar H1 H→(∀v H6,ar H H6→Rel i v H6→R v H6)→te (some (xs i)::cap) H R)
  (hd:∀ys H,ys.length=n→(∀i v,ys[i]? =some v→Rel i v H)→ar H1 H→H D=some (.lst ys)→Q (.ref D) H):
  j6 D (dk 0) iP te J (none::cap) H1 Q:=by
 refine q4 n xs (fun i ys H=>ys.length=i∧(∀i v,ys[i]? =some v→Rel i v H)∧ar H1 H) ⟨rfl,fun i v e=>by simp at e,fun b o e=>by rw [ak (ao e nD)];exact e⟩ ?_ ?_ ?_ ?_
 ·rintro i ys H hi ⟨_,_,s⟩
  exact go i H hi s
 ·rintro ys H ⟨_,_,s⟩
  exact stop H s
 ·rintro i ys H R hi ⟨l,r,s⟩ hD k
  refine he i H R hi s fun v H6 s6 rv=>k v H6 (s6 _ _ hD) (by omega) ⟨by simp [l],fun j u e=> ?_,fun b o e=> ?_⟩
  ·by_cases c:j < ys.length
   ·rw [aaq c] at e
    have ru:=hR j u H H6 ys hD (bL.of s6) (r j u e)
    exact hR j u H6 _ ys (s6 _ _ hD) bL.upd ru
   ·rw [aat (by omega)] at e
    have ej:j=i:=by
     by_cases z:j - ys.length=0
     ·omega
     ·rw [aam (by simp;omega)] at e
      cases e
    subst ej
    have:v=u:=by
     rw [show j - ys.length=0 by omega] at e
     exact aaE e
    subst this
    exact hR j v H6 _ ys (s6 _ _ hD) bL.upd rv
  ·rw [ak (ao e nD)]
   exact s6 _ _ (s _ _ e)
 ·rintro ys H ⟨l,r,s⟩ hD
  exact hd ys H l r s hD
theorem c6 {K:Frag}{a:Addr}{xs:List V}(Rel:Nat→V→Hp→Prop)(nD:H1 D=none)(hn:xs.length < sizeLine)(hS:∀H,ar H1 H→aT K H a xs)
  (hR:∀i v H H' ys,H D=some (.lst ys)→bL D H H' →Rel i v H→Rel i v H')
  (he:∀i x H (R:VK),xs[i]? =some x→ar H1 H→(∀v H6,ar H H6→Rel i v H6→R v H6)→te (some x::cap) H R)
  (hd:∀ys H,ys.length=xs.length→(∀i v,ys[i]? =some v→Rel i v H)→ar H1 H→H D=some (.lst ys)→Q (.ref D) H):
  j6 D (dk 0) iP te (CC K a) (none::cap) H1 Q:=by
 refine pE xs.length (fun i=>(xs[i]?).getD .cb) Rel nD hn (fun i H hi s=>⟨⟨xs,xs[i],hS H s,gE hi⟩,fun x H' y=>⟨y.1,?_⟩⟩) (fun H s=>⟨xs,hS H s,aao _⟩) hR (fun i H R hi s k=> ?_) hd
 ·rw [y.2 xs (hS H s)];rfl
 ·have e:xs[i]? =some xs[i]:=gE hi
  have k' :=he i _ H R e s k
  rw [← (show (xs[i]?).getD .cb=xs[i] by rw [e];rfl)] at k'
  exact k'
theorem q5 {lo:Int}{n:Nat}(Rel:Nat→V→Hp→Prop)(nD:H1 D=none)(hn:n < sizeLine)
  (hR:∀i v H H' ys,H D=some (.lst ys)→bL D H H' →Rel i v H→Rel i v H')
  (he:∀(i:Nat) H (R:VK),i < n→ar H1 H→(∀v H6,ar H H6→Rel i v H6→R v H6)→te (some (.int (lo+i))::cap) H R)
  (hd:∀ys H,ys.length=n→(∀i v,ys[i]? =some v→Rel i v H)→ar H1 H→H D=some (.lst ys)→Q (.ref D) H):
  j6 D (dk 0) iP te (EV lo n) (none::cap) H1 Q:=
 pE n (fun i=>.int (lo+i)) Rel nD hn (fun i H hi s=>⟨hi,fun x H' y=>y⟩) (fun H s=>aao n) hR he hd
end
end Ty
set_option maxHeartbeats 4000000
namespace Ty
open PySem PySem.Spec PyProof.Rows L2
section
variable {X:Cx}{pins:List (Addr×Obj)}{σ:L2.St}{H:Hp}{s:Shared}{h' :Heap}
theorem Inv.jI {t' :Nat}{fp:List Addr}(I:Inv X pins σ H s)(k:∀b o,b∉fp→s.heap.get? b=some o→h'.get? b=some o)(hf:∀b∈fp,iK X pins H b):Inv X pins σ H {s with heap:=h',toks:=t' }:=by
 have BY:∀b u,H b=some u→b∉fp:=fun b u e z=>by rw [(hf b z).1] at e;cases e
 refine I.step (g' :=s.gens) (d' :=s.drawn) (ch:=fp) (fun b hb=> ?_) (fun b o _ _ hc e _=>k b o hc e) (fun b o _ _ hc e _=>⟨o.slots,k b o hc e⟩) (fun _ _ _ _ n=>n)
  (fun b o hc e=>⟨o,k b o hc e⟩) (fun _ _ e=>e) (fun _ _ _ e=>e) (fun b ps e=>⟨#[],by rw [e];simp⟩) (fun m hm=> ?_) (fun b u e=> ?_) I.bare
 ·obtain ⟨f0,f1,f2,f3,f4,f5⟩:=hf b hb
  exact ⟨f3,f1,f4,f5⟩
 ·obtain ⟨o,es,ep,ho,r⟩:=hm
  exact ⟨o,es,ep,k _ o (fun z=>(hf _ z).2.1 rfl) ho,r⟩
 ·refine (I.bK b u e).mM (fun c v hc q=>k c v ?_ q) (fun _ q=>q) fun _ _ q=>q
  rcases hc with z | z
  ·rw [z];exact BY b u e
  ·exact BY c _ z
theorem Inv.nh {t' :Nat}{fp:List Addr}{T:Addr}{xs:List V}{its:List Value}(I:Inv X pins σ H s)(k:∀b o,b∉fp→s.heap.get? b=some o→h'.get? b=some o)(hf:∀b∈fp,iK X pins H b)(hT:s.heap.objs.size≤T)
  (hz:xs.length≤sizeLine) (rv:Vals xs its) (ht:IsTup h' T its.toArray):Inv X pins σ (upd H T (.tup xs)) {s with heap:=h',toks:=t' }:=by
 have hn:=I.bK.fresh hT
 have BY:∀b u,H b=some u→b∉fp:=fun b u e z=>by rw [(hf b z).1] at e;cases e
 have ne:∀b o,s.heap.get? b=some o→b≠T:=fun b o e=>aaN (aaC (Heap.lt_size e) hT)
 refine I.step (g' :=s.gens) (d' :=s.drawn) (ch:=fp) (fun b hb=> ?_) (fun b o _ _ hc e _=>k b o hc e) (fun b o _ _ hc e _=>⟨o.slots,k b o hc e⟩) (fun b o _ e n=>by rw [ak (ne b o e)];exact n)
  (fun b o hc e=>⟨o,k b o hc e⟩) (fun b ys e=>by rw [ak (ao e hn)];exact e) (fun b o u e=>by rw [ak (ao e hn)];exact e) (fun b ps e=>⟨#[],by rw [ak (ao e hn),e];simp⟩) (fun m hm=> ?_) (fun b u e=> ?_) I.bare
 ·obtain ⟨f0,f1,f2,f3,f4,f5⟩:=hf b hb
  exact ⟨f3,f1,f4,f5⟩
 ·obtain ⟨o,es,ep,ho,r⟩:=hm
  exact ⟨o,es,ep,k _ o (fun z=>(hf _ z).2.1 rfl) ho,r⟩
 ·by_cases hb:b=T
  ·subst hb
   rw [ah] at e
   cases e
   exact ⟨hz,its,rv,ht⟩
  ·rw [ak hb] at e
   refine (I.bK b u e).mM (fun c v hc q=>k c v ?_ q) (fun c q=>by rw [ak (ao q hn)];exact q) fun c ys q=>by rw [ak (ao q hn)];exact q
   rcases hc with z | z
   ·rw [z];exact BY b u e
   ·exact BY c _ z
end
def QX (K:Frag)(a b:Addr):It:=
 ⟨fun i H=>∃xs ys x y,aT K H a xs∧aT K H b ys∧xs[i]? =some x∧ys[i]? =some y,
  fun i H v H' =>∃p x y,(∀xs,aT K H a xs→xs[i]? =some x)∧(∀ys,aT K H b ys→ys[i]? =some y)∧v=.ref p∧H p=none∧H' =upd H p (.tup [x,y]),
  fun i H=>∃xs ys,aT K H a xs∧aT K H b ys∧(xs.length≤i∨ys.length≤i)⟩
theorem xl {P:Program}{w:World}{K:Frag}{es:List Expr}{k:Nat}{pos:Pos}(a b z TI TO i1 i2:Addr)(D:ZipApart z TI TO i1 i2 a b):
  Turn P w K (.Tuple es k pos) (QX K a b) [z,TI,TO,i1,i2] z (fun i h=>IsZip h z TI TO .none∧IsPair h TI (.ref i1) (.ref i2)∧(∃x y,IsPair h TO x y)∧h.IsListIter i1 a i∧h.IsListIter i2 b i) where
 mem:=by simp
 obj:=fun i h st c hc=>by
  obtain ⟨hz,gB,⟨x,y,lZ⟩,⟨o1,e1,c1,d1⟩,⟨o2,e2,c2,d2⟩⟩:=st
  have oH :c=z∨c=TI∨c=TO∨c=i1∨c=i2:=by simpa using hc
  rcases oH with e | e | e | e | e <;> subst e
  ·exact ⟨_,hz,fun v z=>by cases z⟩
  ·exact ⟨_,gB,fun v z=>by cases z⟩
  ·exact ⟨_,lZ,fun v z=>by cases z⟩
  ·exact ⟨_,e1,fun v z=>by rw [d1] at z;cases z⟩
  ·exact ⟨_,e2,fun v z=>by rw [d2] at z;cases z⟩
 keep:=fun i h h' st k=>by
  obtain ⟨hz,gB,⟨x,y,lZ⟩,h1,h2⟩:=st
  exact ⟨k z (by simp) _ hz,k TI (by simp) _ gB,⟨x,y,k TO (by simp) _ lZ⟩,h1.at fun o e=>k i1 (by simp) o e,h2.at fun o e=>k i2 (by simp) o e⟩
 item:=by
  intro X hP hw hK hc i pins s σ H E I hf st hg
  subst hP hw hK
  obtain ⟨hz,gB,⟨x0,y0,lZ⟩,h1,h2⟩:=st
  obtain ⟨xs,ys,x,y,qx,qy,ex,ey⟩:=hg
  obtain ⟨its,rv,p,_⟩:=I.list qx
  obtain ⟨Ks,oI,p',_⟩:=I.list qy
  obtain ⟨u,hu,ru⟩:=rv.get ex
  obtain ⟨v,hv,rv'⟩:=oI.get ey
  refine wpAny_pyNext_zip_item D hz gB lZ h1 h2 p.isList p'.isList (x:=u) (y:=v) (by simpa using hu) (by simpa using hv) fun h' a1 a2 a3 a4 a5 a6 a7=> ?_
  refine ⟨_,rfl,wpAny_letOwnedTupleGo_zip (s:={s with heap:=h' }) a1 fun yZ b1 sb=> ?_⟩
  have nz:∀c,c≠z→∀o,h'.get? c=some o→yZ.get? c=some o:=fun c hc o e=>(sb.2 c hc).trans e
  have kk:∀b o,b∉[z,TI,TO,i1,i2]→s.heap.get? b=some o→yZ.get? b=some o:=fun b o hb e=>by
   have fZ :b≠z∧b≠TI∧b≠TO∧b≠i1∧b≠i2:=by simpa using hb
   exact nz b fZ.1 o (a7 b o fZ.1 fZ.2.2.1 fZ.2.2.2.1 fZ.2.2.2.2 e)
  have sz:∀c o,s.heap.get? c=some o→s.heap.objs.size≠c:=fun c o e=>abZ (Heap.lt_size e)
  have tz:s.heap.objs.size≠z:=sz _ _ hz
  have hn:=I.bK.fresh (aao s.heap.objs.size)
  have I2:Inv X pins σ (upd H s.heap.objs.size (.tup [x,y])) {s with heap:=yZ,toks:=s.toks}:=
   Inv.nh I kk hf (aao _) (by show 2≤sizeLine;decide) (its:=[u,v]) (.cons ru (.cons rv' .nil)) ⟨_,nz _ tz _ a5,rfl,_,rfl⟩
  refine ⟨.ref s.heap.objs.size,_,I2,rfl,⟨s.heap.objs.size,x,y,fun xs' q=>by rw [I.fG q qx];exact ex,fun ys' q=>by rw [I.fG q qy];exact ey,rfl,hn,rfl⟩,⟨b1,nz _ D.TIz _ (a7 _ _ D.TIz D.TITO D.TIi1 D.TIi2 gB),⟨_,_,nz _ D.TOz _ a2⟩,a3.at fun o e=>nz _ D.i1z o e,a4.at fun o e=>nz _ D.i2z o e⟩,fun b hb=> ?_⟩
  have ob:∃o,s.heap.get? b=some o:=by
   obtain ⟨o1,e1,_⟩:=h1
   obtain ⟨o2,e2,_⟩:=h2
   have oH :b=z∨b=TI∨b=TO∨b=i1∨b=i2:=by simpa using hb
   rcases oH with e | e | e | e | e <;> subst e
   ·exact ⟨_,hz⟩
   ·exact ⟨_,gB⟩
   ·exact ⟨_,lZ⟩
   ·exact ⟨_,e1⟩
   ·exact ⟨_,e2⟩
  obtain ⟨o,e⟩:=ob
  rw [ak (aaU (sz _ _ e))]
  exact (hf b hb).1
 done:=by
  intro X hP hw hK hc i pins s σ H E I hf st hg
  subst hP hw hK
  obtain ⟨hz,gB,⟨x0,y0,lZ⟩,h1,h2⟩:=st
  obtain ⟨xs,ys,qx,qy,ee⟩:=hg
  obtain ⟨its,rv,p,_⟩:=I.list qx
  obtain ⟨Ks,oI,p',_⟩:=I.list qy
  have l1:=rv.length
  have l2:=oI.length
  refine wpAny_pyNext_zip_end (I.ok.hd hc) D hz gB lZ h1 h2 p.isList p'.isList ?_ fun h' kk=>⟨rfl,Inv.jI I (fun b o hb e=> ?_) hf⟩
  ·rcases ee with e | e
   ·exact .inl (by simp;omega)
   ·exact .inr (by simp;omega)
  ·have fZ :b≠z∧b≠TI∧b≠TO∧b≠i1∧b≠i2:=by simpa using hb
   exact kk b o fZ.1 fZ.2.2.1 fZ.2.2.2.1 fZ.2.2.2.2 e
 self:=fun _ _ _ _ _ st h=>wpAny_pyIter_zip st.1 h
theorem boot_zip:bootBuiltins "zip"=some (.type "zip"):=by decide+kernel
section
variable {X:Cx}
inductive CY (K:Frag)(R:(It→Hp→Prop))(vs:List V)(H1:Hp):Prop where
 | mk (a b:_) (_:vs=[.ref a,.ref b]) (_:(∃xs,aT K H1 a xs)) (_:(∃ys,aT K H1 b ys)) (_:R (QX K a b) H1):CY K R vs H1
def Sq (K:Frag)(ta:TA):TI:=fun σ H R=>ta σ H fun vs H1=>CY K R vs H1
theorem q_ {e1 e2:Expr}{ta:TA}{p pos:Pos}{es:List Expr}{k:Nat}{qS:Pos}(hg:Gl X "zip")(hm:X.mg "zip"=none)(ha:PA X [e1,e2] ta)(hs:starEach [e1,e2] X.env=[(false,eval e1 X.env),(false,eval e2 X.env)]:=by rfl)(yY:starEach [e2] X.env=[(false,eval e2 X.env)]:=by rfl):
  PI X (.Tuple es k qS) (.Call (.Name "zip" p) [e1,e2] [] pos) (Sq X.K ta):=by
 intro pins s σ H R I h
 refine Call_ (gu I hg hm boot_zip (PyProof.Rows.callWith_type1 (b8 (ha pos pins s σ H _ I h) fun us s1 ⟨vs,H1,I1,r1,q1⟩=> ?_) (by rw [hs,yY]) (by rw [yY];rfl)))
 obtain ⟨a,b,e,⟨xs,hx⟩,⟨ys,hy⟩,q⟩:=q1
 subst e
 cases r1 with
 | cons r rr=>
  cases rr with
  | cons r' rr=>
   cases rr
   cases r
   cases r'
   obtain ⟨its,rv,pl,_⟩:=I1.list hx
   obtain ⟨Ks,oI,pl',_⟩:=I1.list hy
   have lt1:a < s1.heap.objs.size:=by obtain ⟨o,ho,_⟩:=pl.isList;exact Heap.lt_size ho
   have lt2:b < s1.heap.objs.size:=by obtain ⟨o,ho,_⟩:=pl'.isList;exact Heap.lt_size ho
   refine call_zip_2 pl.isList pl'.isList fun h' hz gB lZ Kt Ku hsz hk=>wpAny_pyIter_zip (s:={s1 with heap:=h' }) hz ?_
   refine ⟨s1.heap.objs.size+4,[s1.heap.objs.size+4,s1.heap.objs.size+2,s1.heap.objs.size+3,s1.heap.objs.size,s1.heap.objs.size+1],_,_,H1,rfl,I1.kept (t' :=s1.toks) hk,xl a b _ _ _ _ _ ?_,⟨hz,gB,⟨_,_,lZ⟩,Kt,Ku⟩,fun c hc=> ?_,q⟩
   ·constructor <;> (intro z;simp only [Addr] at*;omega)
   ·have oH :s1.heap.objs.size≤c:=by
     have:c=s1.heap.objs.size+4∨c=s1.heap.objs.size+2∨c=s1.heap.objs.size+3∨c=s1.heap.objs.size∨c=s1.heap.objs.size+1:=by simpa using hc
     simp only [Addr] at*
     omega
    exact I1.mS oH (I1.bK.fresh oH)
inductive xm (K:Frag)(xs:List V)(H:Hp)(Q:VK):Prop where
 | mk (p:Addr) (ys:List V) (_:xs=[.ref p]) (_:aT K H p ys) (_:∀l,H l=none→Q (.ref l) (upd H l (.lst ys))):xm K xs H Q
theorem j8:gj X (.type "list") (xm X.K):=by
 intro pins s σ H xs us Q I r h
 obtain ⟨p,ys,rfl,hq,q⟩:=h
 obtain ⟨u,rfl,r1⟩:=vals1 r
 cases r1
 obtain ⟨its,rv,⟨o,n,e,c,d1,d⟩,hz⟩:=I.list hq
 have hlen:=rv.length
 refine call_list_seq p (.inl rfl) e c d (fun h' c' hk hl=> ?_) (by simp;omega)
 have hn:=I.bK.fresh (aao s.heap.objs.size)
 have I2:Inv X pins σ (upd H s.heap.objs.size (.lst ys)) {s with heap:=h',toks:=s.toks}:=I.laid (t' :=s.toks) hk (aao _) ⟨hz,its,c',rv,hl⟩
 exact ⟨.ref _,_,I2,rfl,q _ hn⟩
end
section
variable {X:Cx}{K:Frag}
theorem du (h:X.K=K):FC X (zD K):=by subst h;exact gx
theorem eA (h:X.K=K):FC X (zC K):=by subst h;exact aK
theorem ni {es:List Expr}{k:Nat}{t:CA}{n:Nat}{pos:Pos}(hK:X.K=K)(hc:X.calm=true)(h:JQ X es t)
  (hn:(assignEach es X.env).length=n:=by rfl) (zi:(assignEach es X.env).findIdx? (·.1)=none:=by rfl):PG X (.Tuple es k pos) (wC K n t):=by subst hK;exact fJ hc h hn zi
end
section
variable {D:Addr}{te:TE}{cap:L2.St}{H1:Hp}{Q:VK}
theorem pF {K:Frag}{a b:Addr}{xs ys:List V}(Rel:Nat→V→Hp→Prop)(nD:H1 D=none)(hn:xs.length < sizeLine)(hl:ys.length=xs.length)(hX:∀H,ar H1 H→aT K H a xs)(hY:∀H,ar H1 H→aT K H b ys)
  (hR:∀i v H H' ys,H D=some (.lst ys)→bL D H H' →Rel i v H→Rel i v H')
  (he:∀i x y H (R:VK),xs[i]? =some x→ys[i]? =some y→ar H1 H→(∀v H6,ar H H6→Rel i v H6→R v H6)→te (some x::some y::cap) H R)
  (hd:∀zs H,zs.length=xs.length→(∀i v,zs[i]? =some v→Rel i v H)→ar H1 H→H D=some (.lst zs)→Q (.ref D) H):
  j6 D (wC K 2 (oP (dk 0) (oP (dk 1) ES))) iP te (QX K a b) (none::none::cap) H1 Q:=by
 refine ⟨fun i m σ zs H=>m=xs.length - i∧i≤xs.length∧(∃o o',σ=o::o' ::cap)∧(zs.length=i∧(∀i v,zs[i]? =some v→Rel i v H)∧ar H1 H)∧H D=some (.lst zs),⟨xs.length,by simp,aa4 _,⟨none,none,rfl⟩,⟨rfl,fun i v e=>by simp at e,fun b o e=>by rw [ak (ao e nD)];exact e⟩,ah⟩,?_⟩
 rintro i m σ zs H ⟨rfl,hi,⟨o,o',rfl⟩,⟨l,r,s⟩,hD⟩
 by_cases jV:i < xs.length
 ·have e1:xs[i]? =some xs[i]:=gE jV
  have e2:ys[i]? =some (ys[i]'(by omega)):=gE (by omega)
  refine .inr ⟨⟨xs,ys,_,_,hX H s,hY H s,e1,e2⟩,fun v H' y=> ?_⟩
  obtain ⟨p,x,y,q1,q2,rfl,np,rfl⟩:=y
  have e1:=q1 xs (hX H s)
  have e2:=q2 ys (hY H s)
  have sp:ar H (upd H p (.tup [x,y])):=fun b o e=>by rw [ak (ao e np)];exact e
  refine ⟨p,_,rfl,bQ.of ah,rfl,_,_,rfl,_,_,rfl,rfl,?_⟩
  unfold iP
  dsimp only
  rw [if_pos rfl]
  refine he i x y _ _ e1 e2 (fun b o e=>sp _ _ (s _ _ e)) fun v H6 s6 rv=>⟨s6 _ _ (sp _ _ hD),by omega,xs.length - (i+1),by omega,rfl,by omega,⟨_,_,rfl⟩,⟨by simp [l],fun j u e=> ?_,fun b o e=> ?_⟩,ah⟩
  ·by_cases c:j < zs.length
   ·rw [aaq c] at e
    have ru:=hR j u H H6 zs hD (bL.of fun b o q=>s6 _ _ (sp _ _ q)) (r j u e)
    exact hR j u H6 _ zs (s6 _ _ (sp _ _ hD)) bL.upd ru
   ·rw [aat (by omega)] at e
    have ej:j=i:=by
     by_cases z:j - zs.length=0
     ·omega
     ·rw [aam (by simp;omega)] at e
      cases e
    subst ej
    have:v=u:=by
     rw [show j - zs.length=0 by omega] at e
     exact aaE e
    subst this
    exact hR j v H6 _ zs (s6 _ _ (sp _ _ hD)) bL.upd rv
  ·rw [ak (ao e nD)]
   exact s6 _ _ (sp _ _ (s _ _ e))
 ·have e:i=xs.length:=by omega
  subst e
  exact .inl ⟨⟨xs,ys,hX H s,hY H s,.inl (aao _)⟩,hd zs H l r s hD⟩
end
end Ty
set_option maxHeartbeats 4000000
namespace Ty
open PySem PySem.Spec PyProof.Rows L2
open Builtin.Int (intBits)
def vl (q:Int×Int):Rat:=(q.1:Rat) / (q.2:Rat)
structure Sm (T B:Nat)(q:Int×Int):Prop where
 pos:0 < q.2
 low:aa0 q.1 q.2=1
 top:q.1.natAbs≤2^T
 bot:q.2.natAbs≤2^B
theorem cL {b:Int}(h:b≠0):(b:Rat)≠0:=by simpa using h
theorem nj {t b:Int}(h:b≠0):vl (low t b)=(t:Rat) / (b:Rat):=by
 have c:=uk (t:=t) h
 have p:=gX (t:=t) h
 have h1:=cL h
 have h2:=cL (b:=(low t b).2) (by omega)
 have c' :((low t b).1:Rat)*b=t*(low t b).2:=by exact_mod_cast c
 unfold vl
 grind
theorem pG {t b u c:Int}(hb:b≠0)(hc:c≠0)(h:(t:Rat) / b=(u:Rat) / c):t*c=u*b:=by
 have h1:=cL hb
 have h2:=cL hc
 have:(t:Rat)*c=u*b:=by grind
 exact_mod_cast this
theorem FP {q r:Int×Int}(hq:0 < q.2)(hr:0 < r.2)(gq:aa0 q.1 q.2=1)(gr:aa0 r.1 r.2=1)(h:vl q=vl r):q=r:=by
 have c:=pG (t:=q.1) (b:=q.2) (u:=r.1) (c:=r.2) (by omega) (by omega) h
 have e:=lE (t:=q.1) (b:=q.2) (u:=r.1) (c:=r.2) (by omega) (by omega) c
 rw [o_ hq gq,o_ hr gr] at e
 exact acb (congrArg alg e) (congrArg alh e)
theorem uv {b d:Int}(hd:d≠0)(h:d ∣ b):((b.fdiv d:Int):Rat)=(b:Rat) / d:=by
 have e:=bZ hd h
 have h1:=cL hd
 have:(b:Rat)=d*(b.fdiv d:Int):=by exact_mod_cast e
 grind
def fg (xs ys:List (Int×Int)):Rat:=(aba (fun a b=>vl a*vl b) xs ys).sum
theorem uw {x y:Int×Int}{xs ys:List (Int×Int)}:fg (x::xs) (y::ys)=vl x*vl y+fg xs ys:=by simp [fg]
def jh (ts:List Int)(qs:List (Int×Int))(b:Int):Prop:=ts.length=qs.length∧∀(i:Nat) (t:Int) (q:Int×Int),ts[i]? =some t→qs[i]? =some q→(t:Rat)=vl q*b
theorem jh.tail {t:Int}{ts:List Int}{q:Int×Int}{qs:List (Int×Int)}{b:Int}(h:jh (t::ts) (q::qs) b):jh ts qs b:=⟨by simpa using h.1,fun i t' q' e1 e2=>h.2 (i+1) t' q' (by simpa using e1) (by simpa using e2)⟩
theorem nq {a b:Int}{m n:Nat}(h1:a.natAbs≤2^m)(h2:b.natAbs≤2^n):(a*b).natAbs≤2^(m+n):=by
 rw [ab4,akC]
 exact aj8 h1 h2
theorem FQ {a b:Int}{m:Nat}(h1:a.natAbs≤2^m)(h2:b.natAbs≤2^m):(a+b).natAbs≤2^(m+1):=by
 have:=ab8 a b
 rw [ab0]
 omega
theorem j9 {a:Int}{m n:Nat}(h:a.natAbs≤2^m)(hm:m≤n):a.natAbs≤2^n:=aak h (aaL (by decide) hm)
theorem f7 {a:Int}{m n:Nat}(h:a.natAbs≤2^m)(hm:m < n):intBits a≤n:=intBits_le_iff.mpr (aar h (Nat.pow_lt_pow_right (by decide) hm))
theorem jJ {a b:Int}{m n:Nat}(h1:a.natAbs≤2^m)(h2:b.natAbs≤2^n)(hm:m < 30000000)(hn:n < 30000000):lY a b:=⟨aak (f7 h1 hm) (by decide),aak (f7 h2 hn) (by decide)⟩
theorem Sm.up {T B T' B' :Nat}{q:Int×Int}(h:Sm T B q)(hT:T≤T')(hB:B≤B'):Sm T' B' q:=⟨h.pos,h.low,j9 h.top hT,j9 h.bot hB⟩
theorem xo {b d:Int}(hb:0 < b)(hd:0 < d):0 < b.fdiv (gz b d)*d∧b ∣ b.fdiv (gz b d)*d∧d ∣ b.fdiv (gz b d)*d∧(b.fdiv (gz b d)*d).natAbs≤b.natAbs*d.natAbs:=by
 have gp:=m6 (t:=b) (b:=d) (by omega)
 have g1:gz b d ∣ b:=abn ..
 have g2:gz b d ∣ d:=abl ..
 have e1:=bZ (g:=gz b d) (by omega) g1
 have e2:=bZ (g:=gz b d) (by omega) g2
 generalize gz b d=g at*
 have p1:0 < b.fdiv g:=by
  rcases ab7 (b.fdiv g) 0 with z | z | z
  ·exfalso
   have:=ab5 gp z
   omega
  ·rw [z] at e1;omega
  ·exact z
 refine ⟨abm p1 hd,⟨d.fdiv g,?_⟩,⟨b.fdiv g,abK ..⟩,?_⟩
 ·have:b.fdiv g*d=b.fdiv g*(g*d.fdiv g):=by rw [← e2]
  rw [this]
  have h3:b*d.fdiv g=g*b.fdiv g*d.fdiv g:=by rw [← e1]
  rw [h3]
  rw [← ab',abK (b.fdiv g) g]
 ·rw [ab4]
  exact aaK _ (by
   have:=cE (g:=g) (a:=b.fdiv g) (by omega)
   rw [← e1] at this
   exact this)
theorem uz {q:Int×Int}{b:Int}(hq:0 < q.2)(h:q.2 ∣ b):((q.1*b.fdiv q.2:Int):Rat)=vl q*b:=by
 have e:=uv (b:=b) (d:=q.2) (by omega) h
 have:((q.1*b.fdiv q.2:Int):Rat)=q.1*((b.fdiv q.2:Int):Rat):=by push_cast;rfl
 rw [this,e]
 unfold vl
 grind
theorem eE {b d:Int}(hd:d≠0)(h:d ∣ b):(b.fdiv d).natAbs≤b.natAbs:=by
 have:=cE (g:=d) (a:=b.fdiv d) hd
 rw [← bZ hd h] at this
 exact this
end Ty
set_option maxHeartbeats 4000000
namespace Ty
open PySem PySem.Spec PyProof.Rows L2
section
variable {D:Addr}{te:TE}{cap:L2.St}{H1:Hp}{Q:VK}
theorem uB {J:It}(n:Nat)(xs:Nat→V)(Rel:Nat→V→Hp→Prop)(nD:H1 D=none)(hn:n < sizeLine)
  (go:∀i H,i < n→ar H1 H→J.go i H∧∀x H',J.wG i H x H' →H' =H∧x=xs i) (stop:∀H,ar H1 H→J.stop n H)
  (hR:∀i v H H' ys,H D=some (.lst ys)→bL D H H' →Rel i v H→Rel i v H')
  (he:∀i H (R:VK),i < n→ar H1 H→(∃ys,H D=some (.lst ys))→(∀v H6,ar H H6→Rel i v H6→R v H6)→te (some (xs i)::cap) H R)
  (hd:∀ys H,ys.length=n→(∀i v,ys[i]? =some v→Rel i v H)→ar H1 H→H D=some (.lst ys)→Q (.ref D) H):
  j6 D (dk 0) iP te J (none::cap) H1 Q:=by
 refine q4 n xs (fun i ys H=>ys.length=i∧(∀i v,ys[i]? =some v→Rel i v H)∧ar H1 H) ⟨rfl,fun i v e=>by simp at e,fun b o e=>by rw [ak (ao e nD)];exact e⟩ ?_ ?_ ?_ ?_
 ·rintro i ys H hi ⟨_,_,s⟩
  exact go i H hi s
 ·rintro ys H ⟨_,_,s⟩
  exact stop H s
 ·rintro i ys H R hi ⟨l,r,s⟩ hD k
  refine he i H R hi s ⟨_,hD⟩ fun v H6 s6 rv=>k v H6 (s6 _ _ hD) (by omega) ⟨by simp [l],fun j u e=> ?_,fun b o e=> ?_⟩
  ·by_cases c:j < ys.length
   ·rw [aaq c] at e
    have ru:=hR j u H H6 ys hD (bL.of s6) (r j u e)
    exact hR j u H6 _ ys (s6 _ _ hD) bL.upd ru
   ·rw [aat (by omega)] at e
    have ej:j=i:=by
     by_cases z:j - ys.length=0
     ·omega
     ·rw [aam (by simp;omega)] at e
      cases e
    subst ej
    have:v=u:=by
     rw [show j - ys.length=0 by omega] at e
     exact aaE e
    subst this
    exact hR j v H6 _ ys (s6 _ _ hD) bL.upd rv
  ·rw [ak (ao e nD)]
   exact s6 _ _ (s _ _ e)
 ·rintro ys H ⟨l,r,s⟩ hD
  exact hd ys H l r s hD
theorem j_ {K:Frag}{a:Addr}{xs:List V}(Rel:Nat→V→Hp→Prop)(nD:H1 D=none)(hn:xs.length < sizeLine)(hS:∀H,ar H1 H→aT K H a xs)
  (hR:∀i v H H' ys,H D=some (.lst ys)→bL D H H' →Rel i v H→Rel i v H')
  (he:∀i x H (R:VK),xs[i]? =some x→ar H1 H→(∃ys,H D=some (.lst ys))→(∀v H6,ar H H6→Rel i v H6→R v H6)→te (some x::cap) H R)
  (hd:∀ys H,ys.length=xs.length→(∀i v,ys[i]? =some v→Rel i v H)→ar H1 H→H D=some (.lst ys)→Q (.ref D) H):
  j6 D (dk 0) iP te (CC K a) (none::cap) H1 Q:=by
 refine uB xs.length (fun i=>(xs[i]?).getD .cb) Rel nD hn (fun i H hi s=>⟨⟨xs,xs[i],hS H s,gE hi⟩,fun x H' y=>⟨y.1,?_⟩⟩) (fun H s=>⟨xs,hS H s,aao _⟩) hR (fun i H R hi s dd k=> ?_) hd
 ·rw [y.2 xs (hS H s)];rfl
 ·have e:xs[i]? =some xs[i]:=gE hi
  have k' :=he i _ H R e s dd k
  rw [← (show (xs[i]?).getD .cb=xs[i] by rw [e];rfl)] at k'
  exact k'
end
section
variable {X:Cx}
end
end Ty
namespace L2
open PySem PySem.Spec PyProof.Rows
section
variable {κ:Type}[DecidableEq κ]
def bV (kvs:List (κ×V))(k:κ):Option V:=(kvs.find? fun kv=>decide (kv.1=k)).map (·.2)
def putK (kvs:List (κ×V))(k:κ)(v:V):List (κ×V):=
 if (kvs.any fun kv=>decide (kv.1=k))=true then kvs.map (fun kv=>if kv.1=k then (kv.1,v) else kv) else kvs++[(k,v)]
theorem bH {p:κ×V}{r:List (κ×V)}{k:κ}(e:p.1=k):bV (p::r) k=some p.2:=by simp [bV,abt,e]
theorem bh {p:κ×V}{r:List (κ×V)}{k:κ}(e:¬ p.1=k):bV (p::r) k=bV r k:=by simp [bV,abt,e]
theorem eG (k:κ):∀kvs:List (κ×V),(kvs.any fun kv=>decide (kv.1=k))=(bV kvs k).isSome
 | []=>rfl
 | p::r=>by
  rw [abC]
  by_cases e:p.1=k
  ·simp only [bH e,decide_eq_true e,Bool.true_or,Option.isSome_some]
  ·rw [bh e,decide_eq_false e,Bool.false_or];exact eG k r
theorem pH (k j:κ)(y:V):∀kvs:List (κ×V),bV (kvs.map fun kv=>if kv.1=k then (kv.1,y) else kv) j=(bV kvs j).map fun x=>if j=k then y else x
 | []=>rfl
 | p::r=>by
  have ih:=pH k j y r
  rw [aaj]
  by_cases h:p.1=k
  ·rw [if_pos h]
   by_cases e:p.1=j
   ·rw [bH (p:=(p.1,y)) e,bH e,abE,if_pos (e.symm.trans h)]
   ·rw [bh (p:=(p.1,y)) e,bh e,ih]
  ·rw [if_neg h]
   by_cases e:p.1=j
   ·rw [bH (p:=p) e,bH e,abE,if_neg (fun z=>h (e.trans z))]
   ·rw [bh (p:=p) e,bh e,ih]
theorem l_ (k j:κ)(y:V):∀kvs:List (κ×V),bV kvs k=none→bV (kvs++[(k,y)]) j=if j=k then some y else bV kvs j
 | [],_=>by
  by_cases e:k=j
  ·rw [if_pos e.symm];exact bH (p:=(k,y)) e
  ·rw [if_neg (fun z=>e z.symm)];exact bh (p:=(k,y)) e
 | p::r,hn=>by
  rw [abT]
  have hk:¬ p.1=k:=fun z=>by rw [bH z] at hn;cases hn
  rw [bh hk] at hn
  have ih:=l_ k j y r hn
  by_cases e:p.1=j
  ·rw [bH e,bH e,if_neg (fun z=>hk (e.trans z))]
  ·rw [bh e,bh e,ih]
theorem pI (kvs:List (κ×V))(k j:κ)(y:V):bV (putK kvs k y) j=if j=k then some y else bV kvs j:=by
 unfold putK
 by_cases a:(kvs.any fun kv=>decide (kv.1=k))=true
 ·rw [if_pos a,pH]
  rw [eG] at a
  by_cases e:j=k
  ·obtain ⟨x,hx⟩:=ab_.mp a
   rw [if_pos e,e,hx,abE,if_pos rfl]
  ·rw [if_neg e]
   cases bV kvs j with
   | none=>rfl
   | some x=>rw [abE,if_neg e]
 ·rw [if_neg a]
  refine l_ k j y kvs ?_
  rw [eG] at a
  cases q:bV kvs k with
  | none=>rfl
  | some x=>rw [q] at a;exact (a rfl).elim
theorem fP (kvs:List (κ×V))(k:κ)(v:V):(putK kvs k v).length≤kvs.length+1:=by
 unfold putK
 split
 ·rw [ir];omega
 ·rw [aap,aaP,aj3];omega
theorem cF {kvs:List (κ×V)}{k:κ}(v:V)(h:bV kvs k=none):putK kvs k v=kvs++[(k,v)]:=by
 unfold putK
 rw [eG,h]
 exact if_neg (by decide)
theorem fE.eI {o:Option V}{u:Option Value}(r:fE o u):o.isSome=u.isSome:=by
 cases o with
 | none=>cases u with
  | none=>rfl
  | some _=>exact (show False from r).elim
 | some _=>cases u with
  | none=>exact (show False from r).elim
  | some _=>rfl
theorem fE.getD {o:Option V}{u:Option Value}{d:V}{d' :Value}(r:fE o u)(rd:RelV d d'):RelV (o.getD d) (u.getD d'):=by
 cases o with
 | none=>cases u with
  | none=>exact rd
  | some _=>exact (show False from r).elim
 | some _=>cases u with
  | none=>exact (show False from r).elim
  | some _=>exact r
theorem KV.val {kvs:List (κ×V)}{vs:List (κ×Value)}(r:KV kvs vs)(k:κ):fE (bV kvs k) (valueAt vs k):=by
 unfold KV at r
 induction r with
 | nil=>exact True.intro
 | @cons p q ps qs h t ih=>
  obtain ⟨h1,h2⟩:=h
  by_cases e:p.1=k
  ·have e' :q.1=k:=h1.symm.trans e
   have b:valueAt (q::qs) k=some q.2:=by simp [valueAt,abt,e']
   rw [bH e,b];exact h2
  ·have e' :¬ q.1=k:=fun z=>e (h1.trans z)
   have b:valueAt (q::qs) k=valueAt qs k:=by simp [valueAt,abt,e']
   rw [bh e,b];exact ih
theorem KV.any {kvs:List (κ×V)}{vs:List (κ×Value)}(r:KV kvs vs)(k:κ):(kvs.any fun kv=>decide (kv.1=k))=vs.any fun kv=>decide (kv.1=k):=by
 unfold KV at r
 induction r with
 | nil=>rfl
 | cons h t ih=>rw [abC,abC,ih,h.1]
theorem KV.FR {kvs:List (κ×V)}{vs:List (κ×Value)}(r:KV kvs vs)(k:κ){y:V}{u:Value}(ry:RelV y u):
  KV (kvs.map fun kv=>if kv.1=k then (kv.1,y) else kv) (vs.map fun kv=>if kv.1=k then (kv.1,u) else kv):=by
 unfold KV at r ⊢
 induction r with
 | nil=>exact .nil
 | @cons p q ps qs h t ih=>
  rw [aaj,aaj]
  refine .cons ?_ ih
  obtain ⟨h1,h2⟩:=h
  by_cases e:p.1=k
  ·rw [if_pos e,if_pos (h1.symm.trans e)];exact ⟨h1,ry⟩
  ·rw [if_neg e,if_neg (fun z=>e (h1.trans z))];exact ⟨h1,h2⟩
theorem KV.put {kvs:List (κ×V)}{vs:List (κ×Value)}(r:KV kvs vs)(k:κ){y:V}{u:Value}(ry:RelV y u):KV (putK kvs k y) (stored vs k u):=by
 unfold putK stored
 rw [r.any k]
 by_cases e:(vs.any fun kv=>decide (kv.1=k))=true
 ·rw [if_pos e,if_pos e];exact r.FR k ry
 ·rw [if_neg e,if_neg e];exact Paired.snoc r ⟨rfl,ry⟩
theorem KV.length {kvs:List (κ×V)}{vs:List (κ×Value)}(r:KV kvs vs):kvs.length=vs.length:=Paired.length r
end
theorem ji {P:Program}{w:World}{k:Key}{u:Value}(r:RelV (kV k) u):(bC P w).is k u=true:=by
 cases k with
 | inl i=>obtain ⟨t,e⟩:=(show ∃t,u=Value.int i t from r);subst e;exact oJ P w i t
 | inr x=>obtain ⟨t,e⟩:=(show ∃t,u=Value.str x t from r);subst e;exact oK P w x t
theorem ma {P:Program}{w:World}:∀{ks:List Key} {us:List Value},Vals (ks.map kV) us→ItemsAre (bC P w) ks us
 | [],_,r=>by rw [aaW] at r;cases r;exact .nil
 | k::ks,_,r=>by
  rw [aaj] at r
  cases r with
  | cons h t=>exact .cons (ji h) (ma t)
abbrev KT (H:Hp):List (List Key×V)→List (List Key×Addr×Value)→Prop:=Paired fun p q=>p.1=q.1∧H q.2.1=some (.tup (p.1.map kV))∧RelV p.2 q.2.2
theorem KT.val {H:Hp}{kvs:List (List Key×V)}{xs:List (List Key×Addr×Value)}(r:KT H kvs xs)(k:List Key):fE (bV kvs k) ((atKey xs k).map (·.2)):=by
 induction r with
 | nil=>exact True.intro
 | @cons p q ps qs h t ih=>
  obtain ⟨h1,_,h2⟩:=h
  by_cases e:p.1=k
  ·have e' :q.1=k:=h1.symm.trans e
   have b:atKey (q::qs) k=some q.2:=by simp [atKey,abt,e']
   rw [bH e,b];exact h2
  ·have e' :¬ q.1=k:=fun z=>e (h1.trans z)
   have b:atKey (q::qs) k=atKey qs k:=by simp [atKey,abt,e']
   rw [bh e,b];exact ih
theorem KT.FR {H:Hp}{kvs:List (List Key×V)}{xs:List (List Key×Addr×Value)}(r:KT H kvs xs)(k:List Key){y:V}{u:Value}(ry:RelV y u):
  KT H (kvs.map fun kv=>if kv.1=k then (kv.1,y) else kv) (xs.map (putAt k u)):=by
 induction r with
 | nil=>exact .nil
 | @cons p q ps qs h t ih=>
  rw [aaj,aaj]
  refine .cons ?_ ih
  obtain ⟨h1,h2,h3⟩:=h
  unfold putAt
  by_cases e:p.1=k
  ·rw [if_pos e,if_pos (h1.symm.trans e)];exact ⟨h1,h2,ry⟩
  ·rw [if_neg e,if_neg (fun z=>e (h1.trans z))];exact ⟨h1,h2,h3⟩
theorem KT.put {H:Hp}{kvs:List (List Key×V)}{xs:List (List Key×Addr×Value)}(r:KT H kvs xs)(k:List Key){b:Addr}{y:V}{u:Value}(hb:H b=some (.tup (k.map kV)))(ry:RelV y u):
  KT H (putK kvs k y) (storedH xs k b u):=by
 have e:(kvs.any fun kv=>decide (kv.1=k))=(atKey xs k).isSome:=by
  rw [eG,(r.val k).eI,ab9]
 unfold putK storedH
 rw [e]
 by_cases q:(atKey xs k).isSome=true
 ·rw [if_pos q,if_pos q];exact r.FR k ry
 ·rw [if_neg q,if_neg q];exact Paired.snoc r ⟨rfl,hb,ry⟩
theorem KT.keeps {H H' :Hp}{kvs:List (List Key×V)}{xs:List (List Key×Addr×Value)}(r:KT H kvs xs)(ht:∀b ys,H b=some (.tup ys)→H' b=some (.tup ys)):KT H' kvs xs:=
 Paired.bU r fun _ _ z=>⟨z.1,ht _ _ z.2.1,z.2.2⟩
section
variable {P:Program}{w:World}{H:Hp}{h:Heap}{a:Addr}
theorem CZ {u:HO}(ok:gi P w H h)(e:Rd H a u):cx P w H h a u:=e.ok ok
theorem g6 {kvs:List (Key×V)}(ok:gi P w H h)(e:Rd H a (.dK kvs)):kvs.length≤sizeLine∧(a==sysModules)=false∧∃vs,KV kvs vs∧h.DictOf (bC P w) a vs:=
 show cx P w H h a (.dK kvs) from CZ ok e
theorem me {kvs:List (Key×V)}(ok:gi P w H h)(e:H a=some (.dK kvs)):kvs.length≤sizeLine∧(a==sysModules)=false∧∃vs,KV kvs vs∧h.DictOf (bC P w) a vs:=g6 ok (.inl e)
theorem iQ {ks:List Key}(ok:gi P w H h)(e:H a=some (.tup (ks.map kV))):(tupleKind (bC P w)).is h ks a:=by
 obtain ⟨_,its,r,o,h1,h2,n,h3⟩:=(show cx P w H h a (.tup (ks.map kV)) from ok a _ e)
 exact ⟨o,its.toArray,n,h1,h2,h3,by simpa using ma r⟩
theorem ka {kvs:List (List Key×V)}(ok:gi P w H h)(e:Rd H a (.dT kvs)):kvs.length≤sizeLine∧(a==sysModules)=false∧
  ∃xs,KT H kvs xs∧h.DictOfH (tupleKind (bC P w)) a xs:=by
 obtain ⟨z,y,xs,r,o,es,ep,h1,h2,h3,h4,h5⟩:=(show cx P w H h a (.dT kvs) from CZ ok e)
 refine ⟨z,y,xs,r,o,es,ep,h1,h2,h3,h4,fun x hx=> ?_,h5⟩
 have all:∀{l:List (List Key×V)} {m:List (List Key×Addr×Value)},KT H l m→∀x∈m,(tupleKind (bC P w)).is h x.1 x.2.1:=by
  intro l m q
  induction q with
  | nil=>intro x hx;exact nomatch hx
  | @cons p q ps qs hq t ih=>
   intro x hx
   rcases aaJ.mp hx with e | hx
   ·subst e
    exact iQ ok (by rw [← hq.1];exact hq.2.1)
   ·exact ih x hx
 exact all r x hx
theorem Kv {kvs:List (List Key×V)}(ok:gi P w H h)(e:H a=some (.dT kvs)):kvs.length≤sizeLine∧(a==sysModules)=false∧
  ∃xs,KT H kvs xs∧h.DictOfH (tupleKind (bC P w)) a xs:=ka ok (.inl e)
end
def cJ (H:Hp)(a:Addr)(y:V)(r:Option V):Prop:=
 (∃kvs k,Rd H a (.dK kvs)∧y=kV k∧r=bV kvs k)∨∃kvs k b,Rd H a (.dT kvs)∧y=.ref b∧H b=some (.tup (k.map kV))∧r=bV kvs k
def iR (H:Hp)(a:Addr)(y v:V)(H' :Hp):Prop:=
 (∃kvs k,H a=some (.dK kvs)∧y=kV k∧kvs.length < sizeLine∧H' =upd H a (.dK (putK kvs k v)))∨
 ∃kvs k b,H a=some (.dT kvs)∧y=.ref b∧H b=some (.tup (k.map kV))∧kvs.length < sizeLine∧H' =upd H a (.dT (putK kvs k v))
theorem cJ.k {H:Hp}{a:Addr}{kvs:List (Key×V)}{k:Key}(e:H a=some (.dK kvs)):cJ H a (kV k) (bV kvs k):=.inl ⟨kvs,k,.inl e,rfl,rfl⟩
theorem iR.k {H:Hp}{a:Addr}{kvs:List (Key×V)}{k:Key}{v:V}(e:H a=some (.dK kvs))(hl:kvs.length < sizeLine):iR H a (kV k) v (upd H a (.dK (putK kvs k v))):=.inl ⟨kvs,k,e,rfl,hl,rfl⟩
section
variable {X:Cx}{pins:List (Addr×Obj)}{σ:St}{H:Hp}{s:Shared}{a:Addr}{y v:V}{u r:Value}{o:Option V}{A:Around}{E:Value→Shared→Prop}
theorem Inv.big (I:Inv X pins σ H s):sysModules < s.heap.objs.size:=by
 have h:mainGlobals < s.heap.objs.size:=(I.mod.glob.keeps I.bk).lt
 exact akm (by decide) h
theorem uC {Q:Value→Shared→Prop}(hu:A.units+1 < cLine)(I:Inv X pins σ H s)(g:cJ H a y (some v))(ry:RelV y u)(h:∀w' s',Inv X pins σ H s' →RelV v w' →Q w' s'):
  wpAny (model X.prog X.w) A (getItem (.ref a) u) Q E s:=by
 rcases g with ⟨kvs,k,e,ey,l⟩ | ⟨kvs,k,b,e,ey,eb,l⟩
 ·subst ey
  obtain ⟨z,hd,vs,rel,dd⟩:=g6 I.bK e
  obtain ⟨w',hw,oI⟩:=fE.some_of (v:=v) (o:=valueAt vs k) (by rw [l];exact rel.val k)
  exact wpAny_getItem_of (ji ry) dd.mapOf hw (h w' _ (I.tok _) oI)
 ·subst ey
  cases (show u=Value.ref b from ry)
  obtain ⟨z,hd,xs,rel,dd⟩:=ka I.bK e
  obtain ⟨w',hw,oI⟩:=fE.some_of (v:=v) (o:=(atKey xs k).map (·.2)) (by rw [l];exact rel.val k)
  obtain ⟨p,hp,Kw⟩:=aaw.mp hw
  refine wpAny_getItem_heap (tupleKind_room_in1 hu) (iQ I.bK eb) dd hp ?_
  rw [Kw]
  exact h w' _ (I.tok _) oI
theorem Sr {Q:Value→Shared→Prop}(hu:A.units+1 < cLine)(I:Inv X pins σ H s)(g:cJ H a y o)(ry:RelV y u)(h:∀s',Inv X pins σ H s' →Q (.bool o.isSome) s'):
  wpAny (model X.prog X.w) A (compareOp .In u (.ref a)) Q E s:=by
 rcases g with ⟨kvs,k,e,ey,l⟩ | ⟨kvs,k,b,e,ey,eb,l⟩
 ·subst ey
  obtain ⟨z,hd,vs,rel,dd⟩:=g6 I.bK e
  refine wpAny_in_of (ji ry) hd dd.mapOf ?_
  rw [← (rel.val k).eI, ← l]
  exact h _ (I.tok _)
 ·subst ey
  cases (show u=Value.ref b from ry)
  obtain ⟨z,hd,xs,rel,dd⟩:=ka I.bK e
  refine wpAny_in_heap (tupleKind_room_in1 hu) (iQ I.bK eb) hd dd ?_
  have q:=(rel.val k).eI
  rw [ab9] at q
  rw [← q, ← l]
  exact h _ (I.tok _)
theorem zK {Q:Value→Shared→Prop}(hu:A.units+1 < cLine)(I:Inv X pins σ H s)(g:cJ H a y o)(ry:RelV y u)(h:∀s',Inv X pins σ H s' →Q (.bool (!o.isSome)) s'):
  wpAny (model X.prog X.w) A (compareOp .NotIn u (.ref a)) Q E s:=by
 rcases g with ⟨kvs,k,e,ey,l⟩ | ⟨kvs,k,b,e,ey,eb,l⟩
 ·subst ey
  obtain ⟨z,hd,vs,rel,dd⟩:=g6 I.bK e
  refine wpAny_notIn_of (ji ry) hd dd.mapOf ?_
  rw [← (rel.val k).eI, ← l]
  exact h _ (I.tok _)
 ·subst ey
  cases (show u=Value.ref b from ry)
  obtain ⟨z,hd,xs,rel,dd⟩:=ka I.bK e
  refine wpAny_notIn_heap (tupleKind_room_in1 hu) (iQ I.bK eb) hd dd ?_
  have q:=(rel.val k).eI
  rw [ab9] at q
  rw [← q, ← l]
  exact h _ (I.tok _)
theorem jK {h' :Heap}{t' :Nat}{ob:HO}(I:Inv X pins σ H s)(mu:JF (H a))(hs:Heap.SameBut a s.heap h')(he:∃q,h'.get? a=some q)(new:cx X.prog X.w (upd H a ob) h' a ob):
  Inv X pins σ (upd H a ob) {s with heap:=h',toks:=t' }:=
 I.write (x:=a) (e:=a) mu (.inl rfl) (fun b q hb z=>(hs.2 b hb).trans z) he new
theorem ra {P:Program}{w:World}{H' :Hp}{h' :Heap}{kvs:List (Key×V)}{vs:List (Key×Value)}(z:kvs.length≤sizeLine)(hd:(a==sysModules)=false)(rel:KV kvs vs)(dd:h'.DictOf (bC P w) a vs):
  cx P w H' h' a (.dK kvs):=⟨z,hd,vs,rel,dd⟩
theorem uD {H' :Hp}{Q:Unit→Shared→Prop}(hu:A.units+1 < cLine)(I:Inv X pins σ H s)(g:iR H a y v H')(ry:RelV y u)(rv:RelV v r)(h:∀s',Inv X pins σ H' s' →Q () s'):
  wpAny (model X.prog X.w) A (setItem (.ref a) u r) Q E s:=by
 rcases g with ⟨kvs,k,e,ey,l,eH⟩ | ⟨kvs,k,b,e,ey,eb,l,eH⟩
 ·subst ey eH
  obtain ⟨z,hd,vs,rel,dd⟩:=me I.bK e
  have hz:vs.length≤sizeLine:=by rw [← rel.length];exact z
  have hl:(putK kvs k v).length≤sizeLine:=by have:=fP kvs k v;omega
  refine wpAny_setItem_pairs (hsz:=hz) (ji ry) dd fun h' FT hs=>h _ ?_
  have he:∃q,h'.get? a=some q:=let ⟨q,_,_,hq,_⟩:=FT;⟨q,hq⟩
  exact jK I (by rw [e];exact True.intro) hs he (ra hl hd (rel.put k rv) FT)
 ·subst ey eH
  cases (show u=Value.ref b from ry)
  obtain ⟨z,hd,xs,rel,dd⟩:=Kv I.bK e
  have hz:xs.length≤sizeLine:=by rw [← Paired.length rel];exact z
  have hl:(putK kvs k v).length≤sizeLine:=by have:=fP kvs k v;omega
  refine wpAny_setItem_heap (hsz:=hz) (tupleKind_room_in1 hu) (iQ I.bK eb) dd fun h' FT hs=>h _ ?_
  obtain ⟨q,es,ep,hq,h2,h3,h4,_,h5⟩:=FT
  refine jK I (by rw [e];exact True.intro) hs ⟨q,hq⟩ ⟨hl,hd,_,(rel.put k eb rv).keeps fun c ys ec=> ?_,q,es,ep,hq,h2,h3,h4,h5⟩
  rw [ak (JE ec e (fun z=>nomatch z))]
  exact ec
end
section
variable {X:Cx}{pins:List (Addr×Obj)}{σ:St}{H:Hp}{s:Shared}{a:Addr}{kvs:List (Key×V)}{k:Key}{u:Value}{A:Around}{E:Value→Shared→Prop}
theorem Kx {Q:Value→Shared→Prop}(I:Inv X pins σ H s)(e:Rd H a (.dK kvs))(h:∀t s',Inv X pins σ H s' →Q (.int kvs.length t) s'):wpAny (model X.prog X.w) A (call (.builtin "len") [.ref a]) Q E s:=by
 obtain ⟨z,hd,vs,rel,dd⟩:=g6 I.bK e
 refine call_len_dict hd dd (by rw [← rel.length];rw [sizeLine_eq] at z;omega) ?_
 rw [← rel.length]
 exact h _ _ (I.tok _)
end
def Ky (i:Expr):Prop:=∀ov iv,subscripted i false ov iv=operate [ov,iv] (getItem ov iv)
theorem zM {prog:Program}{w:World}{A:Around}{E:Value→Shared→Prop}{s:Shared}{env:Env}{value slice:Expr}{pos:Pos}{T id:String}{Q:Value→Shared→Prop}
  (hl:typeLookup (.type T) "__getitem__"=pure (some (.builtin id))) (hs:Ky slice)
  (h:wpAny (model prog w) A (eval value env) (fun o s₁=>wpAny (model prog w) A (eval slice env) (fun i s₂=>s₂.TypeIs o T∧wpAny (model prog w) A (getItem o i) Q E s₂) E s₁) E s):
  wpAny (model prog w) A (eval (.Subscript value slice pos) env) Q E s:=by
 refine Subscript_ (wpAny_mono h (fun o s₁ h₁=>wpAny_mono h₁ (fun i s₂ h₂=> ?_) fun _ _ x=>x) fun _ _ x=>x)
 obtain ⟨hT,h₂⟩:=h₂
 unfold subscriptTail
 refine wpAny_bind ?_
 rw [getitemInPython_of_ne hT.not_modules]
 refine wpAny_bind (wpAny_specialOf hT hl ?_)
 have fin:wpAny (model prog w) A (subscripted slice false o i) (fun r s₃=>wpAny (model prog w) A (letTemporaryGo value o r >>=fun _=>pure r) Q E s₃) E s₂:=by
  rw [hs o i]
  exact wpAny_operating (wpAny_mono h₂ (fun r s₃ h₃=>wpAny_bind (wpAny_letTemporaryGo (wpAny_pure h₃))) fun _ _ x=>x)
 first
  | exact wpAny_pure (wpAny_bind fin)
  | exact wpAny_bind (wpAny_pure (wpAny_bind fin))
  | exact wpAny_bind fin
theorem pJ {X:Cx}{pins:List (Addr×Obj)}{σ:St}{H:Hp}{s:Shared}{a:Addr}{y:V}{o:Option V}(I:Inv X pins σ H s)(g:cJ H a y o):s.TypeIs (.ref a) "dict":=by
 rcases g with ⟨kvs,k,e,_,_⟩ | ⟨kvs,k,b,e,_,_,_⟩
 ·obtain ⟨_,_,vs,_,dd⟩:=g6 I.bK e
  exact dd.typeIs
 ·obtain ⟨_,_,xs,_,dd⟩:=ka I.bK e
  exact dd.typeIs
inductive xp (Q:VK)(x:V)(y:V)(H2:Hp):Prop where
 | mk (a v:_) (_:x=.ref a) (_:cJ H2 a y (some v)) (_:Q v H2):xp Q x y H2
def Kz (td ty:TE):TE:=fun σ H Q=>td σ H fun x H1=>ty σ H1 fun y H2=>xp Q x y H2
inductive C_ (Q:VK)(y:V)(x:V)(H2:Hp):Prop where
 | mk (a o:_) (_:x=.ref a) (_:cJ H2 a y o) (_:Q (.bl o.isSome) H2):C_ Q y x H2
def Ss (ty td:TE):TE:=fun σ H Q=>ty σ H fun y H1=>td σ H1 fun x H2=>C_ Q y x H2
inductive pK (Q:VK)(y:V)(x:V)(H2:Hp):Prop where
 | mk (a o:_) (_:x=.ref a) (_:cJ H2 a y o) (_:Q (.bl (!o.isSome)) H2):pK Q y x H2
def zN (ty td:TE):TE:=fun σ H Q=>ty σ H fun y H1=>td σ H1 fun x H2=>pK Q y x H2
inductive xq (D:Ends)(σ:L2.St)(v:V)(x:V)(y:V)(H3:Hp):Prop where
 | mk (a H4:_) (_:x=.ref a) (_:iR H3 a y v H4) (_:D.nx σ H4):xq D σ v x y H3
def KA (td ty tv:TE):TS:=fun D σ H=>tv σ H fun v H1=>td σ H1 fun x H2=>ty σ H2 fun y H3=>xq D σ v x y H3
section
variable {X:Cx}{o i e value:Expr}{pos pos' qS:Pos}{td ty tv:TE}
theorem dw (hu:X.A.units+1 < cLine)(ho:PE X o td)(hi:PE X i ty)(hs:Ky i):PE X (.Subscript o i pos) (Kz td ty):=by
 intro pins s σ H Q I h
 refine zM PySem.F.slot_dict_getitem.lookup hs (b8 (ho pins s σ H _ I h) fun u s1 ⟨x,H1,I1,rx,q1⟩=>b8 (hi pins s1 σ H1 _ I1 q1) fun iv s2 ⟨y,H2,I2,ry,a,v,ex,g,q2⟩=> ?_)
 subst ex
 obtain rfl:u=Value.ref a:=rx
 exact ⟨pJ I2 g,uC hu I2 g ry fun w' s3 I3 oI =>⟨v,H2,I3,oI,q2⟩⟩
theorem xr (hu:X.A.units+1 < cLine)(hi:PE X i ty)(ho:PE X o td):PC X .In i o (Ss ty td):=by
 intro pins s σ H Q I h
 refine b8 (hi pins s σ H _ I h) fun iv s1 ⟨y,H1,I1,ry,q1⟩=>b8 (ho pins s1 σ H1 _ I1 q1) fun u s2 ⟨x,H2,I2,rx,a,ov,ex,g,q2⟩=> ?_
 subst ex
 obtain rfl:u=Value.ref a:=rx
 exact Sr hu I2 g ry fun s3 I3=>⟨.bl ov.isSome,H2,I3,rfl,q2⟩
theorem mf (hu:X.A.units+1 < cLine)(hi:PE X i ty)(ho:PE X o td):PC X .NotIn i o (zN ty td):=by
 intro pins s σ H Q I h
 refine b8 (hi pins s σ H _ I h) fun iv s1 ⟨y,H1,I1,ry,q1⟩=>b8 (ho pins s1 σ H1 _ I1 q1) fun u s2 ⟨x,H2,I2,rx,a,ov,ex,g,q2⟩=> ?_
 subst ex
 obtain rfl:u=Value.ref a:=rx
 exact zK hu I2 g ry fun s3 I3=>⟨.bl (!ov.isSome),H2,I3,rfl,q2⟩
theorem d6 (hu:X.A.units+1 < cLine)(ho:PE X o td)(hi:PE X i ty)(hv:PE X value tv)(hs:swapsWith value (some (.Subscript o i pos')) pos.line X.env=pure false):
  PS X (.Assign [.Subscript o i pos'] value pos) (KA td ty tv):=by
 intro pins s σ H D I h
 refine wpAny_Assign_Subscript (b8 (hv pins s σ H _ I h) fun r s1 ⟨v,H1,I1,rv,q1⟩=>b8 (ho pins s1 σ H1 _ I1 q1) fun u s2 ⟨x,H2,I2,rx,q2⟩=>b8 (hi pins s2 σ H2 _ I2 q2) fun iv s3 ⟨y,H3,I3,ry,a,H4,ex,g,q3⟩=> ?_) hs
 subst ex
 obtain rfl:u=Value.ref a:=rx
 exact uD hu I3 g ry rv fun s4 I4=>⟨σ,H4,I4,q3⟩
end
theorem pM {P:Program}{w:World}{H:Hp}(h:Heap)(hb:sysModules < h.objs.size):cx P w H (h.push {cls:=.type "dict",data:=.dict #[]}) h.objs.size (.dK []):=
 ⟨aa4 _,beq_eq_false_iff_ne.mpr (aaU (aaN hb)),[],.nil,Heap.DictOf.new h⟩
def FU:TE:=fun _ H Q=>∀p,H p=none→Q (.ref p) (upd H p (.dK []))
section
variable {X:Cx}{pos:Pos}
theorem dI:PE X (.Dict [] [] pos) FU:=fun pins s σ H Q I h=>
 wpAny_Dict_empty ⟨.ref s.heap.objs.size,_,I.laid (a:=s.heap.objs.size) (o:=.dK []) (t' :=s.toks) (fun _ _ q=>Heap.get?_push_of_some _ q) (aao _) (pM s.heap I.big),rfl,h _ (I.bK.fresh (aao _))⟩
end
def rf:List (TE×TE)→St→Hp→(List (V×V)→Hp→Prop)→Prop
 | [],_,H,Q=>Q [] H
 | (tk,tv)::r,σ,H,Q=>tk σ H fun x H1=>tv σ H1 fun y H2=>rf r σ H2 fun ps H3=>Q ((x,y)::ps) H3
abbrev VV:List (V×V)→List (Value×Value)→Prop:=Paired fun p q=>RelV p.1 q.1∧RelV p.2 q.2
def QY (X:Cx)(pos:Pos)(keys:List (Option Expr))(values:List Expr)(zO:List (TE×TE)):Prop:=
 ∀(pins:List (Addr×Obj)) (s:Shared) (σ:St) (H:Hp) (Q:List (V×V)→Hp→Prop),Inv X pins σ H s→rf zO σ H Q→
  wpAny (model X.prog X.w) X.A (evalPairs (pairTrees keys values X.env pos)) (fun vs s' =>∃ps H',Inv X pins σ H' s' ∧VV ps vs∧Q ps H') X.xe s
theorem sQ {X:Cx}{pos:Pos}:QY X pos [] [] []:=fun pins s σ H Q I h=>pairTrees_nil_walk ⟨[],H,I,.nil,h⟩
theorem kb {X:Cx}{pos:Pos}{k v:Expr}{ks:List (Option Expr)}{vs:List Expr}{tk tv:TE}{zO:List (TE×TE)}(hk:PE X k tk)(hv:PE X v tv)(hr:QY X pos ks vs zO):
  QY X pos (some k::ks) (v::vs) ((tk,tv)::zO):=fun pins s σ H Q I h=>
 pairTrees_cons_walk (b8 (hk pins s σ H _ I h) fun u s1 ⟨x,H1,I1,rx,q1⟩=>b8 (hv pins s1 σ H1 _ I1 q1) fun w2 s2 ⟨y,H2,I2,ry,q2⟩=>
  b8 (hr pins s2 σ H2 _ I2 q2) fun ws s3 ⟨ps,H3,I3,rel,q3⟩=>⟨(x,y)::ps,H3,I3,.cons ⟨rx,ry⟩ rel,q3⟩)
def bW (kvs more:List (Key×V)):List (Key×V):=more.foldl (fun acc kv=>putK acc kv.1 kv.2) kvs
theorem KV.merge:∀{more:List (Key×V)} {rs:List (Key×Value)} {kvs:List (Key×V)} {vs:List (Key×Value)},KV more rs→KV kvs vs→KV (bW kvs more) (merged vs rs):=by
 intro more rs kvs vs r
 unfold KV at r
 induction r generalizing kvs vs with
 | nil=>intro q;exact q
 | @cons p q ps qs h t ih=>
  intro r0
  have e:KV (putK kvs p.1 p.2) (stored vs q.1 q.2):=by
   have:=r0.put p.1 h.2
   rw [← h.1];exact this
  exact ih e
theorem eg:∀(more kvs:List (Key×V)),(bW kvs more).length≤kvs.length+more.length
 | [],kvs=>by show kvs.length≤kvs.length+0;omega
 | p::r,kvs=>by
  have h1:=eg r (putK kvs p.1 p.2)
  have h2:=fP kvs p.1 p.2
  show (bW (putK kvs p.1 p.2) r).length≤_
  rw [aaP];omega
theorem kc {P:Program}{w:World}:∀{kvs:List (Key×V)} {ws:List (Value×Value)},VV (kvs.map fun kv=>(kV kv.1,kv.2)) ws→∃rs,Carries (bC P w) ws rs∧KV kvs rs
 | [],_,r=>by rw [aaW] at r;cases r;exact ⟨[],True.intro,.nil⟩
 | p::kvs,_,r=>by
  rw [aaj] at r
  cases r with
  | @cons a b as bs h t=>
   obtain ⟨rs,c,q⟩:=kc (P:=P) (w:=w) t
   obtain ⟨b1,b2⟩:=b
   exact ⟨(p.1,b2)::rs,⟨ji h.1,rfl,c⟩,.cons ⟨rfl,h.2⟩ q⟩
def KC (zO:List (TE×TE)):TE:=fun σ H Q=>∀p,H p=none→rf zO σ (upd H p (.dK [])) fun ps H2=>H2 p=some (.dK [])∧∃kvs:List (Key×V),ps=kvs.map (fun kv=>(kV kv.1,kv.2))∧kvs.length≤15∧Q (.ref p) (upd H2 p (.dK (bW [] kvs)))
theorem sR {X:Cx}{pos:Pos}{keys:List (Option Expr)}{values:List Expr}{zO:List (TE×TE)}(h:QY X pos keys values zO)(xf:keys.all (·.isSome)=true)(hl:keys.length=values.length)(h0:keys≠[])
  (h15:keys.length≤15):PE X (.Dict keys values pos) (KC zO):=by
 intro pins s σ H Q I q
 have hn:=I.bK.fresh (aao s.heap.objs.size)
 have I1:=I.laid (a:=s.heap.objs.size) (o:=.dK []) (h' :=s.heap.push {cls:=.type "dict",data:=.dict #[]}) (t' :=s.toks) (fun _ _ q=>Heap.get?_push_of_some _ q) (aao _) (pM s.heap I.big)
 refine wpAny_Dict_walk (knd:=bC X.prog X.w) xf hl h0 h15 (b8 (h pins _ σ _ _ I1 (q _ hn)) fun ws s2 ⟨ps,H2,I2,rel,e,kvs,ep,lk,q2⟩=> ?_)
 subst ep
 obtain ⟨rs,c,rk⟩:=kc (P:=X.prog) (w:=X.w) rel
 obtain ⟨z,hd,vs0,r0,dd⟩:=me I2.bK e
 cases r0
 refine ⟨rs,c,dd,fun h' FT hs=>⟨.ref s.heap.objs.size,_,?_,rfl,q2⟩⟩
 have hz:(bW [] kvs).length≤sizeLine:=by
  have h1:=eg kvs []
  rw [aj3] at h1
  rw [sizeLine_eq];omega
 have he:∃q,h'.get? s.heap.objs.size=some q:=let ⟨q,_,_,hq,_⟩:=FT;⟨q,hq⟩
 exact jK I2 (by rw [e];exact True.intro) hs he (ra hz hd (rk.merge .nil) FT)
structure M2 (X:Cx)(o:Expr)(m:Str)(apos:Pos)(e f:Expr)(ff:Pos):Prop where
 base:attributeBase o m X.env (eval o X.env)=eval o X.env
 few:((backTo ff (starEach [e,f] X.env)).all (fun x=> !x.1) && (backToKw ff (keywordEach [] X.env)).all (fun x=>x.1.isSome)
  && decide (([e,f]:List Expr).length+([]:List Keyword).length+(if ([]:List Keyword).isEmpty then 0 else 1) < 30))=true
 line:(apos.endLine==ff.line)=true
 trees:backTo ff (starEach [e,f] X.env)=[(false,eval e X.env),(false,eval f X.env)]
def IsD (H:Hp)(a:Addr):Prop:=(∃kvs,Rd H a (.dK kvs))∨∃kvs,Rd H a (.dT kvs)
theorem FV {X:Cx}{pins:List (Addr×Obj)}{σ:St}{H:Hp}{s:Shared}{a:Addr}(I:Inv X pins σ H s)(d:IsD H a):
  s.TypeIs (.ref a) "dict"∧(∀b,Value.ref a=.ref b→∃ob,s.heap.get? b=some ob∧ob.dict=none)∧(a==sysModules)=false:=by
 rcases d with ⟨kvs,e⟩ | ⟨kvs,e⟩
 ·obtain ⟨_,hd,vs,_,dd⟩:=g6 I.bK e
  refine ⟨dd.typeIs,fun b q=> ?_,hd⟩
  cases q
  obtain ⟨ob,_,_,h1,h2,_⟩:=dd
  exact ⟨ob,h1,h2.2.1⟩
 ·obtain ⟨_,hd,xs,_,dd⟩:=ka I.bK e
  refine ⟨dd.typeIs,fun b q=> ?_,hd⟩
  cases q
  obtain ⟨ob,_,_,h1,h2,_⟩:=dd
  exact ⟨ob,h1,h2.2.1⟩
section
variable {X:Cx}{pins:List (Addr×Obj)}{σ:St}{H:Hp}{s:Shared}{a:Addr}{y d:V}{u r:Value}{o:Option V}{A:Around}{E:Value→Shared→Prop}
theorem FW {Q:Value→Shared→Prop}(hu:A.units+1 < cLine)(I:Inv X pins σ H s)(g:cJ H a y o)(ry:RelV y u)(rd:RelV d r)(h:∀w' s',Inv X pins σ H s' →RelV (o.getD d) w' →Q w' s'):
  wpAny (model X.prog X.w) A (call (.builtin "dict.get") [.ref a,u,r]) Q E s:=by
 rcases g with ⟨kvs,k,e,ey,l⟩ | ⟨kvs,k,b,e,ey,eb,l⟩
 ·subst ey
  obtain ⟨z,hd,vs,rel,dd⟩:=g6 I.bK e
  refine call_meetsIn PySem.F.slot_dict_get dd.typeIs PySem.F.entry_dict_get (PySem.F.args_dict_get_3 _ _ _) (meets_dict_get_default (bC X.prog X.w) a (ji ry) hd r) ⟨_,dd.mapOf,h _ _ (I.tok _) ?_⟩
  rw [l]
  exact (rel.val k).getD rd
 ·subst ey
  cases (show u=Value.ref b from ry)
  obtain ⟨z,hd,xs,rel,dd⟩:=ka I.bK e
  refine call_meetsIn PySem.F.slot_dict_get dd.typeIs PySem.F.entry_dict_get (PySem.F.args_dict_get_3 _ _ _) (meetsH_dict_get_default (tupleKind (bC X.prog X.w)) a b hd r) ⟨tupleKind_room_in1 hu,k,xs,iQ I.bK eb,dd,h _ _ (I.tok _) ?_⟩
  rw [l]
  exact (rel.val k).getD rd
end
def FX (td ty tx:TE):TE:=fun σ H Q=>td σ H fun x H1=>∃a,x=.ref a∧IsD H1 a∧ty σ H1 fun y H2=>tx σ H2 fun z H3=>∃o,cJ H3 a y o∧Q (o.getD z) H3
section
variable {X:Cx}{o e f:Expr}{apos ff:Pos}{td ty tx:TE}
theorem xt (hu:X.A.units+1 < cLine)(ho:PE X o td)(he:PE X e ty)(hf:PE X f tx)(m:M2 X o "get" apos e f ff):PE X (.Call (.Attribute o "get" apos) [e,f] [] ff) (FX td ty tx):=by
 intro pins s σ H Q I h
 refine wpAny_Call_method m.base m.few m.line PySem.F.plainAttrs_dict PySem.F.slot_dict_get PySem.F.type_dict_get (b8 (ho pins s σ H _ I h) fun u s1 ⟨x,H1,I1,rx,a,ex,d,q1⟩=> ?_)
 subst ex
 obtain rfl:u=Value.ref a:=rx
 obtain ⟨t1,t2,_⟩:=FV I1 d
 refine ⟨t1,t2,?_⟩
 rw [m.trees]
 refine Calls.callWith_builtin rfl (Calls.evalArgs_plain (Calls.spliced_cons (b8 (he pins s1 σ H1 _ I1 q1) fun iv s2 ⟨y,H2,I2,ry,q2⟩=>
  Calls.spliced_cons (b8 (hf pins s2 σ H2 _ I2 q2) fun fv s3 ⟨z,H3,I3,rz,ov,g,q3⟩=>Calls.spliced_nil ?_))))
 exact FW hu I3 g ry rz fun w' s4 I4 oI =>⟨_,H3,I4,oI,q3⟩
end
section
variable {X:Cx}{pins:List (Addr×Obj)}{σ:St}{H:Hp}{s:Shared}{a:Addr}{kvs:List (Key×V)}{A:Around}{E:Value→Shared→Prop}
end
section
variable {X:Cx}{pins:List (Addr×Obj)}{σ:St}{H:Hp}{s:Shared}{a:Addr}{y:V}{u:Value}{A:Around}{E:Value→Shared→Prop}
end
end L2
set_option maxHeartbeats 4000000
namespace Ty
open PySem PySem.Spec PyProof.Rows L2
section
variable {X:Cx}
theorem zQ {pins:List (Addr×Obj)}{σ:L2.St}{H:Hp}{s:Shared}(I:Inv X pins σ H s):s.heap.NoSeer:=I.ok.mod.seer.keeps I.bk
theorem b7.py {k:Nat}{A:Around}(r:b7 k A)(h:32≤k):A.depth+Builtin.pylongFrames < recursionLimit:=by
 have:=r.dp
 have:Builtin.pylongFrames=100:=rfl
 omega
theorem dJ {env:Env}{l:List Env}(ht:X.prog.given.tree=none)(hd:X.A.depth+Builtin.pylongFrames < recursionLimit)(zi:X.stack=env::l)(h1:env.scope.isGenerator=false)(h2:env.scope.isCoroutine=false)(h3:env.builtins=builtinsNs)(h4:env.globals=mainGlobals):
  iI X (binaryOp .FloorDiv) (rI FI fun i j=>.int (i.fdiv j)):=by
 intro pins s σ H x y v u Q I rx ry h
 obtain ⟨i,j,rfl,rfl,hc,q⟩:=h
 obtain ⟨t,rfl⟩:=rx
 obtain ⟨t',rfl⟩:=ry
 exact floordiv_int hc ⟨.int _,H,I.tok _,⟨_,rfl⟩,q⟩ (.inr (PylongRoom.of I.nolimit hd (SeerAt.of (zQ I) ht (by rw [I.ok.frames,zi]) h1 h2 h3 h4)))
end
end Ty
set_option maxHeartbeats 4000000
namespace Ty
open PySem PySem.Spec PyProof.Rows L2
section
variable {prog:Program}{w:World}{A:Around}{E:Value→Shared→Prop}{s:Shared}{KK:Type}[DecidableEq KK]{knd:KeyKind prog w KK}
theorem uE {d:Addr}{kvs:List (KK×Value)}{Q:Bool→Shared→Prop}(hm:s.heap.DictOf knd d kvs)(h:Q false s):wpAny (model prog w) A (Builtin.List.listLengthHint (.ref d)) Q E s:=by
 unfold Builtin.List.listLengthHint
 refine wpAny_bind (wpAny_specialOf (name:=Str.ofString "__len__") hm.typeIs F.slot_dict_len.lookup ?_)
 generalize hid:("dict.__len__":String)=id0
 wp_delta
 rw [show splitId id0=some ("dict","__len__") from by subst hid;decide+kernel]
 subst hid
 refine wpAny_bind (wpAny_isInstance (T:="dict") (b:=true) hm.typeIs (by rw [isSubtype_type];kernel_rfl) ?_)
 refine wpAny_ite_split (fun Su=>absurd Su (by decide)) (fun _=> ?_)
 refine wpAny_ite_split (fun _=> ?_) (fun Su=>absurd (by decide+kernel) Su)
 refine wpAny_bind (wpAny_typeOf (T:="dict") hm.typeIs ?_)
 exact wpAny_pure h
theorem pN {R:Result→Shared→Prop}{d:Addr}{kvs:List (KK×Value)}{ep:Nat}(hh:A.handled=none)(hd:(d==sysModules)=false)(hm:s.heap.DictAt knd d kvs ep)(hlen:kvs.length≤sizeLine)(S:Addr)(res:Value)(c₀:Nat)(hS:s.heap.get? S=some {cls:=.type "list",data:=.seq #[] c₀})
  (hR:∀h' tk fQ c',(∀b o,b≠S→s.heap.get? b=some o→h'.get? b=some o)→h'.get? S=some {cls:=.type "list",dict:=none,data:=.seq fQ c',slots:= #[]}→
   ItemsOf (fun i v=>∃k x,kvs[i]? =some (k,x)∧knd.is k v=true) fQ kvs.length→R (.ok (.ret res)) {s with heap:=h',toks:=tk}):
  wpAny (model prog w) A.in1 (Builtin.List.listExtendWith (.ref S) (.ref d) res)
   (fun fin s' =>match fin with | .done f=>R (.ok f) s' | .again c' =>c'.quiet=true∧codeAny (model prog w) A c' R s') (fun e s' =>R (.error e) s') s:=by
 obtain ⟨od,es,Jl,lj,g7,hk0,hp0,hn0⟩:=id hm
 have hT:s.TypeIs (.ref d) "dict":=hm.dictOf.typeIs
 have Jm:S≠d:=fun e=>by
  rw [e] at hS
  rw [hS] at Jl
  cases Jl
  cases g7
 have hdI:d≠s.heap.objs.size:=aaN (Heap.lt_size Jl)
 have Sv:S≠s.heap.objs.size:=aaN (Heap.lt_size hS)
 have hSf:S∉[s.heap.objs.size,d]:=fun hm=>by
  rcases aaJ.mp hm with z | z
  ·exact Sv z
  ·exact Jm (aaD.mp z)
 have W:=(Walks.dictKeys (knd:=knd) (A:=A.in1) hh s.heap.objs.size d hdI kvs ep).toS
 unfold Builtin.List.listExtendWith
 refine wpAny_bind (wpAny_typeOf (T:="dict") hT ?_)
 have h1:Builtin.List.listSameRef (.ref S) (.ref d)=false:=by simp [Builtin.List.listSameRef,Jm]
 have h2:(Value.type "dict"==Value.type "list")=false:=by decide
 have h3:(Value.type "dict"==Value.type "tuple")=false:=by decide
 simp only [h1,h2,h3,akY,abG,if_false]
 refine wpAny_bind (wpAny_pyIter_dict hd hm ?_)
 have Jn:(s.heap.push {cls:=.type "dict_keyiterator",data:=.fields #[.ref d,.int 0 0,.int kvs.length 0,.int ep 0]}).DictAt knd d kvs ep:=hm.at' fun o e=>Heap.get?_push_of_some _ e
 refine wpAny_bind (wpAny_holding (uE (knd:=knd) Jn.dictOf ?_))
 have KD:=Heap.get?_push_of_some {cls:=.type "dict_keyiterator",data:=.fields #[.ref d,.int 0 0,.int kvs.length 0,.int ep 0]} hS
 have it₁:(s.heap.push {cls:=.type "dict_keyiterator",data:=.fields #[.ref d,.int 0 0,.int kvs.length 0,.int ep 0]}).IsKeyIter s.heap.objs.size d 0 kvs.length ep:=⟨_,Heap.get?_push_size _ rfl,rfl,rfl⟩
 have key:∀(h:Heap) (c₁ tk:Nat),h.IsKeyIter s.heap.objs.size d 0 kvs.length ep→h.DictAt knd d kvs ep→(∀b o,b≠S→s.heap.get? b=some o→h.get? b=some o)→
   h.get? S=some {cls:=.type "list",data:=.seq #[] c₁}→codeAny (model prog w) A (.builtin "list.extend.loop" ⟨[.ref S,.ref s.heap.objs.size,res],[]⟩) R {s with heap:=h,toks:=tk}:=by
  intro h c₁ tk hit hdm hk KD
  refine codeAny_extend_loopS W hlen S hSf res kvs.length 0 _ #[] c₁ rfl (aa4 _) ⟨hit,hdm⟩ KD (ItemsOf.nil _) fun s' fQ c' QZ FY pO=> ?_
  rw [Moved.eq_with QZ]
  refine hR s'.heap s'.toks fQ c' (fun b o hb e=>QZ.heap b o (fun uF=> ?_) (hk b o hb e)) FY pO
  rcases aaJ.mp uF with e' | uF
  ·exact hb e'
  ·exact absurd (Heap.lt_size e) (by rw [aaD.mp uF];exact abd _)
 refine wpAny_ite_split (fun _=> ?_) (fun _=>wpAny_pure ⟨plainId_quiet F.plain_extend_loop _,key _ c₀ _ it₁ Jn (fun b o _ e=>Heap.get?_push_of_some _ e) KD⟩)
 refine wpAny_bind (wpAny_rule ?_)
 refine wpAny_bind ?_
 show wpAny _ _ (updateSeq S (·.push .none) >>=fun _=>updateSeq S (·.pop)) _ _ _
 refine wpAny_bind (wpAny_updateSeq KD rfl ?_)
 have Q0:=Heap.get?_update_self (Obj.mapSeq (·.push Value.none)) KD rfl
 refine wpAny_updateSeq (hz:=by seq_fits) Q0 rfl ?_
 have hS₃:=Heap.get?_update_self (Obj.mapSeq (·.pop)) Q0 rfl
 refine wpAny_pure ⟨plainId_quiet F.plain_extend_loop _,key _ _ _ (it₁.at fun o e=> ?_) (Jn.at' fun o e=> ?_) (fun b o hb e=> ?_) hS₃⟩
 ·exact (Heap.get?_update_other _ _ Sv).trans ((Heap.get?_update_other _ _ Sv).trans e)
 ·exact (Heap.get?_update_other _ _ Jm).trans ((Heap.get?_update_other _ _ Jm).trans e)
 ·exact (Heap.get?_update_other _ _ (aaU hb)).trans ((Heap.get?_update_other _ _ (aaU hb)).trans (Heap.get?_push_of_some _ e))
theorem kd {R:Result→Shared→Prop}{d:Addr}{kvs:List (KK×Value)}{ep:Nat}(hh:A.handled=none)(hd:(d==sysModules)=false)(hm:s.heap.DictAt knd d kvs ep)(hlen:kvs.length≤sizeLine)(S:Addr)(hS:s.heap.get? S=some {cls:=.type "list",data:=.seq #[]})
  (hR:∀h' tk fQ c',(∀b o,b≠S→s.heap.get? b=some o→h'.get? b=some o)→h'.get? S=some {cls:=.type "list",dict:=none,data:=.seq fQ c',slots:= #[]}→
   ItemsOf (fun i v=>∃k x,kvs[i]? =some (k,x)∧knd.is k v=true) fQ kvs.length→R (.ok (.ret .none)) {s with heap:=h',toks:=tk}):
  wpAny (model prog w) A.in1 (Builtin.«list.__init__» ⟨[.ref S,.ref d],[]⟩)
   (fun fin s' =>match fin with | .done f=>R (.ok f) s' | .again c' =>c'.quiet=true∧codeAny (model prog w) A c' R s') (fun e s' =>R (.error e) s') s:=by
 obtain ⟨od,es,Jl,lj,g7,hk0,hp0,hn0⟩:=id hm
 have Jm:S≠d:=fun e=>by
  rw [e] at hS
  rw [hS] at Jl
  cases Jl
  cases g7
 show wpAny _ _ (do let old ← Builtin.List.listItems (.ref S);Builtin.List.listUpdate (.ref S) (fun _=> #[]);letGo old.toList.reverse;Builtin.List.listExtendWith (.ref S) (.ref d) .none) _ _ s
 refine wpAny_bind ?_
 unfold Builtin.List.listItems
 refine wpAny_bind (wpAny_seqItems hS rfl (wpAny_pure ?_))
 show wpAny _ _ (updateSeq S (fun _=> #[]) >>=fun _=>letGo (#[]:Array Value).toList.reverse >>=fun _=>Builtin.List.listExtendWith (.ref S) (.ref d) .none) _ _ s
 refine wpAny_bind (wpAny_updateSeq hS rfl ?_)
 have Q0:=Heap.get?_update_self (Obj.mapSeq (fun _=>(#[]:Array Value))) hS rfl
 have oth:∀b o,b≠S→s.heap.get? b=some o→(s.heap.update S (Obj.mapSeq (fun _=>(#[]:Array Value)))).get? b=some o:=
  fun b o hb e=>(Heap.get?_update_other _ _ (aaU hb)).trans e
 refine wpAny_bind (wpAny_letGo ?_)
 refine pN hh hd (hm.at' fun o e=>oth d o (aaU Jm) e) hlen S .none _ Q0 fun h' tk fQ c' hk FY pO=> ?_
 exact hR h' tk fQ c' (fun b o hb e=>hk b o hb (oth b o hb e)) FY pO
theorem ke {Q:Value→Shared→Prop}{d:Addr}{kvs:List (KK×Value)}{ep:Nat}(hh:A.handled=none)(hd:(d==sysModules)=false)(hm:s.heap.DictAt knd d kvs ep)(hlen:kvs.length≤sizeLine)
  (hQ:∀h' tk fQ c',(∀b o,s.heap.get? b=some o→h'.get? b=some o)→
   h'.get? s.heap.objs.size=some {cls:=.type "list",dict:=none,data:=.seq fQ c',slots:= #[]}→ItemsOf (fun i v=>∃k x,kvs[i]? =some (k,x)∧knd.is k v=true) fQ kvs.length→Q (.ref s.heap.objs.size) {s with heap:=h',toks:=tk}):
  wpAny (model prog w) A (call (.type "list") [.ref d]) Q E s:=by
 refine callType_codes (Q₁:=fun obj s₁=>obj=.ref s.heap.objs.size∧s₁={s with heap:=s.heap.push {cls:=.type "list",data:=.seq #[]}}) F.called_list (F.typeCall_list_1 _) F.entry_list_init
  (code_list_new _ ⟨rfl,rfl⟩) fun obj s₁ h₁=> ?_
 obtain ⟨rfl,rfl⟩:=h₁
 have hS:(s.heap.push {cls:=.type "list",data:=.seq #[]}).get? s.heap.objs.size=some {cls:=.type "list",data:=.seq #[]}:=Heap.get?_push_size _ rfl
 refine ⟨⟨_,hS,rfl⟩,F.args_list_init_2 _ _,kd (A:=A.in1) hh hd (hm.at' fun o e=>Heap.get?_push_of_some _ e) hlen _ hS fun h' tk fQ c' hk FY pO=> ?_⟩
 exact ⟨rfl,hQ h' tk fQ c' (fun b o e=>hk b o (aaN (Heap.lt_size e)) (Heap.get?_push_of_some _ e)) FY pO⟩
end
theorem aF {α β:Type}{F:α→β→Prop}:∀{l₁:List α} {l₂:List β} {i:Nat} {a:α},Paired F l₁ l₂→l₁[i]? =some a→∃b,l₂[i]? =some b∧F a b
 | _,_,_,_,.nil,h=>by simp at h
 | _,_,0,_,.cons r _,h=>by
  cases h
  exact ⟨_,rfl,r⟩
 | _,_,i+1,_,.cons _ t,h=>by
  obtain ⟨b,e,f⟩:=aF (i:=i) t (by simpa using h)
  exact ⟨b,by simpa using e,f⟩
theorem iS {α β:Type}{F:α→β→Prop}:∀{l₁:List α} {l₂:List β},l₁.length=l₂.length→(∀(i:Nat) (a:α) (b:β),l₁[i]? =some a→l₂[i]? =some b→F a b)→Paired F l₁ l₂
 | [],[],_,_=>.nil
 | a::l₁,b::l₂,h,f=>.cons (f 0 a b rfl rfl) (iS (by simpa using h) fun i a b e1 e2=>f (i+1) a b (by simpa using e1) (by simpa using e2))
 | [],_::_,h,_=>by simp at h
 | _::_,[],h,_=>by simp at h
theorem nA {P:Program}{w:World}{k:Key}{u:Value}(h:(bC P w).is k u=true):RelV (kV k) u:=by
 rcases bS h with ⟨i,t,rfl,rfl⟩ | ⟨x,t,rfl,rfl⟩
 ·exact ⟨t,rfl⟩
 ·exact ⟨t,rfl⟩
section
variable {X:Cx}
inductive xu (xs:List V)(H:Hp)(Q:VK):Prop where
 | mk (p:Addr) (kvs:List (Key×V)) (_:xs=[.ref p]) (_:Rd H p (.dK kvs)) (_:∀l,H l=none→Q (.ref l) (upd H l (.lst (kvs.map fun kv=>kV kv.1)))):xu xs H Q
theorem gC (hc:X.calm=true):gj X (.type "list") xu:=by
 intro pins s σ H xs us Q I r h
 obtain ⟨p,kvs,rfl,hq,q⟩:=h
 obtain ⟨u,rfl,r1⟩:=vals1 r
 cases r1
 obtain ⟨z,hd,vs,rel,o,es,ep,ho,hx,g7,hk,hp,hn⟩:=g6 I.bK hq
 have hl:=rel.length
 refine ke (knd:=bC X.prog X.w) (I.ok.hd hc) hd ⟨o,es,ho,hx,g7,hk,hp,hn⟩ (by omega) fun h' tk fQ c' kk hS pO=> ?_
 have RE :=I.bK.fresh (aao s.heap.objs.size)
 have rv:Vals (kvs.map fun kv=>kV kv.1) fQ.toList:=iS (by have:=pO.1;simp;omega) fun i a b e1 e2=>by
  rw [Wp] at e1
  obtain ⟨kv,ek,rfl⟩:=aaw.mp e1
  obtain ⟨q',eq,e3,_⟩:=aF rel ek
  obtain ⟨k,x,e4,e5⟩:=pO.2 i b (by simpa using e2)
  rw [eq] at e4
  cases e4
  rw [e3]
  exact nA e5
 have I2:Inv X pins σ (upd H s.heap.objs.size (.lst (kvs.map fun kv=>kV kv.1))) {s with heap:=h',toks:=tk}:=I.laid (t' :=tk) kk (aao _) ⟨by rw [ir];exact z,fQ.toList,c',rv,by simpa using hS⟩
 exact ⟨.ref _,_,I2,rfl,q _ RE⟩
theorem Inv.freeze {pins:List (Addr×Obj)}{σ:L2.St}{H:Hp}{s:Shared}{d:Addr}{kvs:List (Key×V)}{o:Obj}(I:Inv X pins σ H s)(e:H d=some (.dK kvs))(ho:s.heap.get? d=some o):Inv X pins σ (upd H d (.fD o (.dK kvs))) s:=by
 have nx:∀b u,H b=some u→b≠d→upd H d (.fD o (.dK kvs)) b=some u:=fun b u q n=>by rw [ak n];exact q
 refine I.step (g' :=s.gens) (t' :=s.toks) (d' :=s.drawn) (ch:=[]) (fun _ z=>nomatch z) (fun b o _ _ _ e _=>e) (fun b o _ _ _ e _=>⟨o.slots,e⟩) (fun b o _ _ n=>by rw [ak (fun z=>by rw [z,e] at n;cases n)];exact n) (fun b o _ e=>⟨o,e⟩)
  (fun b xs q=>nx b _ q fun z=>by rw [z,e] at q;cases q) (fun b o' u q=>nx b _ q fun z=>by rw [z,e] at q;cases q) (fun b ps q=>⟨#[],by rw [nx b _ q fun z=>by rw [z,e] at q;cases q];simp⟩) (fun m hm=>hm) (fun b u q=> ?_) I.bare
 by_cases hb:b=d
 ·subst hb
  rw [ah] at q
  cases q
  exact ⟨ho,I.bK b _ e⟩
 ·rw [ak hb] at q
  exact (I.bK b u q).mM (fun _ _ _ k=>k) (fun c k=>nx c _ k fun z=>by rw [z,e] at k;cases k) fun c xs k=>nx c _ k fun z=>by rw [z,e] at k;cases k
def KG (d:Addr)(o:Obj)(kvs:List (Key×V)):It:=
 ⟨fun i H=>H d=some (.fD o (.dK kvs))∧i < kvs.length,
  fun i H v H' =>∃p k x,kvs[i]? =some (k,x)∧v=.ref p∧H p=none∧H' =upd H p (.tup [kV k,x]),
  fun i H=>H d=some (.fD o (.dK kvs))∧kvs.length≤i⟩
theorem nE {P:Program}{w:World}{H:Hp}{h:Heap}{d:Addr}{o:Obj}{kvs:List (Key×V)}{Jo:Array DictEntry}{ep:Nat}(ok:gi P w H h)(e:H d=some (.fD o (.dK kvs)))(he:o.data=.dict Jo ep):
  (d==sysModules)=false∧∃vs,KV kvs vs∧h.DictAt (bC P w) d vs ep∧kvs.length≤sizeLine:=by
 obtain ⟨h1,z,hd,vs,rel,o',es,oG,ho,hx,g7,hk,hp,hn⟩:=ok d _ e
 rw [h1] at ho
 cases ho
 rw [he] at g7
 cases g7
 exact ⟨hd,vs,rel,⟨o,Jo,h1,hx,he,hk,hp,hn⟩,z⟩
theorem iT:entryFor table "dict_itemiterator.__iter__"=some Builtin.«dict_keyiterator.__iter__»:=
 entryFor_alias (id' :="dict_keyiterator.__iter__") (by kernel_rfl) (by first | rfl | decide+kernel | (unfold String.splitOn;simp+decide [String.splitOnAux])) (by decide+kernel) (by kernel_rfl)
theorem rg {P:Program}{w:World}{A:Around}{E:Value→Shared→Prop}{s:Shared}{it d:Addr}{i n ep:Nat}{ok ov:Value}{Q:Value→Shared→Prop}(st:IsItemIter s.heap it d i n ep ok ov)(h:Q (.ref it) s):wpAny (model P w) A (pyIter (.ref it)) Q E s:=by
 have hT:s.TypeIs (.ref it) "dict_itemiterator":=⟨_,st,rfl⟩
 refine wpAny_pyIter_slot hT F.slot_dict_itemiterator_iter (wpAny_call_entry F.slot_dict_itemiterator_iter hT iT ?_ (F.args_dict_itemiterator_iter_1 _))
 show wpAny _ _ (ret (.ref it)) _ _ s
 exact wpAny_pure ⟨_,rfl,"dict_itemiterator",_,hT,F.slot_dict_itemiterator_next.lookup,h⟩
theorem rh {P:Program}{w:World}{K:Frag}{es:List Expr}{k:Nat}{pos:Pos}(d it:Addr)(o:Obj)(kvs:List (Key×V)){Jo:Array DictEntry}{ep:Nat}(he:o.data=.dict Jo ep)(C':it≠d):
  Turn P w K (.Tuple es k pos) (KG d o kvs) [it] it (fun i h=>∃ok ov,IsItemIter h it d i kvs.length ep ok ov) where
 mem:=by simp
 obj:=fun i h st b hb=>by
  have e:b=it:=by simpa using hb
  subst e
  obtain ⟨ok,ov,st⟩:=st
  exact ⟨_,st,fun v z=>by cases z⟩
 keep:=fun i h h' st k=>by
  obtain ⟨ok,ov,st⟩:=st
  exact ⟨ok,ov,k it (by simp) _ st⟩
 item:=by
  intro X hP hw hK hc i pins s σ H E I hf st hg
  subst hP hw hK
  obtain ⟨ok,ov,st⟩:=st
  obtain ⟨fz,hi⟩:=hg
  obtain ⟨hd,vs,rel,da,_⟩:=nE I.bK fz he
  have ek:kvs[i]? =some kvs[i]:=gE hi
  obtain ⟨⟨k',u⟩,ev,e1,ru⟩:=aF rel ek
  have lv:=rel.length
  rw [lv] at st
  refine wpAny_pyNext_items_item st da ev fun key h' wU out tup sz kk=> ?_
  refine ⟨_,rfl,wpAny_letOwnedTupleGo_items (s:={s with heap:=h' }) out fun yZ Sw sb=> ?_⟩
  have hsz:∀c o,s.heap.get? c=some o→s.heap.objs.size≠c:=fun c o e=>abZ (Heap.lt_size e)
  have tz:s.heap.objs.size≠it:=hsz _ _ st
  have nz:∀c,c≠it→∀o,h'.get? c=some o→yZ.get? c=some o:=fun c hc o e=>(sb.2 c hc).trans e
  have hn:=I.bK.fresh (aao s.heap.objs.size)
  have uq :kvs[i].1=k' :=e1
  have I2:Inv X pins σ (upd H s.heap.objs.size (.tup [kV kvs[i].1,kvs[i].2])) {s with heap:=yZ,toks:=s.toks}:=
   Inv.nh I (fun b o hb e=>nz b (by simpa using hb) o (kk b o (by simpa using hb) e)) hf (aao _) (by show 2≤sizeLine;decide) (its:=[key,u]) (.cons (by rw [uq];exact nA wU) (.cons ru .nil)) ⟨_,nz _ tz _ tup,rfl,_,rfl⟩
  refine ⟨.ref s.heap.objs.size,_,I2,rfl,⟨s.heap.objs.size,kvs[i].1,kvs[i].2,ek,rfl,hn,rfl⟩,⟨_,_,by rw [lv];exact Sw⟩,fun b hb=> ?_⟩
  have eb:b=it:=by simpa using hb
  rw [ak (by rw [eb];exact aaU tz)]
  exact (hf b hb).1
 done:=by
  intro X hP hw hK hc i pins s σ H E I hf st hg
  subst hP hw hK
  obtain ⟨ok,ov,st⟩:=st
  obtain ⟨fz,hi⟩:=hg
  obtain ⟨hd,vs,rel,da,_⟩:=nE I.bK fz he
  have lv:=rel.length
  rw [lv] at st
  obtain ⟨f0,f1,f2,f3,f4,f5⟩:=hf it (by simp)
  exact wpAny_pyNext_items_end (I.ok.hd hc) st da (aam (by omega)) fun h' eb=>⟨rfl,I.turned (t' :=s.toks) (fun b o hb e=>eb b o hb e) f0 f1 f3 f4 f5⟩
 self:=fun _ _ _ _ _ st h=>by
  obtain ⟨ok,ov,st⟩:=st
  exact rg st h
inductive sS (R:(It→Hp→Prop))(x:V)(H1:Hp):Prop where
 | mk (d kvs:_) (_:x=.ref d) (_:H1 d=some (.dK kvs)) (_:∀o,R (KG d o kvs) (upd H1 d (.fD o (.dK kvs)))):sS R x H1
def FZ (te:TE):TI:=fun σ H R=>te σ H fun x H1=>sS R x H1
theorem kg {e:Expr}{te:TE}{apos ff:Pos}{es:List Expr}{k:Nat}{qS:Pos}(ho:PE X e te)(w_:attributeBase e "items" X.env (eval e X.env)=eval e X.env:=by rfl)(xa:(apos.endLine==ff.line)=true:=by rfl):
  PI X (.Tuple es k qS) (.Call (.Attribute e "items" apos) [] [] ff) (FZ te):=by
 intro pins s σ H R I h
 refine wpAny_Call_method0_late w_ xa (b8 (ho pins s σ H _ I h) fun v s1 ⟨x,H1,I1,r1,q1⟩=> ?_)
 obtain ⟨d,kvs,rfl,e,q⟩:=q1
 cases r1
 obtain ⟨z,hd,vs,rel,o,Sx,ep,Jp,hx,g7,hk,hp,hn⟩:=me I1.bK e
 obtain ⟨h1,h2⟩:=w8 (T:="dict") I1 (show RelV (.ref d) (.ref d) from rfl) (.inr (.inr (.inl ⟨rfl,.inl ⟨kvs,e⟩⟩)))
 have da:s1.heap.DictAt (bC X.prog X.w) d vs ep:=⟨o,Sx,Jp,hx,g7,hk,hp,hn⟩
 have lv:=rel.length
 refine ⟨"dict","dict.items",F.plainAttrs_dict,F.slot_dict_items,F.type_dict_items,h1,h2,Calls.callWith_builtin rfl (PySem.evalArgs_none ?_)⟩
 refine call_meetsIn F.slot_dict_items h1 F.entry_dict_items (F.args_dict_items_1 _) (meets_dict_items (bC X.prog X.w) d hd) ⟨⟨vs,da.dictOf⟩,?_⟩
 have I2:=Inv.freeze I1 e Jp
 have da2:(s1.heap.push {cls:=.type "dict_items",data:=.fields #[.ref d]}).DictAt (bC X.prog X.w) d vs ep:=da.at' fun o e=>Heap.get?_push_of_some _ e
 show wpAny (model X.prog X.w) X.A (pyIter (.ref s1.heap.objs.size)) _ _ _
 refine wpAny_pyIter_items (s:={s1 with heap:=s1.heap.push {cls:=.type "dict_items",data:=.fields #[.ref d]}}) ⟨_,Heap.get?_push_size _ rfl,rfl,rfl⟩ da2 ?_
 have sz:(s1.heap.push {cls:=.type "dict_items",data:=.fields #[.ref d]}).objs.size=s1.heap.objs.size+1:=Heap.size_push ..
 have ne:(s1.heap.push {cls:=.type "dict_items",data:=.fields #[.ref d]}).objs.size≠d:=by
  rw [sz]
  exact aaU (aaN (abL (Heap.lt_size Jp)))
 have I3:Inv X pins σ (upd H1 d (.fD o (.dK kvs))) {s1 with heap:=(s1.heap.push {cls:=.type "dict_items",data:=.fields #[.ref d]}).push {cls:=.type "dict_itemiterator",data:=.fields #[.none,.bool false,.ref d,.int 0 0,.int vs.length 0,.int ep 0,.none,.none]}}:=I2.kept (t' :=s1.toks) fun b o e=>Heap.get?_push_of_some _ (Heap.get?_push_of_some _ e)
 refine ⟨_,[_],_,_,_,rfl,I3,rh d _ o kvs g7 ne,⟨_,_,by rw [lv];exact Heap.get?_push_size _ rfl⟩,fun b hb=> ?_,q o⟩
 have eb:b=(s1.heap.push {cls:=.type "dict_items",data:=.fields #[.ref d]}).objs.size:=by simpa using hb
 have le:s1.heap.objs.size≤b:=by rw [eb,sz];exact akB _
 exact I2.mS le (I2.bK.fresh le)
end
end Ty
set_option maxHeartbeats 4000000
namespace Ty
def ev:List Int→(Nat→Rat)→Rat
 | [],_=>0
 | a::r,z=>(a:Rat)*z 0+ev r (fun i=>z (i+1))
theorem xw:∀(l:List Int) (z y:Nat→Rat),ev l (fun i=>z i+y i)=ev l z+ev l y
 | [],_,_=>by simp [ev];grind
 | a::r,z,y=>by
  simp only [ev]
  rw [xw r (fun i=>z (i+1)) (fun i=>y (i+1))]
  grind
theorem nF:∀(l:List Int) (z:Nat→Rat),(∀j,((l.getD j 0:Int):Rat)*z j=0)→ev l z=0
 | [],_,_=>rfl
 | a::r,z,h=>by
  have h0:=h 0
  have ih:=nF r (fun i=>z (i+1)) (fun j=>by simpa using h (j+1))
  simp only [ev]
  rw [ih]
  simp at h0
  grind
theorem nG:∀(l:List Int) (z:Nat→Rat) (p:Nat),(∀j,j≠p→((l.getD j 0:Int):Rat)*z j=0)→ev l z=((l.getD p 0:Int):Rat)*z p
 | [],_,_,_=>by simp [ev]
 | a::r,z,0,h=>by
  have ih:=nF r (fun i=>z (i+1)) (fun j=>by simpa using h (j+1) (by omega))
  simp only [ev]
  rw [ih]
  simp
  grind
 | a::r,z,p+1,h=>by
  have h0:=h 0 (by omega)
  have ih:=nG r (fun i=>z (i+1)) p (fun j hj=>by simpa using h (j+1) (by omega))
  simp only [ev]
  rw [ih]
  simp at h0
  simp
  grind
theorem xx {s t u:Int}:∀{new line lead:List Int},new.length=line.length→lead.length=line.length→(∀j,s*new.getD j 0=t*line.getD j 0 - u*lead.getD j 0)→∀z:Nat→Rat,(s:Rat)*ev new z=t*ev line z - u*ev lead z
 | [],[],[],_,_,_,z=>by simp [ev];grind
 | a::new,b::line,c::lead,h1,h2,h,z=>by
  have h0:=h 0
  have ih:=xx (by simpa using h1) (by simpa using h2) (fun j=>by simpa using h (j+1)) (fun i=>z (i+1))
  simp at h0
  have h0' :(s:Rat)*a=t*b - u*c:=by exact_mod_cast h0
  simp only [ev]
  grind
 | [],_::_,_,h,_,_,_=>by simp at h
 | _::_,[],_,h,_,_,_=>by simp at h
 | _,[],_::_,_,h,_,_=>by simp at h
 | _,_::_,[],_,h,_,_=>by simp at h
def cT:List Rat→List (List Int)→Nat→Rat
 | c::y,o::os,j=>c*((o.getD j 0:Int):Rat)+cT y os j
 | _,_,_=>0
theorem pQ {s t u:Rat}(hs:s≠0)(j:Nat):∀(os:List (List Int)) (y1 y2:List Rat),y1.length=os.length→y2.length=os.length→s*cT (aba (fun a b=>(t*a - u*b) / s) y1 y2) os j=t*cT y1 os j - u*cT y2 os j
 | [],[],[],_,_=>by simp [cT];grind
 | o::os,a::y1,b::y2,h1,h2=>by
  have ih:=pQ (t:=t) (u:=u) hs j os y1 y2 (by simpa using h1) (by simpa using h2)
  simp only [ag_,cT]
  grind
 | [],_::_,_,h,_=>by simp at h
 | [],[],_::_,_,h=>by simp at h
 | _::_,[],_,h,_=>by simp at h
 | _::_,_::_,[],_,h=>by simp at h
theorem mh (j:Nat):∀(os:List (List Int)),cT (aau os.length 0) os j=0
 | []=>rfl
 | o::os=>by
  simp only [aaP,abb,cT]
  rw [mh j os]
  grind
def iU (os:List (List Int))(l:List Int):Prop:=∃y:List Rat,y.length=os.length∧∀j,((l.getD j 0:Int):Rat)=cT y os j
theorem pR:∀{os:List (List Int)} {l:List Int},l∈os→iU os l
 | o::os,l,h=>by
  rcases aaJ.mp h with z | z
  ·subst z
   refine ⟨1::aau os.length 0,by simp,fun j=> ?_⟩
   simp only [cT]
   rw [mh]
   grind
  ·obtain ⟨y,hl,hy⟩:=pR z
   refine ⟨0::y,by simp [hl],fun j=> ?_⟩
   simp only [cT]
   rw [← hy j]
   grind
theorem xy {os:List (List Int)}{new line lead:List Int}{s t u:Int}(hs:s≠0)(h:∀j,s*new.getD j 0=t*line.getD j 0 - u*lead.getD j 0)(h1:iU os line)(h2:iU os lead):iU os new:=by
 obtain ⟨y1,l1,e1⟩:=h1
 obtain ⟨y2,l2,e2⟩:=h2
 have CU :=cL hs
 refine ⟨aba (fun a b=>((t:Rat)*a - u*b) / s) y1 y2,by simp [l1,l2],fun j=> ?_⟩
 have k:=pQ (t:=(t:Rat)) (u:=(u:Rat)) CU j os y1 y2 l1 l2
 rw [← e1 j, ← e2 j] at k
 have h' :(s:Rat)*(new.getD j 0:Int)=t*(line.getD j 0:Int) - u*(lead.getD j 0:Int):=by exact_mod_cast h j
 rw [← h'] at k
 grind
def jk (y:List Rat):Nat→Rat:=fun i=>if i < y.length then y.getD i 0 else -1
theorem rj (j:Nat)(c:Int):∀(os:List (List Int)) (y:List Rat),y.length=os.length→ev (os.map (fun o=>o.getD j 0)++[c]) (jk y)=cT y os j - c
 | [],[],_=>by simp [ev,jk,cT];grind
 | o::os,a::y,h=>by
  have ih:=rj j c os y (by simpa using h)
  have ez:(fun i=>jk (a::y) (i+1))=jk y:=by
   funext i
   simp [jk]
  simp only [aaj,abT,ev,cT]
  rw [ez,ih]
  simp [jk]
  grind
 | [],_::_,h=>by simp at h
 | _::_,[],h=>by simp at h
theorem kh (k:Rat)(j:Nat):∀(os:List (List Int)) (y:List Rat),cT (y.map (fun a=>a*k)) os j=cT y os j*k
 | [],_=>by cases ‹List Rat› <;> simp [cT] <;> grind
 | _::_,[]=>by simp [cT]
 | o::os,a::y=>by
  simp only [aaj,cT]
  rw [kh k j os y]
  grind
structure pS (line lead new:List Int)(c:Nat):Prop where
 len:new.length=line.length
 xA:new.getD c 0=0
 DA:∃s t u:Int,s≠0∧t≠0∧∀j,s*new.getD j 0=t*line.getD j 0 - u*lead.getD j 0
theorem pS.zero {line lead new:List Int}{c:Nat}(h:pS line lead new c){j:Nat}(h1:line.getD j 0=0)(h2:lead.getD j 0=0):new.getD j 0=0:=by
 obtain ⟨s,t,u,hs,_,e⟩:=h.DA
 have:=e j
 rw [h1,h2,abJ,abJ,Int.sub_self] at this
 rcases aj4.mp this with z | z
 ·exact absurd z hs
 ·exact z
theorem pS.at {line lead new:List Int}{c:Nat}(h:pS line lead new c){j:Nat}(h2:lead.getD j 0=0)(h1:line.getD j 0≠0):new.getD j 0≠0:=by
 obtain ⟨s,t,u,hs,ht,e⟩:=h.DA
 have:=e j
 rw [h2] at this
 intro z
 rw [z,abJ,abJ,Int.sub_zero] at this
 rcases aj4.mp this.symm with y | y
 ·exact ht y
 ·exact h1 y
theorem pS.comb {os:List (List Int)}{line lead new:List Int}{c:Nat}(h:pS line lead new c)(h1:iU os line)(h2:iU os lead):iU os new:=by
 obtain ⟨s,t,u,hs,ht,e⟩:=h.DA
 exact xy hs e h1 h2
theorem pS.ev {line lead new:List Int}{c:Nat}(h:pS line lead new c)(hl:lead.length=line.length){z:Nat→Rat}(h2:Ty.ev lead z=0):Ty.ev new z=0 ↔ Ty.ev line z=0:=by
 obtain ⟨s,t,u,hs,ht,e⟩:=h.DA
 have k:=xx h.len hl e z
 rw [h2] at k
 have CU :=cL hs
 have ht' :=cL ht
 constructor
 ·intro w
  rw [w] at k
  grind
 ·intro w
  rw [w] at k
  grind
end Ty
set_option maxHeartbeats 4000000
namespace Ty
open PySem PySem.Spec PyProof.Rows L2
def KH (K:Frag)(a:Addr):It:=
 ⟨fun i H=>∃xs x,aT K H a xs∧xs[i]? =some x,
  fun i H v H' =>∃p x,(∀xs,aT K H a xs→xs[i]? =some x)∧v=.ref p∧H p=none∧H' =upd H p (.tup [.int (i:Int),x]),
  fun i H=>∃xs,aT K H a xs∧xs.length≤i⟩
theorem uG {P:Program}{w:World}{K:Frag}{es:List Expr}{k:Nat}{pos:Pos}(a e it:Addr)(C':e≠it):
  Turn P w K (.Tuple es k pos) (KH K a) [e,it] e (fun i h=>(∃old,IsEnum h e it ((i:Nat):Int) old)∧h.IsListIter it a i) where
 mem:=by simp
 obj:=fun i h st c hc=>by
  obtain ⟨⟨old,he⟩,⟨o1,e1,c1,d1⟩⟩:=st
  have oH :c=e∨c=it:=by simpa using hc
  rcases oH with z | z <;> subst z
  ·exact ⟨_,he,fun v z=>by cases z⟩
  ·exact ⟨_,e1,fun v z=>by rw [d1] at z;cases z⟩
 keep:=fun i h h' st k=>by
  obtain ⟨⟨old,he⟩,h1⟩:=st
  exact ⟨⟨old,k e (by simp) _ he⟩,h1.at fun o e=>k it (by simp) o e⟩
 item:=by
  intro X hP hw hK hc i pins s σ H E I hf st hg
  subst hP hw hK
  obtain ⟨⟨old,he⟩,h1⟩:=st
  obtain ⟨xs,x,qx,ex⟩:=hg
  obtain ⟨its,rv,p,_⟩:=I.list qx
  obtain ⟨u,hu,ru⟩:=rv.get ex
  refine wpAny_pyNext_enum_item he h1 p.isList (x:=u) (by simpa using hu) C' fun h' a1 a2 a3 a4 a5=> ?_
  refine ⟨_,rfl,wpAny_letOwnedTupleGo_enum (s:={s with heap:=h',toks:=s.toks+1}) a1 fun yZ b1 sb=> ?_⟩
  have nz:∀c,c≠e→∀o,h'.get? c=some o→yZ.get? c=some o:=fun c hc o q=>(sb.2 c hc).trans q
  have kk:∀b o,b∉[e,it]→s.heap.get? b=some o→yZ.get? b=some o:=fun b o hb q=>by
   have fZ :b≠e∧b≠it:=by simpa using hb
   exact nz b fZ.1 o (a5 b o fZ.1 fZ.2 q)
  have sz:∀c o,s.heap.get? c=some o→s.heap.objs.size≠c:=fun c o q=>abZ (Heap.lt_size q)
  have tz:s.heap.objs.size≠e:=sz _ _ he
  have hn:=I.bK.fresh (aao s.heap.objs.size)
  have I2:Inv X pins σ (upd H s.heap.objs.size (.tup [.int (i:Int),x])) {s with heap:=yZ,toks:=s.toks+1}:=
   Inv.nh I kk hf (aao _) (by show 2≤sizeLine;decide) (its:=[.int i s.toks,u]) (.cons ⟨_,rfl⟩ (.cons ru .nil)) ⟨_,nz _ tz _ a3,rfl,_,rfl⟩
  refine ⟨.ref s.heap.objs.size,_,I2,rfl,⟨s.heap.objs.size,x,fun xs' q=>by rw [I.fG q qx];exact ex,rfl,hn,rfl⟩,⟨⟨_,by exact b1⟩,a2.at fun o q=>nz _ (aaU C') o q⟩,fun b hb=> ?_⟩
  have ob:∃o,s.heap.get? b=some o:=by
   obtain ⟨o1,e1,_⟩:=h1
   have oH :b=e∨b=it:=by simpa using hb
   rcases oH with z | z <;> subst z
   ·exact ⟨_,he⟩
   ·exact ⟨_,e1⟩
  obtain ⟨o,q⟩:=ob
  rw [ak (aaU (sz _ _ q))]
  exact (hf b hb).1
 done:=by
  intro X hP hw hK hc i pins s σ H E I hf st hg
  subst hP hw hK
  obtain ⟨⟨old,he⟩,h1⟩:=st
  obtain ⟨xs,qx,ee⟩:=hg
  obtain ⟨its,rv,p,_⟩:=I.list qx
  have l1:=rv.length
  refine wpAny_pyNext_enum_end (I.ok.hd hc) he h1 p.isList (by simp;omega) fun h' kk=>⟨rfl,Inv.jI I (fun b o hb q=> ?_) hf⟩
  have fZ :b≠e∧b≠it:=by simpa using hb
  exact kk b o fZ.2 q
 self:=fun _ _ _ _ _ st h=>by
  obtain ⟨⟨old,he⟩,_⟩:=st
  exact wpAny_pyIter_enum he h
theorem boot_enumerate:bootBuiltins "enumerate"=some (.type "enumerate"):=by decide+kernel
section
variable {X:Cx}
inductive xB (K:Frag)(R:(It→Hp→Prop))(vs:List V)(H1:Hp):Prop where
 | mk (a:_) (_:vs=[.ref a]) (_:(∃xs,aT K H1 a xs)) (_:R (KH K a) H1):xB K R vs H1
def KI (K:Frag)(ta:TA):TI:=fun σ H R=>ta σ H fun vs H1=>xB K R vs H1
theorem sT {e1:Expr}{ta:TA}{p pos:Pos}{es:List Expr}{k:Nat}{qS:Pos}(hg:Gl X "enumerate")(hm:X.mg "enumerate"=none)(ha:PA X [e1] ta)(hs:starEach [e1] X.env=[(false,eval e1 X.env)]:=by rfl):
  PI X (.Tuple es k qS) (.Call (.Name "enumerate" p) [e1] [] pos) (KI X.K ta):=by
 intro pins s σ H R I h
 refine Call_ (gu I hg hm boot_enumerate (PyProof.Rows.callWith_type1 (b8 (ha pos pins s σ H _ I h) fun us s1 ⟨vs,H1,I1,r1,q1⟩=> ?_) hs rfl))
 obtain ⟨a,e,⟨xs,hx⟩,q⟩:=q1
 subst e
 cases r1 with
 | cons r rr=>
  cases rr
  cases r
  obtain ⟨its,rv,pl,_⟩:=I1.list hx
  refine call_enumerate_list pl.isList fun h' hE hI hsz hk=>wpAny_pyIter_enum (s:={s1 with heap:=h' }) hE ?_
  refine ⟨s1.heap.objs.size+1,[s1.heap.objs.size+1,s1.heap.objs.size],_,_,H1,rfl,I1.kept (t' :=s1.toks) hk,uG a _ _ (Nat.succ_ne_self _),⟨⟨_,hE⟩,hI⟩,fun c hc=> ?_,q⟩
  have oH :s1.heap.objs.size≤c:=by
   have:c=s1.heap.objs.size+1∨c=s1.heap.objs.size:=by simpa using hc
   simp only [Addr] at*
   omega
  exact I1.mS oH (I1.bK.fresh oH)
theorem any_range (bs:List Bool):(abF bs.length).any (fun i=>(bs[i]?).getD true)=bs.any id:=by
 rw [abr,abA,abA]
 constructor
 ·rintro ⟨i,hi,h⟩
  have KJ :i < bs.length:=abH.mp hi
  rw [gE KJ] at h
  exact ⟨bs[i],abo KJ,h⟩
 ·rintro ⟨b,hb,h⟩
  obtain ⟨i,hi⟩:=aas hb
  exact ⟨i,abH.mpr (be.mp hi).1,by rw [hi];exact h⟩
inductive KN (K:Frag)(xs:List V)(H:Hp)(Q:VK):Prop where
 | mk (p:Addr) (bs:List Bool) (_:xs=[.ref p]) (_:aT K H p (bs.map V.bl)) (_:Q (.bl (bs.any id)) H):KN K xs H Q
theorem uH (hc:X.calm=true):gj X (.builtin "any") (KN X.K):=by
 intro pins s σ H xs us Q I r h
 obtain ⟨p,bs,rfl,hq,q⟩:=h
 obtain ⟨u,rfl,r1⟩:=vals1 r
 cases r1
 obtain ⟨its,rv,pl,hz⟩:=I.list hq
 refine call_any_walk (wpAny_pyIter_list pl.isList ?_)
 have C':p≠s.heap.objs.size:=by obtain ⟨o,ho,_⟩:=pl.isList;exact aaN (Heap.lt_size ho)
 have I1:Inv X pins σ H {s with heap:=s.heap.push {cls:=.type "list_iterator",data:=.fields #[.ref p,.int 0 0]}}:=I.kept (t' :=s.toks) fun b o e=>Heap.get?_push_of_some _ e
 obtain ⟨f0,f1,f2,f3,f4,f5⟩:=I.mS (H' :=H) (aao s.heap.objs.size) (I.bK.fresh (aao _))
 have hl:its.length=bs.length:=by rw [← rv.length,ir]
 refine ⟨s.heap.objs.size,_,_,_,_,_,fun i=>(bs[i]?).getD true,rfl,Walks.list (A:=X.A.in1) (I.ok.hd hc) s.heap.objs.size p C' its.toArray,⟨⟨_,Heap.get?_push_size _ rfl,rfl,rfl⟩,pl.isList.at fun o e=>Heap.get?_push_of_some _ e⟩,?_,fun h' tk kk=> ?_⟩
 ·intro i v s' Q' E' hv lC
  have QT :its[i]? =some v:=by simpa using hv
  have hi:i < bs.length:=by rw [← hl];exact (be.mp QT).1
  have eb:(bs.map V.bl)[i]? =some (.bl bs[i]):=by rw [Wp,gE hi];rfl
  obtain ⟨u,eu,ru⟩:=rv.get eb
  rw [QT] at eu
  cases eu
  cases ru
  dsimp only at lC
  rw [gE hi] at lC
  exact wpAny_truthy_bool lC
 ·refine ⟨.bl (bs.any id),H,I1.turned (t' :=tk) (it:=s.heap.objs.size) (fun b o hb e=>kk b o (by simpa using hb) e) f0 f1 f3 f4 f5,?_,q⟩
  show _=_
  rw [← any_range bs,aaF,hl]
theorem KO:bootBuiltins "any"=some (.builtin "any"):=by decide+kernel
end
theorem pT {K:Frag}{a:Addr}{xs:List V}{g:TG}{tb:TS}{D:Ends}{σ:L2.St}{H:Hp}(Pv:Nat→L2.St→Hp→Prop)(h0:Pv 0 σ H)(hl:∀i σ H,i≤xs.length→Pv i σ H→aT K H a xs)
  (hs:∀i x σ H p,xs[i]? =some x→Pv i σ H→H p=none→g (.ref p) σ (upd H p (.tup [.int (i:Int),x])) fun σ2 H2=>tb {D with nx:=Pv (i+1),ct:=Pv (i+1),bk:=D.nx} σ2 H2) (hd:∀σ H,Pv xs.length σ H→D.nx σ H):
  ∃W:Nat→Nat→L2.St→Hp→Prop,(∃m,W 0 m σ H)∧∀i m σ H,W i m σ H→
   ((KH K a).stop i H∧D.nx σ H)∨((KH K a).go i H∧∃N:L2.St→Hp→Prop,(∀σ' H',N σ' H' →∃m',m' < m∧W (i+1) m' σ' H')∧∀x H',(KH K a).wG i H x H' →g x σ H' fun σ2 H2=>tb {D with nx:=N,ct:=N,bk:=D.nx} σ2 H2):=by
 refine ⟨fun i m σ H=>m=xs.length - i∧i≤xs.length∧Pv i σ H,⟨xs.length,by simp,aa4 _,h0⟩,?_⟩
 rintro i m σ H ⟨rfl,hi,p⟩
 have q:=hl i σ H hi p
 by_cases jV:i < xs.length
 ·have e:xs[i]? =some xs[i]:=gE jV
  refine .inr ⟨⟨xs,_,q,e⟩,Pv (i+1),fun σ' H' z=>⟨xs.length - (i+1),by omega,rfl,by omega,z⟩,fun x H' y=> ?_⟩
  obtain ⟨pp,x',y1,rfl,np,rfl⟩:=y
  exact hs i x' σ H pp (y1 xs q) p np
 ·have e:i=xs.length:=by omega
  subst e
  exact .inl ⟨⟨xs,q,aao _⟩,hd σ H p⟩
theorem iV {d:Addr}{o:Obj}{kvs:List (Key×V)}{g:TG}{tb:TS}{D:Ends}{σ:L2.St}{H:Hp}(Pv:Nat→L2.St→Hp→Prop)(h0:Pv 0 σ H)(hl:∀i σ H,i≤kvs.length→Pv i σ H→H d=some (.fD o (.dK kvs)))
  (hs:∀i k x σ H p,kvs[i]? =some (k,x)→Pv i σ H→H p=none→g (.ref p) σ (upd H p (.tup [kV k,x])) fun σ2 H2=>tb {D with nx:=Pv (i+1),ct:=Pv (i+1),bk:=D.nx} σ2 H2) (hd:∀σ H,Pv kvs.length σ H→D.nx σ H):
  ∃W:Nat→Nat→L2.St→Hp→Prop,(∃m,W 0 m σ H)∧∀i m σ H,W i m σ H→
   ((KG d o kvs).stop i H∧D.nx σ H)∨((KG d o kvs).go i H∧∃N:L2.St→Hp→Prop,(∀σ' H',N σ' H' →∃m',m' < m∧W (i+1) m' σ' H')∧∀x H',(KG d o kvs).wG i H x H' →g x σ H' fun σ2 H2=>tb {D with nx:=N,ct:=N,bk:=D.nx} σ2 H2):=by
 refine ⟨fun i m σ H=>m=kvs.length - i∧i≤kvs.length∧Pv i σ H,⟨kvs.length,by simp,aa4 _,h0⟩,?_⟩
 rintro i m σ H ⟨rfl,hi,p⟩
 have q:=hl i σ H hi p
 by_cases jV:i < kvs.length
 ·refine .inr ⟨⟨q,jV⟩,Pv (i+1),fun σ' H' z=>⟨kvs.length - (i+1),by omega,rfl,by omega,z⟩,fun x H' y=> ?_⟩
  obtain ⟨pp,k,x',y1,rfl,np,rfl⟩:=y
  exact hs i k x' σ H pp y1 p np
 ·have e:i=kvs.length:=by omega
  subst e
  exact .inl ⟨⟨q,aao _⟩,hd σ H p⟩
end Ty
set_option maxHeartbeats 4000000
namespace Ty
open PySem PySem.Spec PyProof.Rows L2
open Builtin.Int (intBits)
section
variable {X:Cx}
def xC (i j:Int):Prop:=intBits i+intBits j≤134217728
theorem d7:iI X (binaryOp .Mult) (rI xC fun i j=>.int (i*j)):=
 QS fun _ _ _ _ _ _ _ hc q=>mul_int q (IntMulOk.of_le (aao _) (aao _) hc)
theorem di {a b:Int}{m n:Nat}(h1:a.natAbs≤2^m)(h2:b.natAbs≤2^n)(h:m+n≤134000000):xC a b:=by
 have x1:=f7 h1 (aa6 m)
 have x2:=f7 h2 (aa6 n)
 unfold xC
 omega
end
theorem ar.cO {K:Frag}{H H' :Hp}{a:Addr}{xs:List V}(e:ar H H')(h:bQ K H a xs):bQ K H' a xs:=by
 rcases h with (h | ⟨o,h⟩) | h
 ·exact .inl (.inl (e _ _ h))
 ·exact .inl (.inr ⟨o,e _ _ h⟩)
 ·exact .inr h
section
variable {D:Addr}{te:TE}{cap:L2.St}{H1:Hp}{Q:VK}
theorem uI {K:Frag}{a b:Addr}{xs ys:List V}(Rel:Nat→V→Hp→Prop)(nD:H1 D=none)(hn:xs.length < sizeLine)(hl:ys.length=xs.length)(hX:∀H,ar H1 H→aT K H a xs)(hY:∀H,ar H1 H→aT K H b ys)
  (hR:∀i v H H' ys,H D=some (.lst ys)→bL D H H' →Rel i v H→Rel i v H')
  (he:∀i x y H (R:VK),xs[i]? =some x→ys[i]? =some y→ar H1 H→(∃ys,H D=some (.lst ys))→(∀v H6,ar H H6→Rel i v H6→R v H6)→te (some x::some y::cap) H R)
  (hd:∀zs H,zs.length=xs.length→(∀i v,zs[i]? =some v→Rel i v H)→ar H1 H→H D=some (.lst zs)→Q (.ref D) H):
  j6 D (wC K 2 (oP (dk 0) (oP (dk 1) ES))) iP te (QX K a b) (none::none::cap) H1 Q:=by
 refine ⟨fun i m σ zs H=>m=xs.length - i∧i≤xs.length∧(∃o o',σ=o::o' ::cap)∧(zs.length=i∧(∀i v,zs[i]? =some v→Rel i v H)∧ar H1 H)∧H D=some (.lst zs),⟨xs.length,by simp,aa4 _,⟨none,none,rfl⟩,⟨rfl,fun i v e=>by simp at e,fun b o e=>by rw [ak (ao e nD)];exact e⟩,ah⟩,?_⟩
 rintro i m σ zs H ⟨rfl,hi,⟨o,o',rfl⟩,⟨l,r,s⟩,hD⟩
 by_cases jV:i < xs.length
 ·have e1:xs[i]? =some xs[i]:=gE jV
  have e2:ys[i]? =some (ys[i]'(by omega)):=gE (by omega)
  refine .inr ⟨⟨xs,ys,_,_,hX H s,hY H s,e1,e2⟩,fun v H' y=> ?_⟩
  obtain ⟨p,x,y,q1,q2,rfl,np,rfl⟩:=y
  have e1:=q1 xs (hX H s)
  have e2:=q2 ys (hY H s)
  have sp:ar H (upd H p (.tup [x,y])):=fun b o e=>by rw [ak (ao e np)];exact e
  refine ⟨p,_,rfl,bQ.of ah,rfl,_,_,rfl,_,_,rfl,rfl,?_⟩
  unfold iP
  dsimp only
  rw [if_pos rfl]
  refine he i x y _ _ e1 e2 (fun b o e=>sp _ _ (s _ _ e)) ⟨zs,sp _ _ hD⟩ fun v H6 s6 rv=>⟨s6 _ _ (sp _ _ hD),by omega,xs.length - (i+1),by omega,rfl,by omega,⟨_,_,rfl⟩,⟨by simp [l],fun j u e=> ?_,fun b o e=> ?_⟩,ah⟩
  ·by_cases c:j < zs.length
   ·rw [aaq c] at e
    have ru:=hR j u H H6 zs hD (bL.of fun b o q=>s6 _ _ (sp _ _ q)) (r j u e)
    exact hR j u H6 _ zs (s6 _ _ (sp _ _ hD)) bL.upd ru
   ·rw [aat (by omega)] at e
    have ej:j=i:=by
     by_cases z:j - zs.length=0
     ·omega
     ·rw [aam (by simp;omega)] at e
      cases e
    subst ej
    have:v=u:=by
     rw [show j - zs.length=0 by omega] at e
     exact aaE e
    subst this
    exact hR j v H6 _ zs (s6 _ _ (sp _ _ hD)) bL.upd rv
  ·rw [ak (ao e nD)]
   exact s6 _ _ (sp _ _ (s _ _ e))
 ·have e:i=xs.length:=by omega
  subst e
  exact .inl ⟨⟨xs,ys,hX H s,hY H s,.inl (aao _)⟩,hd zs H l r s hD⟩
end
def iW (K:Frag)(H:Hp)(v:V)(q:Int×Int):Prop:=∃p,v=.ref p∧bQ K H p [.int q.1,.int q.2]
theorem iW.same {K:Frag}{H H' :Hp}{v:V}{q:Int×Int}(h:iW K H v q)(s:ar H H'):iW K H' v q:=by
 obtain ⟨p,e,k⟩:=h
 exact ⟨p,e,Ty.ar.cO s k⟩
def cv (K:Frag)(H:Hp)(us:List V)(qs:List (Int×Int)):Prop:=us.length=qs.length∧∀(i:Nat) (u:V) (q:Int×Int),us[i]? =some u→qs[i]? =some q→iW K H u q
theorem cv.same {K:Frag}{H H' :Hp}{us:List V}{qs:List (Int×Int)}(h:cv K H us qs)(s:ar H H'):cv K H' us qs:=⟨h.1,fun i u q e1 e2=>(h.2 i u q e1 e2).same s⟩
theorem cv.at {K:Frag}{H:Hp}{us:List V}{qs:List (Int×Int)}(h:cv K H us qs){i:Nat}{u:V}(e:us[i]? =some u):∃q,qs[i]? =some q∧iW K H u q:=by
 have hi:i < us.length:=(be.mp e).1
 have hl:=h.1
 have e2:qs[i]? =some (qs[i]'(by omega)):=gE (by omega)
 exact ⟨_,e2,h.2 i u _ e e2⟩
theorem cv.set {K:Frag}{H:Hp}{us:List V}{qs:List (Int×Int)}{j:Nat}{v:V}{q:Int×Int}(h:cv K H us qs)(n:iW K H v q):cv K H (us.set j v) (qs.set j q):=by
 refine ⟨by simp [h.1],fun i u q' e1 e2=> ?_⟩
 rw [aa3] at e1 e2
 by_cases c:j=i
 ·subst c
  rw [if_pos rfl] at e1 e2
  have l:=h.1
  by_cases hj:j < us.length
  ·rw [if_pos hj] at e1
   rw [if_pos (by omega)] at e2
   cases e1
   cases e2
   exact n
  ·rw [if_neg hj] at e1
   cases e1
 ·rw [if_neg c] at e1 e2
  exact h.2 i u q' e1 e2
def Sy (K:Frag)(H:Hp)(a:Addr)(qs:List (Int×Int)):Prop:=∃us,aT K H a us∧cv K H us qs
def sumTo:Nat→(Nat→Rat)→Rat
 | 0,_=>0
 | n+1,f=>f 0+sumTo n (fun i=>f (i+1))
theorem mi:∀(n:Nat) (f g:Nat→Rat),sumTo n (fun i=>f i+g i)=sumTo n f+sumTo n g
 | 0,_,_=>by simp [sumTo];grind
 | n+1,f,g=>by
  simp only [sumTo]
  rw [mi n (fun i=>f (i+1)) (fun i=>g (i+1))]
  grind
theorem mj (c:Rat):∀(n:Nat) (f:Nat→Rat),sumTo n (fun i=>c*f i)=c*sumTo n f
 | 0,_=>by simp [sumTo]
 | n+1,f=>by
  simp only [sumTo]
  rw [mj c n (fun i=>f (i+1))]
  grind
theorem fh:∀(n:Nat) (f:Nat→Rat),(∀i,f i=0)→sumTo n f=0
 | 0,_,_=>rfl
 | n+1,f,h=>by
  simp only [sumTo]
  rw [h 0,fh n (fun i=>f (i+1)) (fun i=>h (i+1))]
  grind
theorem ki:∀(n:Nat) (l:List Int) (z:Nat→Rat),l.length≤n→ev l z=sumTo n (fun j=>((l.getD j 0:Int):Rat)*z j)
 | n,[],z,_=>by
  rw [fh n _ (fun i=>by simp)]
  rfl
 | 0,_::_,_,h=>by simp at h
 | n+1,a::r,z,h=>by
  simp only [ev,sumTo]
  rw [ki n r (fun i=>z (i+1)) (by simpa using h)]
  simp
theorem sU (n:Nat)(z:Nat→Rat):∀(y:List Rat) (os:List (List Int)),(∀o∈os,o.length≤n)→(∀o∈os,ev o z=0)→sumTo n (fun j=>cT y os j*z j)=0
 | c::y,o::os,h1,h2=>by
  have ih:=sU n z y os (fun x hx=>h1 x (aav _ hx)) (fun x hx=>h2 x (aav _ hx))
  have e:=h2 o aax
  rw [ki n o z (h1 o aax)] at e
  have k:(fun j=>cT (c::y) (o::os) j*z j)=fun j=>c*(((o.getD j 0:Int):Rat)*z j)+cT y os j*z j:=by
   funext j
   simp only [cT]
   grind
  rw [k,mi,mj,e,ih]
  grind
 | [],os,_,_=>fh n _ (fun j=>by cases os <;> simp [cT])
 | _::_,[],_,_=>fh n _ (fun j=>by simp [cT])
theorem zV {os:List (List Int)}{l:List Int}{n:Nat}{z:Nat→Rat}(h:iU os l)(hl:l.length≤n)(ho:∀o∈os,o.length≤n)(hz:∀o∈os,ev o z=0):ev l z=0:=by
 obtain ⟨y,_,e⟩:=h
 rw [ki n l z hl, ← sU n z y os ho hz]
 congr 1
 funext j
 rw [e j]
theorem pU:∀{ts:List Int} {qs xs:List (Int×Int)} {d:Int×Int} {b:Int},jh ts (qs++[d]) b→xs.length=qs.length→ev ts (jk (xs.map vl))=(fg qs xs - vl d)*b
 | [],qs,xs,d,b,h,_=>by have:=h.1;simp at this
 | t::ts,[],[],d,b,h,_=>by
  have e:=h.2 0 t d rfl rfl
  have l:=h.1
  have:ts=[]:=by simpa using l
  subst this
  simp [ev,jk,fg]
  rw [e]
  grind
 | t::ts,q::qs,x::xs,d,b,h,hl=>by
  have e:=h.2 0 t q rfl rfl
  have ih:=pU (ts:=ts) (qs:=qs) (xs:=xs) (d:=d) (b:=b) h.tail (by simpa using hl)
  have ez:(fun i=>jk ((x::xs).map vl) (i+1))=jk (xs.map vl):=by
   funext i
   simp [jk]
  simp only [ev]
  rw [ez,ih,e]
  have e0:jk ((x::xs).map vl) 0=vl x:=by simp [jk]
  have ed:fg (q::qs) (x::xs)=vl q*vl x+fg qs xs:=by simp [fg]
  rw [e0,ed]
  grind
 | _::_,[],_::_,_,_,_,hl=>by simp at hl
 | _::_,_::_,[],_,_,_,hl=>by simp at hl
end Ty
set_option maxHeartbeats 4000000
namespace Ty
open PySem PySem.Spec PyProof.Rows L2
section
variable {X:Cx}
end
section
variable {D:Addr}{te:TE}{cap:L2.St}{H1:Hp}{Q:VK}
end
end Ty
set_option maxHeartbeats 4000000
namespace Ty
open PySem PySem.Spec PyProof.Rows L2
section
variable {X:Cx}
end
end Ty
set_option maxHeartbeats 4000000
namespace Ty
open PySem PySem.Spec PyProof.Rows L2
section
variable {X:Cx}
inductive DB (xs:List V)(H:Hp)(Q:VK):Prop where
 | mk (p:Addr) (kvs:List (Key×V)) (_:xs=[.ref p]) (_:Rd H p (.dK kvs)) (_:Q (.int (kvs.length:Int)) H):DB xs H Q
theorem ml:gj X (.builtin "len") DB:=by
 intro pins s σ H xs us Q I r h
 obtain ⟨p,kvs,rfl,hq,q⟩:=h
 obtain ⟨u,rfl,r1⟩:=vals1 r
 cases r1
 exact Kx I hq fun t s' I' =>⟨.int _,H,I',⟨t,rfl⟩,q⟩
end
section
variable {D:Addr}{te:TE}{cap:L2.St}{H1:Hp}{Q:VK}
end
end Ty
set_option maxHeartbeats 4000000
namespace Ty
open PySem PySem.Spec PyProof.Rows L2
section
variable {X:Cx}
theorem Inv.KP {pins:List (Addr×Obj)}{σ:L2.St}{H:Hp}{s:Shared}{d:Addr}{u:HO}{o:Obj}(I:Inv X pins σ H s)(e:H d=some (.fD o u))(n:∀o' u',X.H₀ d≠some (.fD o' u'))(nt:∀xs,u≠.tup xs):Inv X pins σ (upd H d u) s:=by
 have nx:∀b u',H b=some u' →b≠d→upd H d u b=some u' :=fun b u q n=>by rw [ak n];exact q
 have nn:∀b,H b=none→upd H d u b=none:=fun b q=>by rw [ak (fun z=>by rw [z,e] at q;cases q)];exact q
 refine ⟨I.ok,I.os,I.bare,⟨I.base.keep,I.base.slot,fun b ob q z hx=>nn b (I.base.free b ob q z hx),I.base.there,fun b xs q=> ?_,fun b ob u' q=> ?_,fun b ps q=> ?_⟩,I.loc,I.cell,nn _ I.free,fun x c q=>nn _ (I.fF x c q),fun p hp=> ?_,?_,I.len⟩
 ·have z:=I.base.mN b xs q
  exact nx b _ z fun y=>by rw [y,e] at z;cases z
 ·have z:=I.base.lh b ob u' q
  exact nx b _ z fun y=>by rw [y] at q;exact n _ _ q
 ·obtain ⟨m,z⟩:=I.base.mO b ps q
  exact ⟨m,nx b _ z fun y=>by rw [y,e] at z;cases z⟩
 ·obtain ⟨a1,a2,a3⟩:=I.pin p hp
  exact ⟨a1,nn _ a2,a3⟩
 ·have st:∀{b u'},cx X.prog X.w H s.heap b u' →cx X.prog X.w (upd H d u) s.heap b u' :=fun {b u'} k=>k.mM (fun _ _ _ z=>z) (fun c z=>nx c _ z fun y=>by rw [y,e] at z;cases z) fun c xs z=>nx c _ z fun y=>by rw [y,e] at z;cases z
  intro b u' q
  by_cases hb:b=d
  ·subst hb
   rw [ah] at q
   cases q
   exact st (I.bK b _ e).2
  ·rw [ak hb] at q
   exact st (I.bK b u' q)
def KQ (H0:Hp)(t:TS):TS:=fun D σ H=>t {D with nx:=fun σ' H' =>∃d o kvs,H' d=some (.fD o (.dK kvs))∧(∀o' u',H0 d≠some (.fD o' u'))∧D.nx σ' (upd H' d (.dK kvs))} σ H
theorem nH {st:Stmt}{t:TS}(h:PS X st t):PS X st (KQ X.H₀ t):=by
 intro pins s σ H D I q
 refine wpAny_mono (h pins s σ H _ I q) (fun f s' z=> ?_) fun _ _ z=>z
 cases f with
 | next=>
  obtain ⟨σ',H',I',d,o,kvs,e,n,k⟩:=z
  exact ⟨σ',_,Inv.KP I' e n (fun _ z=>nomatch z),k⟩
 | brk=>exact z
 | cont=>exact z
 | ret u=>exact z
def KR (d:Addr)(o:Obj)(kvs:List (Key×V)):It:=
 ⟨fun i H=>H d=some (.fD o (.dK kvs))∧i < kvs.length,
  fun i H v H' =>H' =H∧∃k x,kvs[i]? =some (k,x)∧v=kV k,
  fun i H=>H d=some (.fD o (.dK kvs))∧kvs.length≤i⟩
theorem uJ {P:Program}{w:World}{K:Frag}{tg:Expr}(d it:Addr)(o:Obj)(kvs:List (Key×V)){Jo:Array DictEntry}{ep:Nat}(he:o.data=.dict Jo ep):
  Turn P w K tg (KR d o kvs) [it] it (fun i h=>h.IsKeyIter it d i kvs.length ep) where
 mem:=by simp
 obj:=fun i h st b hb=>by
  have e:b=it:=by simpa using hb
  subst e
  obtain ⟨o,e,c,d⟩:=st
  exact ⟨o,e,fun v z=>by rw [d] at z;cases z⟩
 keep:=fun i h h' st k=>st.at fun o e=>k it (by simp) o e
 item:=by
  intro X hP hw hK hc i pins s σ H E I hf st hg
  subst hP hw hK
  obtain ⟨fz,hi⟩:=hg
  obtain ⟨hd,vs,rel,da,_⟩:=nE I.bK fz he
  have ek:kvs[i]? =some kvs[i]:=gE hi
  obtain ⟨⟨k',u⟩,ev,e1,ru⟩:=aF rel ek
  have lv:=rel.length
  rw [lv] at st
  obtain ⟨f0,f1,f2,f3,f4,f5⟩:=hf it (by simp)
  refine wpAny_pyNext_dict_item st da ev fun key h' wU wI sb=> ?_
  have I1:Inv X pins σ H {s with heap:=h' }:=I.turned (t' :=s.toks) (fun b o hb e=>(sb.2 b hb).trans e) f0 f1 f3 f4 f5
  rw [← lv] at wI
  obtain ⟨o',e',c',d'⟩:=id wI
  have uq :kvs[i].1=k' :=e1
  exact ⟨key,rfl,wH (s:={s with heap:=h' }) e' c' d' (by decide) ⟨kV kvs[i].1,H,I1,by rw [uq];exact nA wU,⟨rfl,kvs[i].1,kvs[i].2,ek,rfl⟩,wI,fun b hb=>(hf b hb).1⟩⟩
 done:=by
  intro X hP hw hK hc i pins s σ H E I hf st hg
  subst hP hw hK
  obtain ⟨fz,hi⟩:=hg
  obtain ⟨hd,vs,rel,da,_⟩:=nE I.bK fz he
  have lv:=rel.length
  rw [lv] at st
  obtain ⟨f0,f1,f2,f3,f4,f5⟩:=hf it (by simp)
  exact wpAny_pyNext_dict_end (I.ok.hd hc) st da (aam (by omega)) fun h' eb=>⟨rfl,I.turned (t' :=s.toks) (fun b o hb e=>eb b o hb e) f0 f1 f3 f4 f5⟩
 self:=fun _ _ _ _ _ st h=>wpAny_pyIter_keyiter st h
inductive xD (R:(It→Hp→Prop))(x:V)(H1:Hp):Prop where
 | mk (d kvs:_) (_:x=.ref d) (_:H1 d=some (.dK kvs)) (_:∀o,R (KR d o kvs) (upd H1 d (.fD o (.dK kvs)))):xD R x H1
def KS (te:TE):TI:=fun σ H R=>te σ H fun x H1=>xD R x H1
theorem zW {e:Expr}{te:TE}{tg:Expr}(ho:PE X e te):PI X tg e (KS te):=by
 intro pins s σ H R I h
 refine b8 (ho pins s σ H _ I h) fun v s1 ⟨x,H1,I1,r1,q1⟩=> ?_
 obtain ⟨d,kvs,rfl,e,q⟩:=q1
 cases r1
 obtain ⟨z,hd,vs,rel,o,Sx,ep,Jp,hx,g7,hk,hp,hn⟩:=me I1.bK e
 have da:s1.heap.DictAt (bC X.prog X.w) d vs ep:=⟨o,Sx,Jp,hx,g7,hk,hp,hn⟩
 have lv:=rel.length
 have I2:=Inv.freeze I1 e Jp
 refine wpAny_pyIter_dict hd da ?_
 have I3:Inv X pins σ (upd H1 d (.fD o (.dK kvs))) {s1 with heap:=s1.heap.push {cls:=.type "dict_keyiterator",data:=.fields #[.ref d,.int 0 0,.int vs.length 0,.int ep 0]}}:=I2.kept (t' :=s1.toks) fun b o e=>Heap.get?_push_of_some _ e
 refine ⟨s1.heap.objs.size,[s1.heap.objs.size],_,_,_,rfl,I3,uJ d _ o kvs g7,(show Heap.IsKeyIter _ _ d 0 kvs.length ep from ⟨_,Heap.get?_push_size _ rfl,rfl,by rw [lv];rfl⟩),fun b hb=> ?_,q o⟩
 have eb:b=s1.heap.objs.size:=by simpa using hb
 have le:s1.heap.objs.size≤b:=by rw [eb];exact aao _
 exact I2.mS le (I2.bK.fresh le)
theorem xE {d:Addr}{o:Obj}{kvs:List (Key×V)}{g:TG}{tb:TS}{D:Ends}{σ:L2.St}{H:Hp}(Pv:Nat→L2.St→Hp→Prop)(h0:Pv 0 σ H)(hl:∀i σ H,i≤kvs.length→Pv i σ H→H d=some (.fD o (.dK kvs)))
  (hs:∀i k x σ H,kvs[i]? =some (k,x)→Pv i σ H→g (kV k) σ H fun σ2 H2=>tb {D with nx:=Pv (i+1),ct:=Pv (i+1),bk:=D.nx} σ2 H2) (hd:∀σ H,Pv kvs.length σ H→D.nx σ H):
  ∃W:Nat→Nat→L2.St→Hp→Prop,(∃m,W 0 m σ H)∧∀i m σ H,W i m σ H→
   ((KR d o kvs).stop i H∧D.nx σ H)∨((KR d o kvs).go i H∧∃N:L2.St→Hp→Prop,(∀σ' H',N σ' H' →∃m',m' < m∧W (i+1) m' σ' H')∧∀x H',(KR d o kvs).wG i H x H' →g x σ H' fun σ2 H2=>tb {D with nx:=N,ct:=N,bk:=D.nx} σ2 H2):=by
 refine ⟨fun i m σ H=>m=kvs.length - i∧i≤kvs.length∧Pv i σ H,⟨kvs.length,by simp,aa4 _,h0⟩,?_⟩
 rintro i m σ H ⟨rfl,hi,p⟩
 have q:=hl i σ H hi p
 by_cases jV:i < kvs.length
 ·refine .inr ⟨⟨q,jV⟩,Pv (i+1),fun σ' H' z=>⟨kvs.length - (i+1),by omega,rfl,by omega,z⟩,fun x H' y=> ?_⟩
  obtain ⟨rfl,k,x',ek,rfl⟩:=y
  exact hs i k x' σ _ ek p
 ·have e:i=kvs.length:=by omega
  subst e
  exact .inl ⟨⟨q,aao _⟩,hd σ H p⟩
end
end Ty
set_option maxHeartbeats 4000000
namespace Ty
open PySem PySem.Spec PyProof.Rows L2
section
variable {prog:Program}{w:World}{KK:Type}[DecidableEq KK]{knd:KeyKind prog w KK}{A:Around}{E:Value→Shared→Prop}{s:Shared}
open MeetsSeq MeetsSeq2 MeetsSeq3 SeqRoads2 in
open MeetsSeq MeetsSeq2 MeetsSeq3 SeqRoads2 in
end
section
variable {X:Cx}
end
end Ty
set_option maxHeartbeats 4000000
namespace Ty
open PySem PySem.Spec PyProof.Rows L2
structure F_ (K:Frag)(x qual:Str)(st:Stmt)(f:Addr)(fd:FuncData):Prop where
 ex:∃(dV oc:Value) (od:Option Addr) (kV doc pm:Value) (an:Option Addr) (bx ct:Value) (kY:Array (Option Value)),
  fd=fnOf x qual (av st) (au st) (af st) dV kV doc pm an bx ct∧K.lookup f=some ⟨oc,od,.func fd,kY⟩∧codeIn K bx qual=true
 kp:keepIn K (.ref f)=true
section
variable {P:Program}{w:World}{K:Frag}{mg:Str→Option Value}{base:Heap}{CX:iJ}
theorem zX {x qual:Str}{st:Stmt}{f:Addr}{dV oc:Value}{od an:Option Addr}{kY:Array (Option Value)}{kV doc pm bx ct:Value}(l:K.lookup f=some ⟨oc,od,.func (fnOf x qual (av st) (au st) (af st) dV kV doc pm an bx ct),kY⟩)
  (c:codeIn K bx qual=true) (k:keepIn K (.ref f)=true):F_ K x qual st f (fnOf x qual (av st) (au st) (af st) dV kV doc pm an bx ct):=⟨⟨dV,oc,od,kV,doc,pm,an,bx,ct,kY,rfl,l,c⟩,k⟩
theorem cH {name qual:Str}{st:Stmt}{f:Addr}{fd:FuncData}{N ps:List Str}{k:Nat}{sp:Sp}(F:kZ K name qual st f fd)(S:aA N ps (af st))(len:∀vs H Q E,sp vs H Q E→vs.length=ps.length)
  (gS:∀(bx:Value) (A:Around) (outer:List Env) (s:Shared) (H:Hp) (vs:List V) (Q:VK) (E:XK),b7 k (A.deeper (envOfC qual (af st) s.heap.objs.size f bx))→sp vs H Q E→
   ∃t,PSs (cxr P w K mg base N qual (af st) f bx A outer s H E).so (au st) t∧t {nx:=fun _ H' =>Q .cb H',rt:=Q} (start N vs) H):cj P w K mg base (aX P w) (k+1) f fd ps sp:=by
 obtain ⟨oc,od,kV,doc,pm,an,bx,ct,kY,rfl,lk,lj⟩:=F.ex
 exact sH lk lj S len fun A outer s H vs Q E hr qF=>by
  obtain ⟨t,h,q⟩:=gS bx A outer s H vs Q E hr qF
  exact ⟨t,h.so,q⟩
theorem xF {name qual:Str}{st:Stmt}{f:Addr}{fd:FuncData}{N ps:List Str}{k:Nat}{sp:Sp}(F:F_ K name qual st f fd)(S:aA N ps (af st))(len:∀vs H Q E,sp vs H Q E→vs.length=ps.length)
  (gS:∀(bx:Value) (A:Around) (outer:List Env) (s:Shared) (H:Hp) (vs:List V) (Q:VK) (E:XK),b7 k (A.deeper (envOfC qual (af st) s.heap.objs.size f bx))→sp vs H Q E→
   ∃t,PSs (cxr P w K mg base N qual (af st) f bx A outer s H E).so (au st) t∧t {nx:=fun _ H' =>Q .cb H',rt:=Q} (start N vs) H):cj P w K mg base (aX P w) (k+1) f fd ps sp:=by
 obtain ⟨dV,oc,od,kV,doc,pm,an,bx,ct,kY,rfl,lk,lj⟩:=F.ex
 exact sH lk lj S len fun A outer s H vs Q E hr qF=>by
  obtain ⟨t,h,q⟩:=gS bx A outer s H vs Q E hr qF
  exact ⟨t,h.so,q⟩
end
structure rl (P:Program)(w:World)(K:Frag)(mg:Str→Option Value)(base:Heap)(CX:iJ)(k:Nat)(C:Addr)(m:Str)(ps:List Str)(ds:List Value)(sp:Sp):Prop where
 ex:∃(f:Addr) (fd:FuncData),qE K C∧Meth K C m f∧cj P w K mg base CX k f fd ps sp∧Binds K fd ps ds
section
variable {X:Cx}{CX:iJ}{k:Nat}{E:XK}{m:Str}{pos apos:Pos}{e o:Expr}{es:List Expr}{ta:TE}{t:TA}
inductive xG (P:Program)(w:World)(K:Frag)(mg:Str→Option Value)(base:Heap)(CX:iJ)(k:Nat)(m:Str)(E:XK)(t:TA)(σ:L2.St)(Q:VK)(x:V)(H1:Hp):Prop where
 | mk (a C dx fs ps sp:_) (_:x=.ref a) (_:H1 a=some (.ins C dx fs)) (_:fs.lookup m=none) (_:rl P w K mg base CX k C m ps [.none] sp) (_:t σ H1 fun vs H2=>sp (x::vs++[.cb]) H2 Q E):xG P w K mg base CX k m E t σ Q x H1
def KU (P:Program)(w:World)(K:Frag)(mg:Str→Option Value)(base:Heap)(CX:iJ)(k:Nat)(m:Str)(E:XK)(ta:TE)(t:TA):TE:=fun σ H Q=>ta σ H fun x H1=>xG P w K mg base CX k m E t σ Q x H1
theorem zY {pl:Sem Bool}(he:PE X o ta)(hr:b7 k X.A)(hx:Passes CX X E)(ha:PA X (e::es) t)
  (zi:starEach (e::es) X.env=(false,eval e X.env)::starEach es X.env:=by rfl) (sG:(backTo pos (starEach es X.env)).any (·.1)=false:=by rfl)
  (ht:eval (.Call (.Attribute o m apos) (e::es) [] pos) X.env=(do
   let ov ← eval o X.env
   standAt apos.atName
   let (f,first) ← holding [ov] (getMethod ov m pl)
   callWith pos f first (backTo pos (starEach (e::es) X.env)) (backToKw pos (keywordEach [] X.env))):=by rfl):
  PE X (.Call (.Attribute o m apos) (e::es) [] pos) (KU X.prog X.w X.K X.mg X.base CX k m E ta t):=by
 intro pins s σ H Q I h
 refine PySem.W.methodCall_KW (pl:=pl) (b8 (he pins s σ H _ I h) fun u s1 ⟨x,H1,I1,rx,a,C,dx,fs,ps,sp,ex,ea,l,M,q⟩=> ?_) ht
 subst ex
 obtain rfl:u=Value.ref a:=rx
 obtain ⟨f,fd,c,hm,F,hb⟩:=M.ex
 refine gw I1 ea c hm l ?_
 refine PySem.W.callWith_K (first:=[.ref a]) (h₀:=X.base) I.ok.mod.Je hm.kp (b8 (ha pos pins s1 σ H1 _ I1 q) fun us s2 ⟨vs,H2,I2,r,q2⟩=>⟨I2.mQ,?_⟩) zi sG
 exact mX (us:=.ref a::us) (vs:=.ref a::vs) (dvs:=[.cb]) F hr hb (.cons rfl .nil) hx I2 (.cons rfl r) q2
end
theorem bY {κ:Type}[DecidableEq κ]{k:κ}:∀{kvs:List (κ×V)},k∉kvs.map (·.1)→bV kvs k=none
 | [],_=>rfl
 | p::r,h=>by
  rw [aaj,aaJ,not_or] at h
  rw [bh (fun e=>h.1 e.symm)]
  exact bY h.2
theorem iX {κ:Type}[DecidableEq κ]{k:κ}:∀{kvs:List (κ×V)},k∈kvs.map (·.1)→∃v,bV kvs k=some v
 | p::r,h=>by
  by_cases e:p.1=k
  ·exact ⟨_,bH e⟩
  ·rw [bh e]
   rw [aaj,aaJ] at h
   rcases h with h | h
   ·exact absurd h.symm e
   ·exact iX h
structure xH (K:Frag)(C:Addr):Prop where
 cls:qE K C
 pl:dD K C "pin_places"
 wy:dD K C "pin_ways"
 br:dD K C "bar_ends"
abbrev frF (pP pW pB:Addr):List (Str×V):=[("pin_places",.ref pP),("pin_ways",.ref pW),("bar_ends",.ref pB)]
abbrev Pt:=(Int×Int)×(Int×Int)
abbrev cX (p:Pt):List Da:=[.t [.v (.int p.1.1),.v (.int p.1.2)],.t [.v (.int p.2.1),.v (.int p.2.2)]]
def bf (H H' :Hp):Prop:=∀b xs,Rd H b (.tup xs)→Rd H' b (.tup xs)
theorem bf.of {H H' :Hp}(s:ar H H'):bf H H' :=fun b xs e=>by
 rcases e with e | ⟨o,e⟩
 ·exact .inl (s _ _ e)
 ·exact .inr ⟨o,s _ _ e⟩
theorem bf.trans {H H1 H2:Hp}(a:bf H H1)(b:bf H1 H2):bf H H2:=fun c xs e=>b c xs (a c xs e)
theorem bf.dict {H:Hp}{d:Addr}{kvs:List (Key×V)}{o:HO}(e:H d=some (.dK kvs)):bf H (upd H d o):=fun b xs r=>by
 rcases r with r | ⟨o,r⟩
 ·exact .inl (by rw [ak (fun z=>by rw [z,e] at r;cases r)];exact r)
 ·exact .inr ⟨o,by rw [ak (fun z=>by rw [z,e] at r;cases r)];exact r⟩
theorem bf.list {H:Hp}{d:Addr}{xs:List V}{o:HO}(e:H d=some (.lst xs)):bf H (upd H d o):=fun b xs r=>by
 rcases r with r | ⟨o,r⟩
 ·exact .inl (by rw [ak (fun z=>by rw [z,e] at r;cases r)];exact r)
 ·exact .inr ⟨o,by rw [ak (fun z=>by rw [z,e] at r;cases r)];exact r⟩
theorem bf.cO {K:Frag}{H H' :Hp}(s:bf H H'){p:Addr}{xs:List V}(q:bQ K H p xs):bQ K H' p xs:=by
 rcases q with q | q
 ·exact .inl (s _ _ q)
 ·exact .inr q
theorem iW.aL {K:Frag}{H H' :Hp}{v:V}{q:Int×Int}(h:iW K H v q)(s:bf H H'):iW K H' v q:=by
 obtain ⟨p,e,k⟩:=h
 exact ⟨p,e,s.cO k⟩
def Spot (K:Frag)(H:Hp)(v:V)(p:Pt):Prop:=∃a u1 u2,v=.ref a∧bQ K H a [u1,u2]∧iW K H u1 p.1∧iW K H u2 p.2
theorem Spot.aL {K:Frag}{H H' :Hp}{v:V}{p:Pt}(h:Spot K H v p)(s:bf H H'):Spot K H' v p:=by
 obtain ⟨a,u1,u2,e,h1,h2,h3⟩:=h
 exact ⟨a,u1,u2,e,s.cO h1,h2.aL s,h3.aL s⟩
theorem sV {K:Frag}{H:Hp}{v:V}{q:Int×Int}(h:iW K H v q):Is K H (.t [.v (.int q.1),.v (.int q.2)]) v:=by
 obtain ⟨p,rfl,e⟩:=h
 unfold Is
 refine ⟨p,_,rfl,e,?_⟩
 unfold gA
 refine ⟨by unfold Is;exact ⟨rfl,rfl⟩,?_⟩
 unfold gA
 refine ⟨by unfold Is;exact ⟨rfl,rfl⟩,?_⟩
 unfold gA
 trivial
theorem Spot.is {K:Frag}{H:Hp}{v:V}{p:Pt}(h:Spot K H v p):Is K H (.t (cX p)) v:=by
 obtain ⟨a,u1,u2,rfl,h1,h2,h3⟩:=h
 unfold Is
 refine ⟨a,_,rfl,h1,?_⟩
 unfold gA
 refine ⟨sV h2,?_⟩
 unfold gA
 refine ⟨sV h3,?_⟩
 unfold gA
 trivial
theorem pV (p q:Pt):dG (cX p) (cX q)=decide (p=q):=by
 have e:dG (cX p) (cX q)=((p.1.1==q.1.1 && (p.1.2==q.1.2 && true)) && ((p.2.1==q.2.1 && (p.2.2==q.2.2 && true)) && true)):=by
  simp only [cX,dG,gY,jg]
 rw [e]
 obtain ⟨⟨a,b⟩,c,d⟩:=p
 obtain ⟨⟨a',b'⟩,c',d'⟩:=q
 by_cases h:a=a' <;> by_cases h1:b=b' <;> by_cases h2:c=c' <;> by_cases h3:d=d' <;> simp [h,h1,h2,h3,Prod.mk.injEq]
theorem jm (p q:Pt):dH (cX p) (cX q)=true:=by simp [cX,dH,alike]
theorem mm (p:Pt):lF (cX p)≤60:=by simp [cX,lF,dep]
structure dZ (K:Frag)(H:Hp)(C a dx pP pW pB:Addr)(ps:List (Str×Pt))(bs:List (Str×Str×Str))(kP kW kB:List (Key×V)):Prop where
 obj:H a=some (.ins C dx (frF pP pW pB))
 pl:H pP=some (.dK kP)
 wy:H pW=some (.dK kW)
 br:H pB=some (.dK kB)
 ne1:pP≠pW
 ne2:pP≠pB
 ne3:pW≠pB
 rp:Paired (fun (p:Str×Pt) (kv:Key×V)=>kv.1=.inr p.1∧Spot K H kv.2 p.2) ps kP
 rb:Paired (fun (b:Str×Str×Str) (kv:Key×V)=>kv.1=.inr b.1∧∃p,kv.2=.ref p∧Rd H p (.tup [.str b.2.1,.str b.2.2])) bs kB
section
variable {K:Frag}{H H' :Hp}{C a dx pP pW pB:Addr}{ps:List (Str×Pt)}{bs:List (Str×Str×Str)}{kP kW kB:List (Key×V)}
theorem d9 {α:Type}{R:(Str×α)→(Key×V)→Prop}:∀{l:List (Str×α)} {kvs:List (Key×V)},Paired (fun b kv=>kv.1=.inr b.1∧R b kv) l kvs→kvs.map (·.1)=l.map (fun b=>(aaT b.1:Key))
 | _,_,.nil=>rfl
 | _,_,.cons h t=>by rw [aaj,aaj,h.1,d9 t]
theorem d_ {l:List Str}{x:Str}:(aaT x:Key)∈l.map (fun b=>(aaT b:Key)) ↔ x∈l:=by
 constructor
 ·intro h
  obtain ⟨y,hy,e⟩:=aal.mp h
  exact aa9 e▸hy
 ·exact fun h=>aal.mpr ⟨x,h,rfl⟩
theorem dZ.xI (R:dZ K H C a dx pP pW pB ps bs kP kW kB)(s:bf H H')(h1:H' a=H a)(h2:H' pP=H pP)(h3:H' pW=H pW)(h4:H' pB=H pB):dZ K H' C a dx pP pW pB ps bs kP kW kB:=
 ⟨h1.trans R.obj,h2.trans R.pl,h3.trans R.wy,h4.trans R.br,R.ne1,R.ne2,R.ne3,Paired.bU R.rp fun _ _ h=>⟨h.1,h.2.aL s⟩,Paired.bU R.rb fun _ _ h=>⟨h.1,by obtain ⟨p,e,k⟩:=h.2;exact ⟨p,e,s _ _ k⟩⟩⟩
theorem dZ.same (R:dZ K H C a dx pP pW pB ps bs kP kW kB)(s:ar H H'):dZ K H' C a dx pP pW pB ps bs kP kW kB:=
 R.xI (.of s) ((s _ _ R.obj).trans R.obj.symm) ((s _ _ R.pl).trans R.pl.symm) ((s _ _ R.wy).trans R.wy.symm) ((s _ _ R.br).trans R.br.symm)
theorem dZ.sW (R:dZ K H C a dx pP pW pB ps bs kP kW kB):kB.map (·.1)=(bs.map (·.1)).map (fun b=>(aaT b:Key)):=by
 rw [d9 R.rb,aaI]
 rfl
theorem dZ.sX (R:dZ K H C a dx pP pW pB ps bs kP kW kB):kP.map (·.1)=(ps.map (·.1)).map (fun b=>(aaT b:Key)):=by
 rw [d9 R.rp,aaI]
 rfl
theorem dZ.bar (R:dZ K H C a dx pP pW pB ps bs kP kW kB)(x:Str):(bV kB (.inr x)).isSome=decide (x∈bs.map (·.1)):=by
 by_cases h:x∈bs.map (·.1)
 ·obtain ⟨v,e⟩:=iX (kvs:=kB) (k:=.inr x) (by rw [R.sW];exact d_.mpr h)
  rw [e,decide_eq_true h]
  rfl
 ·rw [bY (by rw [R.sW];exact fun z=>h (d_.mp z)),decide_eq_false h]
  rfl
theorem dZ.pin (R:dZ K H C a dx pP pW pB ps bs kP kW kB)(x:Str):(bV kP (.inr x)).isSome=decide (x∈ps.map (·.1)):=by
 by_cases h:x∈ps.map (·.1)
 ·obtain ⟨v,e⟩:=iX (kvs:=kP) (k:=.inr x) (by rw [R.sX];exact d_.mpr h)
  rw [e,decide_eq_true h]
  rfl
 ·rw [bY (by rw [R.sX];exact fun z=>h (d_.mp z)),decide_eq_false h]
  rfl
theorem dZ.ab (R:dZ K H C a dx pP pW pB ps bs kP kW kB):a≠pP∧a≠pW∧a≠pB:=
 ⟨fun z=>(by have h:=R.obj;rw [z,R.pl] at h;cases h),fun z=>(by have h:=R.obj;rw [z,R.wy] at h;cases h),fun z=>(by have h:=R.obj;rw [z,R.br] at h;cases h)⟩
theorem dZ.F' (R:dZ K H C a dx pP pW pB ps bs kP kW kB){x one other:Str}{t:Addr}(ht:Rd H t (.tup [.str one,.str other])):
  dZ K (upd H pB (.dK (kB++[(.inr x,.ref t)]))) C a dx pP pW pB ps (bs++[(x,one,other)]) kP kW (kB++[(.inr x,.ref t)]):=by
 have s:bf H (upd H pB (.dK (kB++[(.inr x,.ref t)]))):=.dict R.br
 exact ⟨by rw [ak R.ab.2.2];exact R.obj,by rw [ak R.ne2];exact R.pl,by rw [ak R.ne3];exact R.wy,ah,R.ne1,R.ne2,R.ne3,Paired.bU R.rp fun _ _ h=>⟨h.1,h.2.aL s⟩,
  Paired.snoc (Paired.bU R.rb fun _ _ h=>⟨h.1,by obtain ⟨p,e,k⟩:=h.2;exact ⟨p,e,s _ _ k⟩⟩) ⟨rfl,t,rfl,s _ _ ht⟩⟩
theorem bB {α β:Type}{R:α→β→Prop}:∀{l:List α} {m:List β},Paired R l m→Paired (fun b a=>R a b) m l
 | _,_,.nil=>.nil
 | _,_,.cons h t=>.cons h (bB t)
theorem dZ.GB (R:dZ K H C a dx pP pW pB ps bs kP kW kB){x:Str}{p:Pt}{t:Addr}(ht:Spot K H (.ref t) p):
  dZ K (upd H pP (.dK (kP++[(.inr x,.ref t)]))) C a dx pP pW pB (ps++[(x,p)]) bs (kP++[(.inr x,.ref t)]) kW kB:=by
 have s:bf H (upd H pP (.dK (kP++[(.inr x,.ref t)]))):=.dict R.pl
 exact ⟨by rw [ak R.ab.1];exact R.obj,ah,by rw [ak (aaU R.ne1)];exact R.wy,by rw [ak (aaU R.ne2)];exact R.br,R.ne1,R.ne2,R.ne3,
  Paired.snoc (Paired.bU R.rp fun _ _ h=>⟨h.1,h.2.aL s⟩) ⟨rfl,ht.aL s⟩,Paired.bU R.rb fun _ _ h=>⟨h.1,by obtain ⟨p,e,k⟩:=h.2;exact ⟨p,e,s _ _ k⟩⟩⟩
theorem dZ.sY (R:dZ K H C a dx pP pW pB ps bs kP kW kB)(pZ :List (Key×V)):dZ K (upd H pW (.dK pZ)) C a dx pP pW pB ps bs kP pZ kB:=by
 have s:bf H (upd H pW (.dK pZ)):=.dict R.wy
 exact ⟨by rw [ak R.ab.2.1];exact R.obj,by rw [ak R.ne1];exact R.pl,ah,by rw [ak (aaU R.ne3)];exact R.br,R.ne1,R.ne2,R.ne3,
  Paired.bU R.rp fun _ _ h=>⟨h.1,h.2.aL s⟩,Paired.bU R.rb fun _ _ h=>⟨h.1,by obtain ⟨p,e,k⟩:=h.2;exact ⟨p,e,s _ _ k⟩⟩⟩
theorem mq (xs:List Str):(xs.map V.str).all fM=true:=by
 rw [List.all_map,List.all_eq_true]
 exact fun _ _=>rfl
theorem kj {x:Str}:∀(xs:List Str),Ji (.str x) (xs.map V.str)=decide (x∈xs)
 | []=>rfl
 | y::ys=>by
  have ih:=kj (x:=x) ys
  unfold Ji at ih ⊢
  rw [aaj,abC,ih]
  by_cases e:y=x
  ·subst e
   simp [jg]
  ·have e' :¬ x=y:=fun z=>e z.symm
   simp [jg,e,e']
end
end Ty
set_option maxHeartbeats 4000000
namespace Ty
open PySem PySem.Spec PyProof.Rows L2
open Builtin.Int (intBits)
def qr (r:Rat):Int×Int:=(r.num,(r.den:Int))
theorem b9 (r:Rat):0 < (qr r).2:=by
 have:=r.den_pos
 show (0:Int) < (r.den:Int)
 omega
theorem km (r:Rat):aa0 (qr r).1 (qr r).2=1:=by
 have:=r.reduced
 show aa0 r.num (r.den:Int)=1
 unfold aa0
 simpa [Nat.Coprime] using this
theorem dm (r:Rat):vl (qr r)=r:=by
 show (r.num:Rat) / ((r.den:Int):Rat)=r
 rw [← Rat.divInt_eq_div]
 exact Rat.num_divInt_den r
theorem mw {q:Int×Int}(h:0 < q.2)(g:aa0 q.1 q.2=1):q=qr (vl q):=FP h (b9 _) g (km _) (dm _).symm
theorem dN {t b:Int}(h:b≠0):low t b=qr ((t:Rat) / (b:Rat)):=by
 rw [← nj h]
 exact mw (gX h) (jG h)
theorem gD {a b:Rat}(h:qr a=qr b):a=b:=by
 rw [← dm a, ← dm b,h]
theorem kq (i:Int):qr (i:Rat)=(i,1):=by
 have e:(i,(1:Int))=qr (vl (i,1)):=mw (by show (0:Int) < 1;decide) (by show aa0 i 1=1;simp)
 have v:vl (i,(1:Int))=(i:Rat):=by
  unfold vl
  show (i:Rat) / ((1:Int):Rat)=i
  have:((1:Int):Rat)=1:=by rfl
  rw [this]
  grind
 rw [e,v]
theorem kr (r:Rat):qr (-r)=(-(qr r).1,(qr r).2):=by
 have e:((-(qr r).1,(qr r).2):Int×Int)=qr (vl (-(qr r).1,(qr r).2)):=mw (b9 r) (by
  have:=km r
  show aa0 (-(qr r).1) (qr r).2=1
  rw [Int.neg_gcd]
  exact this)
 have v:vl (-(qr r).1,(qr r).2)= -r:=by
  have h:=dm r
  unfold vl at h ⊢
  push_cast
  rw [← h]
  grind
 rw [e,v]
theorem p_ {r:Rat}:((qr r).2:Rat)≠0:=cL (aaV (b9 r))
theorem GG (a b:Rat):low ((qr a).1*(qr b).2+(qr b).1*(qr a).2) ((qr a).2*(qr b).2)=qr (a+b):=by
 have ha:=b9 a
 have hb:=b9 b
 rw [dN (aaV (abm ha hb))]
 have e1:=dm a
 have e2:=dm b
 have z1:=p_ (r:=a)
 have z2:=p_ (r:=b)
 unfold vl at e1 e2
 congr 1
 push_cast
 grind
theorem xJ (a b:Rat):low ((qr a).1*(qr b).2 - (qr b).1*(qr a).2) ((qr a).2*(qr b).2)=qr (a - b):=by
 have ha:=b9 a
 have hb:=b9 b
 rw [dN (aaV (abm ha hb))]
 have e1:=dm a
 have e2:=dm b
 have z1:=p_ (r:=a)
 have z2:=p_ (r:=b)
 unfold vl at e1 e2
 congr 1
 push_cast
 grind
theorem GH (a b:Rat):low ((qr a).1*(qr b).1) ((qr a).2*(qr b).2)=qr (a*b):=by
 have ha:=b9 a
 have hb:=b9 b
 rw [dN (aaV (abm ha hb))]
 have e1:=dm a
 have e2:=dm b
 have z1:=p_ (r:=a)
 have z2:=p_ (r:=b)
 unfold vl at e1 e2
 congr 1
 push_cast
 grind
structure Sz (k:Nat)(r:Rat):Prop where
 top:intBits (qr r).1≤k
 bot:intBits (qr r).2≤k
theorem Sz.up {k l:Nat}{r:Rat}(h:Sz k r)(kl:k≤l):Sz l r:=⟨aak h.top kl,aak h.bot kl⟩
theorem uK {a b:Int}{k:Nat}(ha:intBits a≤k)(hb:intBits b≤k):intBits (a+b)≤k+1:=by
 rw [intBits_le_iff] at ha hb ⊢
 have:=ab8 a b
 rw [ab0]
 omega
theorem uL {a b:Int}{k:Nat}(ha:intBits a≤k)(hb:intBits b≤k):intBits (a - b)≤k+1:=by
 rw [intBits_le_iff] at ha hb ⊢
 have:=Int.natAbs_sub_le a b
 rw [ab0]
 omega
theorem rm {t b:Int}{k:Nat}(hb:b≠0)(h1:intBits t≤k)(h2:intBits b≤k):Sz k ((t:Rat) / (b:Rat)):=by
 rw [← nj hb]
 have e:=mw (gX (t:=t) hb) (jG hb)
 exact ⟨by rw [← e];exact intBits_le_of_natAbs (j0 hb) h1,by rw [← e];exact intBits_le_of_natAbs (j3 hb) h2⟩
theorem xK {t b:Int}{k:Nat}{r:Rat}(hb:b≠0)(e:low t b=qr r)(h1:intBits t≤k)(h2:intBits b≤k):Sz k r:=by
 have z:=dN (t:=t) hb
 rw [z] at e
 have:=gD e
 rw [← this]
 exact rm hb h1 h2
theorem Sz.add {k l:Nat}{a b:Rat}(ha:Sz k a)(hb:Sz l b):Sz (k+l+1) (a+b):=
 xK (aaV (abm (b9 a) (b9 b))) (GG a b) (uK (intBits_mul_le ha.top hb.bot) (by rw [af_];exact intBits_mul_le hb.top ha.bot)) (ako (intBits_mul_le ha.bot hb.bot))
theorem Sz.sub {k l:Nat}{a b:Rat}(ha:Sz k a)(hb:Sz l b):Sz (k+l+1) (a - b):=
 xK (aaV (abm (b9 a) (b9 b))) (xJ a b) (uL (intBits_mul_le ha.top hb.bot) (by rw [af_];exact intBits_mul_le hb.top ha.bot)) (ako (intBits_mul_le ha.bot hb.bot))
theorem Sz.mul {k l:Nat}{a b:Rat}(ha:Sz k a)(hb:Sz l b):Sz (k+l) (a*b):=
 xK (aaV (abm (b9 a) (b9 b))) (GH a b) (intBits_mul_le ha.top hb.top) (intBits_mul_le ha.bot hb.bot)
theorem Sz.neg {k:Nat}{a:Rat}(ha:Sz k a):Sz k (-a):=by
 refine ⟨?_,?_⟩
 ·rw [kr]
  have:=ha.top
  rw [intBits_le_iff] at this ⊢
  show (-(qr a).1).natAbs < 2^k
  rw [ab3]
  exact this
 ·rw [kr]
  exact ha.bot
theorem rn {i:Int}{k:Nat}(h:i.natAbs < 2^k)(hk:1≤k):Sz k (i:Rat):=by
 refine ⟨?_,?_⟩
 ·rw [kq]
  exact intBits_le_iff.mpr h
 ·rw [kq]
  refine intBits_le_iff.mpr ?_
  show 1 < 2^k
  exact Nat.one_lt_two_pow (by omega)
def dq (K:Frag)(H:Hp)(v:V)(r:Rat):Prop:=iW K H v (qr r)
def dC (K:Frag)(H:Hp)(v:V)(p:Rat×Rat):Prop:=∃a u1 u2,v=.ref a∧bQ K H a [u1,u2]∧dq K H u1 p.1∧dq K H u2 p.2
section
variable {K:Frag}{H H' :Hp}{v:V}{r:Rat}{p:Rat×Rat}
theorem dq.aL (h:dq K H v r)(s:bf H H'):dq K H' v r:=iW.aL h s
theorem dq.same (h:dq K H v r)(s:ar H H'):dq K H' v r:=iW.same h s
theorem dC.aL (h:dC K H v p)(s:bf H H'):dC K H' v p:=by
 obtain ⟨a,u1,u2,e,h1,h2,h3⟩:=h
 exact ⟨a,u1,u2,e,s.cO h1,h2.aL s,h3.aL s⟩
theorem dC.same (h:dC K H v p)(s:ar H H'):dC K H' v p:=h.aL (.of s)
abbrev qa (p:Rat×Rat):Pt:=(qr p.1,qr p.2)
theorem dC.KW (h:dC K H v p):Spot K H v (qa p):=h
def gd (K:Frag)(H:Hp)(us:List V)(ps:List (Rat×Rat)):Prop:=Paired (dC K H) us ps
theorem gd.aL {us:List V}{ps:List (Rat×Rat)}(h:gd K H us ps)(s:bf H H'):gd K H' us ps:=Paired.bU h fun _ _ z=>z.aL s
theorem gd.same {us:List V}{ps:List (Rat×Rat)}(h:gd K H us ps)(s:ar H H'):gd K H' us ps:=h.aL (.of s)
end
section
variable {X:Cx}
theorem sZ {pins:List (Addr×Obj)}{σ:L2.St}{H:Hp}{s:Shared}{v:V}{p q:Rat×Rat}(I:Inv X pins σ H s)(h1:dC X.K H v p)(h2:dC X.K H v q):p=q:=by
 obtain ⟨a,u1,u2,rfl,t1,⟨b1,rfl,n1⟩,b2,rfl,n2⟩:=h1
 obtain ⟨a',w1,w2,e,t2,⟨c1,rfl,m1⟩,c2,rfl,m2⟩:=h2
 cases e
 cases I.fY t1 t2
 have e1:=I.fY n1 m1
 have e2:=I.fY n2 m2
 simp only [List.cons.injEq,V.int.injEq,and_true] at e1 e2
 exact acb (gD (acb e1.1 e1.2)) (gD (acb e2.1 e2.2))
def KY (K:Frag)(neg:Bool):R2:=fun x y H Q=>∃p l us ps,y=.ref l∧aT K H l us∧dC K H x p∧gd K H us ps∧Q (.bl (if neg then !decide (p∈ps) else decide (p∈ps))) H
theorem KZ {pins:List (Addr×Obj)}{σ:L2.St}{H:Hp}{s:Shared}{A:Around}{x:V}{v:Value}{p:Rat×Rat}{us:List V}{its:List Value}{ps:List (Rat×Rat)}(I:Inv X pins σ H s)(hu:A.units+60 < cLine)(hx:dC X.K H x p)(rx:RelV x v)(hp:gd X.K H us ps)(rv:Vals us its):
  ∃e:Value→Bool,(∀y,y∈its.toArray→SeqAt.EqAt A s y v (e y))∧its.toArray.any e=decide (p∈ps):=by
 have key:∀(j:Nat) (y:Value),its[j]? =some y→∃u q,us[j]? =some u∧ps[j]? =some q∧RelV u y∧dC X.K H u q:=fun j y ey=>by
  obtain ⟨u,eu,ru⟩:=aF (bB rv) ey
  obtain ⟨q,eq,hq⟩:=aF hp eu
  exact ⟨u,q,eu,eq,ru,hq⟩
 refine ⟨fun y=> @decide (∃u q,RelV u y∧dC X.K H u q∧q=p) (aa' _),fun y hy=> ?_,?_⟩
 ·obtain ⟨j,hj,ey⟩:=aa5.mp (by simpa using hy:y∈its)
  obtain ⟨u,q,eu,eq,ru,hq⟩:=key j y (by rw [gE hj,ey])
  have z:=sN (A:=A) I (.t (cX (qa q))) (.t (cX (qa p))) u x y v hq.KW.is hx.KW.is (by unfold alike;exact jm _ _) ru rx (by have:=mm (qa q);unfold dep;simp only [cX,lF,dep] at this ⊢;omega)
  have e:gY (.t (cX (qa q))) (.t (cX (qa p)))= @decide (∃u q,RelV u y∧dC X.K H u q∧q=p) (aa' _):=by
   unfold gY
   rw [pV]
   by_cases c:q=p
   ·subst c
    rw [decide_eq_true rfl]
    symm
    exact @decide_eq_true _ (aa' _) ⟨u,q,ru,hq,rfl⟩
   ·rw [decide_eq_false (fun z=>c (acb (gD (congrArg alg z)) (gD (congrArg alh z))))]
    symm
    refine @decide_eq_false _ (aa' _) fun ⟨u',q',SA,lC,e'⟩=> ?_
    obtain ⟨a,_,_,rfl,_⟩:=id hq
    obtain ⟨a',_,_,rfl,_⟩:=id lC
    have r1:y=Value.ref a:=ru
    have r2:y=Value.ref a' :=SA
    rw [r1] at r2
    cases r2
    exact c ((sZ I hq lC).trans e')
  rw [e] at z
  exact z
 ·rw [abr,decide_eq_true_iff]
  simp only [List.any_toArray,abA]
  constructor
  ·rintro ⟨y,hy,ey⟩
   obtain ⟨j,hj,ej⟩:=aa5.mp hy
   obtain ⟨u,q,eu,eq,ru,hq⟩:=key j y (by rw [gE hj,ej])
   obtain ⟨u',q',SA,lC,e'⟩:= @of_decide_eq_true _ (aa' _) ey
   obtain ⟨a,_,_,rfl,_⟩:=id hq
   obtain ⟨a',_,_,rfl,_⟩:=id lC
   have r1:y=Value.ref a:=ru
   have r2:y=Value.ref a' :=SA
   rw [r1] at r2
   cases r2
   rw [← e', ← sZ I hq lC]
   exact aai eq
  ·intro hm
   obtain ⟨j,hj,ej⟩:=aa5.mp hm
   have lu:us.length=ps.length:=Paired.length hp
   have li:us.length=its.length:=rv.length
   have K0 :j < its.length:=by omega
   refine ⟨its[j],abo K0,?_⟩
   obtain ⟨u,q,eu,eq,ru,hq⟩:=key j its[j] (gE K0)
   rw [gE hj,ej] at eq
   cases eq
   exact @decide_eq_true _ (aa' _) ⟨u,p,ru,hq,rfl⟩
theorem zZ (hu:X.A.units+64 < cLine):iI X (compareOp .In) (KY X.K false):=by
 intro pins s σ H x y v u Q I rx ry h
 obtain ⟨p,l,us,ps,rfl,hq,hx,hp,q⟩:=h
 cases ry
 obtain ⟨its,rv,pl,hz⟩:=I.list hq
 obtain ⟨e,he,ea⟩:=KZ (A:=X.A.in1) I (by rw [in1_units];omega) hx rx hp rv
 refine SeqAt.in_listAt e pl.isList he ⟨.bl _,H,I,rfl,?_⟩
 rw [ea]
 exact q
end
end Ty
set_option maxHeartbeats 4000000
namespace Ty
open PySem PySem.Spec PyProof.Rows L2
theorem fj {α:Type}{R:(Str×α)→(Key×V)→Prop}{x:Str}{y:α}:∀{l:List (Str×α)} {kvs:List (Key×V)},Paired (fun b kv=>kv.1=.inr b.1∧R b kv) l kvs→(l.map (·.1)).Nodup→(x,y)∈l→∃v,bV kvs (.inr x)=some v∧R (x,y) (.inr x,v)
 | _::_,kv::_,.cons h t,nd,m=>by
  rw [aaj,aaX] at nd
  rcases aaJ.mp m with e | m
  ·subst e
   have h1:kv.1=.inr x:=h.1
   refine ⟨kv.2,bH h1,?_⟩
   have h2:=h.2
   rw [← h1]
   exact h2
  ·obtain ⟨v,e,r⟩:=fj t nd.2 m
   refine ⟨v,?_,r⟩
   rw [bh (fun z=> ?_)]
   ·exact e
   ·rw [h.1] at z
    exact nd.1 (aa9 z▸aal.mpr ⟨_,m,rfl⟩)
def qG (K:Frag)(H:Hp)(pw:List (Str×List (Rat×Rat)))(kW:List (Key×V)):Prop:=
 Paired (fun (p:Str×List (Rat×Rat)) (kv:Key×V)=>kv.1=.inr p.1∧∃l us,kv.2=.ref l∧H l=some (.lst us)∧gd K H us p.2) pw kW
theorem qG.same {K:Frag}{H H' :Hp}{pw:List (Str×List (Rat×Rat))}{kW:List (Key×V)}(h:qG K H pw kW)(s:ar H H'):qG K H' pw kW:=
 Paired.bU h fun _ _ z=>⟨z.1,by obtain ⟨l,us,e1,e2,e3⟩:=z.2;exact ⟨l,us,e1,s _ _ e2,e3.same s⟩⟩
theorem qG.dict {K:Frag}{H:Hp}{pw:List (Str×List (Rat×Rat))}{kW kvs:List (Key×V)}{d:Addr}{o:HO}(h:qG K H pw kW)(e:H d=some (.dK kvs)):qG K (upd H d o) pw kW:=
 Paired.bU h fun _ _ z=>⟨z.1,by
  obtain ⟨l,us,e1,e2,e3⟩:=z.2
  exact ⟨l,us,e1,by rw [ak (fun q=>by rw [q,e] at e2;cases e2)];exact e2,e3.aL (.dict e)⟩⟩
theorem qG.keys {K:Frag}{H:Hp}{pw:List (Str×List (Rat×Rat))}{kW:List (Key×V)}(h:qG K H pw kW):kW.map (·.1)=(pw.map (·.1)).map (fun b=>(aaT b:Key)):=by
 rw [d9 h,aaI]
 rfl
theorem dZ.ends {K:Frag}{H:Hp}{C a dx pP pW pB:Addr}{ps:List (Str×Pt)}{bs:List (Str×Str×Str)}{kP kW kB:List (Key×V)}(R:dZ K H C a dx pP pW pB ps bs kP kW kB)(nd:(bs.map (·.1)).Nodup){x one other:Str}(m:(x,one,other)∈bs):
  ∃p,bV kB (.inr x)=some (.ref p)∧Rd H p (.tup [.str one,.str other]):=by
 obtain ⟨v,e,p,ep,r⟩:=fj R.rb nd m
 have oG :v=.ref p:=ep
 exact ⟨p,by rw [e,oG],r⟩
theorem dZ.place {K:Frag}{H:Hp}{C a dx pP pW pB:Addr}{ps:List (Str×Pt)}{bs:List (Str×Str×Str)}{kP kW kB:List (Key×V)}(R:dZ K H C a dx pP pW pB ps bs kP kW kB)(nd:(ps.map (·.1)).Nodup){x:Str}{p:Pt}(m:(x,p)∈ps):
  ∃v,bV kP (.inr x)=some v∧Spot K H v p:=fj R.rp nd m
end Ty
namespace Ty
open PySem PySem.Spec PyProof.Rows L2
structure aC where
 nm:Str
 sp:Rat×Rat
 ws:List (Rat×Rat)
structure a8 where
 nm:Str
 one:aC
 other:aC
structure s_ (K:Frag)(H:Hp)(C a:Addr)(pins:List aC)(bars:List a8):Prop where
 ex:∃(dx pP pW pB:Addr) (kP kW kB:List (Key×V)),dZ K H C a dx pP pW pB (pins.map fun p=>(p.nm,qa p.sp)) (bars.map fun b=>(b.nm,b.one.nm,b.other.nm)) kP kW kB∧qG K H (pins.map fun p=>(p.nm,p.ws)) kW
structure cU (pins:List aC)(bars:List a8):Prop where
 np:(pins.map (·.nm)).Nodup
 nb:(bars.map (·.nm)).Nodup
 ends:∀b∈bars,b.one∈pins∧b.other∈pins∧b.one.nm≠b.other.nm
 sz:∀p∈pins,Sz 24 p.sp.1∧Sz 24 p.sp.2∧∀w∈p.ws,Sz 22 w.1∧Sz 22 w.2
 lp:pins.length≤7
 lb:bars.length≤8
 lw:∀p∈pins,p.ws.length≤2
theorem s_.same {K:Frag}{H H' :Hp}{C a:Addr}{pins:List aC}{bars:List a8}(h:s_ K H C a pins bars)(s:ar H H'):s_ K H' C a pins bars:=by
 obtain ⟨dx,pP,pW,pB,kP,kW,kB,R,W⟩:=h.ex
 exact ⟨dx,pP,pW,pB,kP,kW,kB,R.same s,W.same s⟩
def z4 (K:Frag)(H:Hp)(kvs:List (Key×V))(F:Str→Option (Rat×Rat)):Prop:=
 ∀nm,(bV kvs (.inr nm)=none∧F nm=none)∨∃v p,bV kvs (.inr nm)=some v∧F nm=some p∧dC K H v p
section
variable {K:Frag}{H H' :Hp}{kvs:List (Key×V)}
theorem z4.same {F:Str→Option (Rat×Rat)}(h:z4 K H kvs F)(s:ar H H'):z4 K H' kvs F:=fun nm=>by
 rcases h nm with h | ⟨v,q,h1,h2,h3⟩
 ·exact .inl h
 ·exact .inr ⟨v,q,h1,h2,h3.same s⟩
theorem z4.SD {F:Str→Option (Rat×Rat)}(h:z4 K H kvs F){x:Str}{v:V}{q:Rat×Rat}(n:dC K H v q):dC K H ((bV kvs (.inr x)).getD v) ((F x).getD q):=by
 rcases h x with ⟨h1,h2⟩ | ⟨u,q',h1,h2,h3⟩
 ·rw [h1,h2]
  exact n
 ·rw [h1,h2]
  exact h3
end
end Ty
namespace Ty
open PySem PySem.Spec PyProof.Rows L2
end Ty
namespace Ty
open PySem PySem.Spec PyProof.Rows L2
theorem GJ {α:Type}{nm:α→Str}{l:List α}(nd:(l.map nm).Nodup){b b' :α}(h:b∈l)(h' :b' ∈l)(e:nm b=nm b'):b=b' :=by
 obtain ⟨i,hi,ei⟩:=aa5.mp h
 obtain ⟨j,hj,ej⟩:=aa5.mp h'
 have q1:(l.map nm)[i]? =some (nm b):=by rw [Wp,gE hi,ei];rfl
 have q2:(l.map nm)[j]? =some (nm b):=by rw [Wp,gE hj,ej,e];rfl
 have ij:=(abM (by rw [ir];exact hi) nd).mp (q1.trans q2.symm)
 subst ij
 rw [← ei, ← ej]
theorem dO {α:Type}{nm:α→Str}{l:List α}(nd:(l.map nm).Nodup){i:Nat}{b b' :α}(h:l[i]? =some b)(m:b' ∈l.take i):nm b' ≠nm b:=fun e=>by
 have il:=(be.mp h).1
 obtain ⟨j,hj,ej⟩:=aa5.mp m
 rw [akp] at ej
 rw [aaG] at hj
 have q1:(l.map nm)[j]? =some (nm b):=by rw [Wp,gE (by omega),ej, ← e];rfl
 have q2:(l.map nm)[i]? =some (nm b):=by rw [Wp,h];rfl
 have:=(abM (by rw [ir];omega) nd).mp (q1.trans q2.symm)
 omega
theorem take_snoc {α:Type}{l:List α}{i:Nat}{b:α}(h:l[i]? =some b):l.take (i+1)=l.take i++[b]:=by rw [abx,h];rfl
end Ty
namespace Ty
open PySem PySem.Spec PyProof.Rows L2
theorem uM {xs:List Str}(h:xs.Nodup):(xs.map fun x=>(aaT x:Key)).Nodup:=by
 unfold List.Nodup
 rw [List.pairwise_map]
 exact List.Pairwise.imp (fun h e=>h (aa9 e)) h
end Ty
set_option maxHeartbeats 4000000
namespace Ty
open PySem PySem.Spec PyProof.Rows L2
theorem iY {H H' :Hp}(s:ar H H'){p:Addr}(n:H' p=none):H p=none:=by
 cases e:H p with
 | none=>rfl
 | some o=>rw [s _ _ e] at n;cases n
end Ty
namespace Ty
open PySem PySem.Spec PyProof.Rows L2
section
variable {X:Cx}
end
section
variable {D:Addr}{te:TE}{cap:L2.St}{H1:Hp}{Q:VK}
end
end Ty
set_option maxHeartbeats 4000000
namespace Ty
open PySem PySem.Spec PyProof.Rows L2
abbrev dQ (h:Heap)(z TI TO:Addr)(f0:Value)(fb:Bool):Prop:=
 h.get? z=some {cls:=.type "zip",dict:=none,data:=.fields #[f0,.bool fb,.bool false,.ref TI,.ref TO],slots:= #[]}
section
variable {prog:Program}{w:World}{A:Around}{E:Value→Shared→Prop}{s:Shared}
theorem qb {a:Addr}{o:Obj}{Q:Option Obj→Shared→Prop}(h:s.heap.get? a=some o)(q:Q (some o) s):wpAny (model prog w) A (loadIfAlive a) Q E s:=fun Γ p _=>by
 show Sem.wp _ _ (.loadIfAlive a .pure) _ _ _ _
 rw [Sem.wp_loadIfAlive,h]
 exact q
theorem qc {z TI TO T:Addr}{fb:Bool}{o:Obj}{Q:Bool→Shared→Prop}(hz:dQ s.heap z TI TO (rawInt T) fb)(hT:s.heap.get? T=some o)
  (hQ:∀h',dQ h' z TI TO (rawInt T) true→Heap.SameBut z s.heap h' →Q false {s with heap:=h' }):wpAny (model prog w) A (Builtin.SmallTypes.ownedTupleIsFree (.ref z)) Q E s:=by
 unfold Builtin.SmallTypes.ownedTupleIsFree
 refine wpAny_bind (wpAny_field hz rfl (x:=rawInt T) rfl ?_)
 show wpAny _ _ (loadIfAlive ((T:Int)).toNat >>=_) _ _ _
 refine wpAny_bind (qb (o:=o) (by simpa using hT) ?_)
 simp only [Option.isNone_some,abG,if_false]
 refine wpAny_bind (wpAny_field hz rfl (x:=.bool fb) rfl ?_)
 cases fb with
 | true=>
  show wpAny _ _ (if (Value.bool true !=Value.bool true)=true then _ else _) _ _ _
  rw [if_neg (by decide)]
  exact wpAny_pure (hQ s.heap hz ⟨rfl,fun _ _=>rfl⟩)
 | false=>
  show wpAny _ _ (if (Value.bool false !=Value.bool true)=true then _ else _) _ _ _
  rw [if_pos (by decide)]
  refine wpAny_bind (wpAny_setField_rec hz (by simp) fun h' SE CU =>wpAny_pure (hQ h' SE CU))
theorem uN {z TI TO T i1 i2 l1 l2:Addr}{fb:Bool}{o:Obj}{k1 k2:Nat}{xs ys:Array Value}{x y:Value}{Q:Value→Shared→Prop}(D:ZipApart z TI TO i1 i2 l1 l2)
  (hz:dQ s.heap z TI TO (rawInt T) fb) (hT:s.heap.get? T=some o) (gB:IsPair s.heap TI (.ref i1) (.ref i2))
  (h1:s.heap.IsListIter i1 l1 k1) (h2:s.heap.IsListIter i2 l2 k2) (tf:s.heap.IsList l1 xs) (qZ:s.heap.IsList l2 ys) (hx:xs[k1]? =some x) (hy:ys[k2]? =some y)
  (hQ:∀h',dQ h' z TI TO (rawInt T) true→h'.IsListIter i1 l1 (k1+1)→h'.IsListIter i2 l2 (k2+1)→IsPair h' s.heap.objs.size x y→h'.objs.size=s.heap.objs.size+1→
   (∀c o,c≠z→c≠i1→c≠i2→s.heap.get? c=some o→h'.get? c=some o)→Q (.ref s.heap.objs.size) {s with heap:=h' }):
  wpAny (model prog w) A (Builtin.«zip.__next__» ⟨[.ref z],[]⟩) (fun fin s' =>∃v,fin=.done (.ret v)∧Q v s') E s:=by
 show wpAny _ _ (field (.ref z) 2 >>=_) _ _ _
 refine wpAny_bind (wpAny_field hz rfl (x:=.bool false) rfl ?_)
 show wpAny _ _ (field (.ref z) 3 >>=_) _ _ _
 refine wpAny_bind (wpAny_field hz rfl (x:=.ref TI) rfl ?_)
 refine wpAny_bind (wpAny_seqItems gB rfl ?_)
 show wpAny _ _ (Builtin.SmallTypes.ownedTupleIsFree (.ref z) >>=_) _ _ _
 refine wpAny_bind (qc hz hT fun h₁ hz₁ rq=> ?_)
 simp only [abG,if_false]
 refine wpAny_bind ?_
 show wpAny _ _ (forIn [Value.ref i1,Value.ref i2].toArray _ _) _ _ _
 rw [akd]
 simp only [akH,akN]
 refine wpAny_bind (wpAny_bind (wpAny_holding ?_))
 show wpAny _ _ (Builtin.SmallTypes.nextOf (.ref i1) >>=_) _ _ _
 refine wpAny_bind (wpAny_nextOf_list_item (h1.extBut rq.extBut D.i1z) (tf.extBut rq.extBut D.l1z) hx fun h₂ h1₂ xM=>wpAny_pure ?_)
 refine wpAny_pure ?_
 refine wpAny_bind (wpAny_bind (wpAny_holding ?_))
 show wpAny _ _ (Builtin.SmallTypes.nextOf (.ref i2) >>=_) _ _ _
 refine wpAny_bind (wpAny_nextOf_list_item ((h2.extBut rq.extBut D.i2z).extBut xM.extBut D.i12.symm) ((qZ.extBut rq.extBut D.l2z).extBut xM.extBut D.l2i1) hy fun h₄ h2₄ Jq=>wpAny_pure ?_)
 refine wpAny_pure (wpAny_pure ?_)
 refine wpAny_bind (wpAny_newTuple (hsz:=(by show 2≤sizeLine;decide)) ?_)
 have hsz:h₄.objs.size=s.heap.objs.size:=by rw [Jq.1,xM.1,rq.1]
 refine wpAny_pure ⟨_,rfl,?_⟩
 have hz₄:dQ h₄ z TI TO (rawInt T) true:=Jq.extBut _ _ D.i2z.symm (xM.extBut _ _ D.i1z.symm hz₁)
 show Q (.ref h₄.objs.size) _
 rw [hsz]
 refine hQ _ (Heap.get?_push_of_some _ hz₄) ((h1₂.extBut Jq.extBut D.i12).at fun o e=>Heap.get?_push_of_some _ e) (h2₄.at fun o e=>Heap.get?_push_of_some _ e) ?_ (by rw [Heap.size_push,hsz]) fun c o c1 c3 c4 e=>Heap.get?_push_of_some _ (Jq.extBut _ _ c4 (xM.extBut _ _ c3 (rq.extBut _ _ c1 e)))
 show (h₄.push _).get? _=_
 rw [← hsz]
 exact Heap.get?_push_size _ rfl
theorem xN {z TI TO T i1 i2 l1 l2:Addr}{fb:Bool}{o:Obj}{k1 k2:Nat}{xs ys:Array Value}{Q:Fin→Shared→Prop}(hh:A.handled=none)(D:ZipApart z TI TO i1 i2 l1 l2)
  (hz:dQ s.heap z TI TO (rawInt T) fb) (hT:s.heap.get? T=some o) (gB:IsPair s.heap TI (.ref i1) (.ref i2))
  (h1:s.heap.IsListIter i1 l1 k1) (h2:s.heap.IsListIter i2 l2 k2) (tf:s.heap.IsList l1 xs) (qZ:s.heap.IsList l2 ys) (uO:xs[k1]? =none∨ys[k2]? =none)
  (hE:∀h' e,(∀c o,c≠z→c≠i1→c≠i2→s.heap.get? c=some o→h'.get? c=some o)→(∃o,h'.get? e=some o∧o.cls=.type "StopIteration")→E (.ref e) {s with heap:=h' }):
  wpAny (model prog w) A (Builtin.«zip.__next__» ⟨[.ref z],[]⟩) Q E s:=by
 show wpAny _ _ (field (.ref z) 2 >>=_) _ _ _
 refine wpAny_bind (wpAny_field hz rfl (x:=.bool false) rfl ?_)
 show wpAny _ _ (field (.ref z) 3 >>=_) _ _ _
 refine wpAny_bind (wpAny_field hz rfl (x:=.ref TI) rfl ?_)
 refine wpAny_bind (wpAny_seqItems gB rfl ?_)
 show wpAny _ _ (Builtin.SmallTypes.ownedTupleIsFree (.ref z) >>=_) _ _ _
 refine wpAny_bind (qc hz hT fun h₁ hz₁ rq=> ?_)
 simp only [abG,if_false]
 refine wpAny_bind ?_
 show wpAny _ _ (forIn [Value.ref i1,Value.ref i2].toArray _ _) _ _ _
 rw [akd]
 simp only [akH,akN]
 refine wpAny_bind (wpAny_bind (wpAny_holding ?_))
 show wpAny _ _ (Builtin.SmallTypes.nextOf (.ref i1) >>=_) _ _ _
 cases hx:xs[k1]? with
 | none=>
  refine wpAny_bind (wpAny_nextOf_list_end hh (h1.extBut rq.extBut D.i1z) (tf.extBut rq.extBut D.l1z) hx fun h₂ e xM he=> ?_)
  exact hE h₂ e (fun c o c1 c3 _ x=>xM _ _ c3 (rq.extBut _ _ c1 x)) he
 | some x=>
  have hy:ys[k2]? =none:=by rcases uO with h | h;rw [hx] at h;cases h;exact h
  refine wpAny_bind (wpAny_nextOf_list_item (h1.extBut rq.extBut D.i1z) (tf.extBut rq.extBut D.l1z) hx fun h₂ h1₂ xM=>wpAny_pure ?_)
  refine wpAny_pure ?_
  refine wpAny_bind (wpAny_bind (wpAny_holding ?_))
  show wpAny _ _ (Builtin.SmallTypes.nextOf (.ref i2) >>=_) _ _ _
  refine wpAny_bind (wpAny_nextOf_list_end hh ((h2.extBut rq.extBut D.i2z).extBut xM.extBut D.i12.symm) ((qZ.extBut rq.extBut D.l2z).extBut xM.extBut D.l2i1) hy fun h₄ e Jq he=> ?_)
  exact hE h₄ e (fun c o c1 c3 c4 x=>Jq _ _ c4 (xM.extBut _ _ c3 (rq.extBut _ _ c1 x))) he
theorem rB {z TI TO T i1 i2 l1 l2:Addr}{fb:Bool}{o:Obj}{k1 k2:Nat}{xs ys:Array Value}{x y:Value}{Q:Option Value→Shared→Prop}(D:ZipApart z TI TO i1 i2 l1 l2)
  (hz:dQ s.heap z TI TO (rawInt T) fb) (hT:s.heap.get? T=some o) (gB:IsPair s.heap TI (.ref i1) (.ref i2))
  (h1:s.heap.IsListIter i1 l1 k1) (h2:s.heap.IsListIter i2 l2 k2) (tf:s.heap.IsList l1 xs) (qZ:s.heap.IsList l2 ys) (hx:xs[k1]? =some x) (hy:ys[k2]? =some y)
  (hQ:∀h',dQ h' z TI TO (rawInt T) true→h'.IsListIter i1 l1 (k1+1)→h'.IsListIter i2 l2 (k2+1)→IsPair h' s.heap.objs.size x y→h'.objs.size=s.heap.objs.size+1→
   (∀c o,c≠z→c≠i1→c≠i2→s.heap.get? c=some o→h'.get? c=some o)→Q (some (.ref s.heap.objs.size)) {s with heap:=h' }):
  wpAny (model prog w) A (pyNext (.ref z)) Q E s:=by
 have K1 :s.TypeIs (.ref z) "zip":=⟨_,hz,rfl⟩
 unfold pyNext
 exact wpAny_bind (wpAny_attempt (wpAny_callSpecial?_slot (name:=Str.ofString "__next__") K1 F.slot_zip_next
  (wpAny_call_entry F.slot_zip_next K1 F.entry_zip_next
   (uN D hz hT gB h1 h2 tf qZ hx hy fun h' a1 a3 a4 a5 a6 a7=>wpAny_pure (hQ h' a1 a3 a4 a5 a6 a7)) (F.args_zip_next_1 _))))
theorem uP {z TI TO T i1 i2 l1 l2:Addr}{fb:Bool}{o:Obj}{k1 k2:Nat}{xs ys:Array Value}{Q:Option Value→Shared→Prop}(hh:A.handled=none)(D:ZipApart z TI TO i1 i2 l1 l2)
  (hz:dQ s.heap z TI TO (rawInt T) fb) (hT:s.heap.get? T=some o) (gB:IsPair s.heap TI (.ref i1) (.ref i2))
  (h1:s.heap.IsListIter i1 l1 k1) (h2:s.heap.IsListIter i2 l2 k2) (tf:s.heap.IsList l1 xs) (qZ:s.heap.IsList l2 ys) (uO:xs[k1]? =none∨ys[k2]? =none)
  (hQ:∀h',(∀c o,c≠z→c≠i1→c≠i2→s.heap.get? c=some o→h'.get? c=some o)→Q none {s with heap:=h' }):wpAny (model prog w) A (pyNext (.ref z)) Q E s:=by
 have K1 :s.TypeIs (.ref z) "zip":=⟨_,hz,rfl⟩
 unfold pyNext
 refine wpAny_bind (wpAny_attempt (wpAny_callSpecial?_slot (name:=Str.ofString "__next__") K1 F.slot_zip_next
  (wpAny_call_entry F.slot_zip_next K1 F.entry_zip_next (xN hh D hz hT gB h1 h2 tf qZ uO fun h' e hk he=> ?_) (F.args_zip_next_1 _))))
 obtain ⟨o,ho,hc⟩:=he
 refine wpAny_bind (wpAny_isInstance (T:="StopIteration") (b:=true) ⟨o,ho,hc⟩ isSubtype_stop ?_)
 exact wpAny_pure (hQ _ hk)
end
def y4 (h:Heap)(z TI TO i1 i2 a b S:Addr)(i:Nat):Prop:=(dQ h z TI TO .none false∨∃(T:Addr) (o:Obj) (fb:Bool),dQ h z TI TO (rawInt T) fb∧h.get? T=some o∧T≠z∧T≠TO∧T≠i1∧T≠i2∧T≠S)∧IsPair h TI (.ref i1) (.ref i2)∧(∃x y,IsPair h TO x y)∧h.IsListIter i1 a i∧h.IsListIter i2 b i
section
variable {prog:Program}{w:World}{A:Around}{E:Value→Shared→Prop}{s:Shared}{z TI TO i1 i2 a b S:Addr}{i:Nat}
theorem y4.frame {h h' :Heap}(st:y4 h z TI TO i1 i2 a b S i)(k:∀c o,c≠S→h.get? c=some o→h'.get? c=some o)(nz:z≠S)(n1:TI≠S)(n2:TO≠S)(n3:i1≠S)(n4:i2≠S):y4 h' z TI TO i1 i2 a b S i:=by
 obtain ⟨hz,gB,⟨x,y,lZ⟩,h1,h2⟩:=st
 refine ⟨?_,k _ _ n1 gB,⟨x,y,k _ _ n2 lZ⟩,h1.at fun o e=>k _ o n3 e,h2.at fun o e=>k _ o n4 e⟩
 rcases hz with hz | ⟨T,o,fb,hz,hT,t1,t2,t3,t4,t5⟩
 ·exact .inl (k _ _ nz hz)
 ·exact .inr ⟨T,o,fb,k _ _ nz hz,k _ _ t5 hT,t1,t2,t3,t4,t5⟩
theorem y4.item {oS:Obj}{xs ys:Array Value}{x y:Value}{Q:Option Value→Shared→Prop}(D:ZipApart z TI TO i1 i2 a b)(st:y4 s.heap z TI TO i1 i2 a b S i)(hS:s.heap.get? S=some oS)
  (tf:s.heap.IsList a xs) (qZ:s.heap.IsList b ys) (hx:xs[i]? =some x) (hy:ys[i]? =some y)
  (hQ:∀h',y4 h' z TI TO i1 i2 a b S (i+1)→IsPair h' s.heap.objs.size x y→(∀c o,c∉[z,TI,TO,i1,i2]→s.heap.get? c=some o→h'.get? c=some o)→Q (some (.ref s.heap.objs.size)) {s with heap:=h' }):
  wpAny (model prog w) A (pyNext (.ref z)) Q E s:=by
 obtain ⟨hz,gB,⟨x0,y0,lZ⟩,h1,h2⟩:=st
 have lt:∀{c o},s.heap.get? c=some o→s.heap.objs.size≠c:=fun e=>abZ (Heap.lt_size e)
 have e1:∃o,s.heap.get? i1=some o:=by obtain ⟨o,e,_⟩:=h1;exact ⟨o,e⟩
 have e2:∃o,s.heap.get? i2=some o:=by obtain ⟨o,e,_⟩:=h2;exact ⟨o,e⟩
 obtain ⟨o1,e1⟩:=e1
 obtain ⟨o2,e2⟩:=e2
 have K2:∀{c:Addr},c∉[z,TI,TO,i1,i2]→c≠z∧c≠TI∧c≠TO∧c≠i1∧c≠i2:=fun h=>by simpa using h
 rcases hz with hz | ⟨T,o,fb,hz,hT,t1,t2,t3,t4,t5⟩
 ·refine wpAny_pyNext_zip_item D hz gB lZ h1 h2 tf qZ hx hy fun h' a1 a2 a3 a4 a5 a6 a7=> ?_
  refine hQ h' ⟨.inr ⟨_,_,false,a1,a5,lt hz,lt lZ,lt e1,lt e2,lt hS⟩,a7 _ _ D.TIz D.TITO D.TIi1 D.TIi2 gB,⟨_,_,a2⟩,a3,a4⟩ a5 fun c o hc e=> ?_
  obtain ⟨c1,c2,c3,c4,c5⟩:=K2 hc
  exact a7 c o c1 c3 c4 c5 e
 ·refine rB D hz hT gB h1 h2 tf qZ hx hy fun h' a1 a3 a4 a5 a6 a7=> ?_
  refine hQ h' ⟨.inr ⟨T,o,true,a1,a7 _ _ t1 t3 t4 hT,t1,t2,t3,t4,t5⟩,a7 _ _ D.TIz D.TIi1 D.TIi2 gB,⟨_,_,a7 _ _ D.TOz D.TOi1 D.TOi2 lZ⟩,a3,a4⟩ a5 fun c o hc e=> ?_
  obtain ⟨c1,c2,c3,c4,c5⟩:=K2 hc
  exact a7 c o c1 c4 c5 e
theorem y4.fin {xs ys:Array Value}{Q:Option Value→Shared→Prop}(hh:A.handled=none)(D:ZipApart z TI TO i1 i2 a b)(st:y4 s.heap z TI TO i1 i2 a b S i)
  (tf:s.heap.IsList a xs) (qZ:s.heap.IsList b ys) (uO:xs[i]? =none∨ys[i]? =none)
  (hQ:∀h',(∀c o,c∉[z,TI,TO,i1,i2]→s.heap.get? c=some o→h'.get? c=some o)→Q none {s with heap:=h' }):wpAny (model prog w) A (pyNext (.ref z)) Q E s:=by
 obtain ⟨hz,gB,⟨x0,y0,lZ⟩,h1,h2⟩:=st
 have K2:∀{c:Addr},c∉[z,TI,TO,i1,i2]→c≠z∧c≠TI∧c≠TO∧c≠i1∧c≠i2:=fun h=>by simpa using h
 rcases hz with hz | ⟨T,o,fb,hz,hT,t1,t2,t3,t4,t5⟩
 ·refine wpAny_pyNext_zip_end hh D hz gB lZ h1 h2 tf qZ uO fun h' kk=>hQ h' fun c o hc e=> ?_
  obtain ⟨c1,c2,c3,c4,c5⟩:=K2 hc
  exact kk c o c1 c3 c4 c5 e
 ·refine uP hh D hz hT gB h1 h2 tf qZ uO fun h' kk=>hQ h' fun c o hc e=> ?_
  obtain ⟨c1,c2,c3,c4,c5⟩:=K2 hc
  exact kk c o c1 c4 c5 e
end
end Ty
namespace Ty
open PySem PySem.Spec PyProof.Rows L2
section
variable {X:Cx}{pins:List (Addr×Obj)}{σ:L2.St}
theorem uQ {H:Hp}{p:Addr}(h:H p=none)(o:HO):ar H (upd H p o):=fun b u q=>by rw [ak (ao q h)];exact q
end
end Ty
set_option maxHeartbeats 4000000
namespace Ty
open PySem PySem.Spec PyProof.Rows L2
section
variable {X:Cx}
section
variable {k:Nat}{m:Str}{pos apos:Pos}{e o:Expr}{es:List Expr}{ta:TE}{t:TA}
end
theorem xO {ws:List Str}{its:List Value}(r:Vals (ws.map V.str) its){i:Nat}{u:Value}(e:its[i]? =some u):∃w t,ws[i]? =some w∧u=Value.str w t:=by
 obtain ⟨v,ev,rv⟩:=aF (bB r) e
 rw [Wp] at ev
 obtain ⟨w,ew,rfl⟩:=aaw.mp ev
 obtain ⟨t,rfl⟩:=rv
 exact ⟨w,t,ew,rfl⟩
end
section
variable {P:Program}{w:World}{K:Frag}{mg:Str→Option Value}{base:Heap}
end
end Ty
set_option maxHeartbeats 4000000
namespace Ty
open PySem PySem.Spec PyProof.Rows L2
theorem z6 (l:Addr)(its:Array Value)(n:Nat)(b:Addr)(dF:Array Value)(n2:Nat)(d:Option Addr)(sl:Array (Option Value))(hs0:¬(!its.isEmpty && Builtin.List.listTooLong (its.size+dF.size))=true)(hs1:its.size≤sizeLine)(yY:its.size+dF.size≤sizeLine+1):
  Meets (Builtin.«list.extend» ⟨[.ref l,.ref b],[]⟩) (fun _ R s=>s.heap.get? l=some {cls:=.type "list",dict:=none,data:=.seq its n,slots:= #[]}∧s.heap.get? b=some {cls:=.type "tuple",dict:=d,data:=.seq dF n2,slots:=sl}∧
   R (.ok (.ret Value.none)) {s with heap:=s.heap.update l (Obj.mapSeq fun x=>x++dF),toks:=s.toks}):=
 .of_wp fun prog w A R s h=>by
  obtain ⟨hp,g,dd,tk,os⟩:=s
  obtain ⟨hl,hb,h⟩:=h
  have f1:=AutoSeq1.idx_int
  have f2:=AutoSeq1.sub_tuple_tuple
  have f3:=AutoSeq1.sub_list_list
  have f4:=AutoSeq1.sub_tuple_list
  have f5:=AutoSeq1.sub_list_tuple
  have SE :(its++dF).size≤sizeLine+1:=by rw [Array.size_append];exact yY
  wp_walk using (wpAny_updateSeq hl rfl (hz:=hs1) (_hz' :=SE)),wpAny_loadPart' hl,wpAny_loadPart' hb
  exact ⟨_,rfl,h⟩
section
variable {X:Cx}
def K3 (K:Frag):V→List V→Hp→VK→Prop:=fun x vs H Q=>∃l b xs zs,x=.ref l∧vs=[.ref b]∧H l=some (.lst xs)∧bQ K H b zs∧xs.length+zs.length≤1000∧Q .cb (upd H l (.lst (xs++zs)))
theorem z7:RY X "list.extend" (K3 X.K):=by
 intro pins s σ H x vs v us Q I rx rv h
 obtain ⟨l,b,xs,zs,rfl,rfl,hH,hB,hz,q⟩:=h
 cases rx
 obtain ⟨u,rfl,ru⟩:=rv.one
 cases ru
 obtain ⟨z,its,n,r,hl,e⟩:=I.jz hH
 obtain ⟨dF,r2,tp,z2⟩:=I.tuple hB
 have qZ:=r2.length
 have big:(1000:Nat)≤sizeLine:=by decide
 have hsz:its.toArray.size+dF.toArray.size≤sizeLine:=by rw [aaF,aaF];omega
 have xc:¬ (!its.toArray.isEmpty && Builtin.List.listTooLong (its.toArray.size+dF.toArray.size))=true:=by
  rw [oY hsz,aj7]
  exact aay
 obtain ⟨⟨c,d,dt,sl⟩,e2,hc,n2,hd⟩:=tp
 obtain rfl:c=Value.type "tuple":=hc
 obtain rfl:dt=_:=hd
 refine call_meets F.slot_list_extend ⟨_,e,rfl⟩ F.entry_list_extend (F.args_list_extend_2 _ _)
  (z6 l its.toArray n b dF.toArray n2 d sl xc (by rw [aaF];omega) (by omega)) ⟨e,e2,?_⟩
 refine ⟨.cb,_,I.Ka (its' :=its++dF) hH e (by simp) (r.append r2) ?_,rfl,q⟩
 rw [aap]
 omega
end
end Ty
set_option maxHeartbeats 4000000
namespace Ty
open PySem PySem.Spec PyProof.Rows L2
theorem nI:typeLookup (.type "zip") "__getattr__"=pure none:=by rw [typeLookup_type,builtinLookup_eq_fast];kernel_rfl
theorem uR:typeLookup (.type "zip") "keys"=pure none:=by rw [typeLookup_type,builtinLookup_eq_fast];kernel_rfl
theorem rC:entryFor table "zip.__getattribute__"=some Builtin.«object.__getattribute__»:=
 entryFor_alias (id' :="object.__getattribute__") (by kernel_rfl) (by decide+kernel) (by decide+kernel) (by kernel_rfl)
theorem jn:entryFor table "dict.update.loop"=some Builtin.«dict.update.loop»:=entryFor_of_tree (by kernel_rfl)
theorem ef:plainId "dict.update.loop"=true:=by decide+kernel
theorem xP (a:Addr)(vs:Array Value)(u:Tok):
  Meets (Builtin.«object.__getattribute__» ⟨[.ref a,.str "keys" u],[]⟩) (fun A R s=>s.heap.get? a=some {cls:=.type "zip",dict:=none,data:=.fields vs,slots:= #[]}∧raisesAttr (.ref a) "keys" A R s):=
 Meets.of_wp fun prog w A R s hs=>by
  obtain ⟨hp,g,d,tk,os⟩:=s
  obtain ⟨hx,hs⟩:=hs
  have hT:(⟨hp,g,d,tk,os⟩:Shared).TypeIs (.ref a) "zip":=⟨_,hx,rfl⟩
  have hm:=uR
  unfold Builtin.«object.__getattribute__»
  repeat (any_goals (first | (assumption) | wp_step))
  exact wpAny_raiseAttrError hs.1 hs.2 (attrMsg_fits (by decide+kernel) (by decide+kernel))
section
variable {prog:Program}{w:World}{A:Around}{E:Value→Shared→Prop}{s:Shared}
theorem qd {z:Addr}{vs:Array Value}{Q:Option Value→Shared→Prop}(hx:s.heap.get? z=some {cls:=.type "zip",dict:=none,data:=.fields vs,slots:= #[]})(hA:A.handled=none)
  (h:∀h' tk,(∀b o,s.heap.get? b=some o→h'.get? b=some o)→Q none {s with heap:=h',toks:=tk}):wpAny (model prog w) A (getAttr? (.ref z) "keys") Q E s:=by
 obtain ⟨hp,g,d,tk,os⟩:=s
 have hT:∀tk',(⟨hp,g,d,tk',os⟩:Shared).TypeIs (.ref z) "zip":=fun _=>⟨_,hx,rfl⟩
 have f1:=sub_AttributeError
 have f3:=F.slot_zip_getattribute.lookup
 have f4:=F.slot_zip_getattribute.bind (.ref z)
 have f5:=nI
 unfold getAttr? getAttrBy? getAttrBy
 repeat (any_goals (first | (assumption) | exact hT _ | ((with_reducible show wpAny _ _ (call (Value.builtin "zip.__getattribute__") _ _) _ _ _);refine call_meets F.slot_zip_getattribute (hT _) rC (F.args_zip_getattribute_2 _ _) (xP z vs _) ⟨hx,hA,fun h' tk' e yX => ?_⟩) | wp_step))
 obtain ⟨t',u',he⟩:=yX.there
 show wpAny _ _ (getattributeRaised _ _ _ _ _ _ _) _ _ _
 unfold getattributeRaised
 repeat (any_goals (first | (assumption) | wp_step))
 exact h _ _ yX.keeps
end
end Ty
set_option maxHeartbeats 4000000
namespace Ty
open PySem PySem.Spec PyProof.Rows L2
section
variable {prog:Program}{w:World}{A:Around}{E:Value→Shared→Prop}{s:Shared}
theorem lG {z TI TO:Addr}{f0:Value}{Q:Value→Shared→Prop}(hA:A.in1.in1.handled=none)(hz:IsZip s.heap z TI TO f0)
  (hL:∀(h' :Heap) (tk:Nat) (R:Result→Shared→Prop),(∀b o,s.heap.get? b=some o→h'.get? b=some o)→h'.get? s.heap.objs.size=some {cls:=.type "dict",data:=.dict #[]}→
   (∀s',Q (.ref s.heap.objs.size) s' →R (.ok (.ret .none)) s')→codeAny (model prog w) A.in1 (.builtin "dict.update.loop" ⟨[.ref s.heap.objs.size,.ref z,rawInt 0,.none],[]⟩) R {s with heap:=h',toks:=tk}):
  wpAny (model prog w) A (call (.type "dict") [.ref z]) Q E s:=by
 refine callType_codes (Q₁:=fun obj s₁=>obj=.ref s.heap.objs.size∧s₁={s with heap:=s.heap.push {cls:=.type "dict",data:=.dict #[]}}) F.kt_called_dict (F.kt_typeCall_dict_1 _) F.entry_dict_init (kt_code_dict_new _ ⟨rfl,rfl⟩) ?_
 rintro obj s₁ ⟨rfl,rfl⟩
 have hS:(s.heap.push {cls:=.type "dict",data:=.dict #[]}).get? s.heap.objs.size=some {cls:=.type "dict",data:=.dict #[]}:=Heap.get?_push_size _ rfl
 have k0:∀b o,s.heap.get? b=some o→(s.heap.push {cls:=.type "dict",data:=.dict #[]}).get? b=some o:=fun b o e=>Heap.get?_push_of_some _ e
 generalize hN:s.heap.objs.size=S at hS hL ⊢
 generalize s.heap.push {cls:=.type "dict",data:=.dict #[]}=hp at hS k0 ⊢
 have K4:hp.get? z=_:=k0 _ _ hz
 have hTS:Shared.TypeIs {s with heap:=hp} (.ref S) "dict":=⟨_,hS,rfl⟩
 have hT:Shared.TypeIs {s with heap:=hp} (.ref z) "zip":=⟨_,K4,rfl⟩
 refine ⟨hTS,F.args_dict_init_2 _ _,?_⟩
 unfold Builtin.«dict.__init__»
 refine wpAny_bind ?_
 unfold Builtin.Dict.selfAndRest
 refine wpAny_bind (wpAny_notOrdered_dict hTS ?_)
 refine wpAny_pure ?_
 show wpAny _ _ (Builtin.Dict.updateFrom "dict.__init__" S (.ref z) [] .none) _ _ _
 unfold Builtin.Dict.updateFrom
 refine wpAny_bind (wpAny_typeOf hT ?_)
 rw [if_pos (by decide)]
 refine wpAny_bind (qd (s:={s with heap:=hp}) K4 hA fun h' tk k1=> ?_)
 rw [if_pos (by rfl)]
 refine wpAny_bind (wpAny_rule ?_)
 have hz3:IsZip h' z TI TO f0:=k1 _ _ K4
 refine wpAny_bind (wpAny_pyIter_zip (s:={s with heap:=h',toks:=tk}) hz3 ?_)
 exact wpAny_pure ⟨plainId_quiet ef _,hL _ _ _ (fun b o e=>k1 _ _ (k0 _ _ e)) (k1 _ _ hS) fun s' hq=>⟨rfl,hq⟩⟩
end
section
variable {X:Cx}{pins:List (Addr×Obj)}{σ:L2.St}
theorem qe (kvs more:List (Key×V))(kv:Key×V):bW kvs (more++[kv])=putK (bW kvs more) kv.1 kv.2:=by
 unfold bW
 rw [List.foldl_append]
 rfl
theorem GK {z TI TO i1 i2 a b S:Addr}{A' :Around}{R:Result→Shared→Prop}{ks:List Key}{ys:List V}{H0:Hp}(hh:A'.in1.handled=none)(D:ZipApart z TI TO i1 i2 a b)(na:a≠S)(nb:b≠S)(hk1:ks.length≤1000):
  ∀(k i:Nat) (s:Shared) (H:Hp),min ks.length ys.length - i=k→i≤min ks.length ys.length→Inv X pins σ H s→(∀c∈[z,TI,TO,i1,i2],iK X pins H c)→y4 s.heap z TI TO i1 i2 a b S i→
  H a=some (.lst (ks.map kV))→H b=some (.lst ys)→H S=some (.dK (bW [] ((ks.zip ys).take i)))→bL S H0 H→
  (∀s' H',Inv X pins σ H' s' →bL S H0 H' →H' S=some (.dK (bW [] (ks.zip ys)))→R (.ok (.ret .none)) s')→
  codeAny (model X.prog X.w) A' (.builtin "dict.update.loop" ⟨[.ref S,.ref z,rawInt (i:Int),.none],[]⟩) R s:=by
 have ala:(ks.zip ys).length=min ks.length ys.length:=List.length_zip
 intro k
 induction k with
 | zero=>
  intro i s H hk hi I hf st ha hb hS SF hR
  refine codeAny_builtin jn ?_
  rw [Around.under_plainId ef _]
  show wpAny _ A'.in1 (pyNext (.ref z) >>=_) _ _ s
  obtain ⟨z1,its,n1,r1,l1,e1⟩:=I.jz ha
  obtain ⟨z2,Ks,n2,r2,l2,e2⟩:=I.jz hb
  rw [ir] at l1
  refine wpAny_bind (st.fin hh D ⟨_,e1,rfl,_,rfl⟩ ⟨_,e2,rfl,_,rfl⟩ ?_ fun h' kk=> ?_)
  ·by_cases c:ks.length≤i
   ·exact .inl (by simp;omega)
   ·exact .inr (by simp;omega)
  ·rw [abg (by omega)] at hS
   exact wpAny_bind (wpAny_pure (wpAny_pure (hR _ H (Inv.jI (t' :=s.toks) I kk hf) SF hS)))
 | succ k ih=>
  intro i s H hk hi I hf st ha hb hS SF hR
  refine codeAny_builtin jn ?_
  rw [Around.under_plainId ef _]
  show wpAny _ A'.in1 (pyNext (.ref z) >>=_) _ _ s
  obtain ⟨z1,its,n1,r1,l1,e1⟩:=I.jz ha
  obtain ⟨z2,Ks,n2,r2,l2,e2⟩:=I.jz hb
  have lx:i < ks.length:=by omega
  have ly:i < ys.length:=by omega
  obtain ⟨u,hu,ru⟩:=r1.get (i:=i) (x:=kV ks[i]) (by rw [Wp,gE lx];rfl)
  obtain ⟨v,hv,rv⟩:=r2.get (i:=i) (x:=ys[i]) (gE ly)
  obtain ⟨zS0,alb,vs0,alc,dd0⟩:=me I.bK hS
  obtain ⟨oS,_,_,eS,_⟩:=id dd0
  refine wpAny_bind (st.item D eS ⟨_,e1,rfl,_,rfl⟩ ⟨_,e2,rfl,_,rfl⟩ (x:=u) (y:=v) (by simpa using hu) (by simpa using hv) fun h' wI ht kk=> ?_)
  have Jr:∀c∈[z,TI,TO,i1,i2],c≠S:=fun c hc e=>by
   have:=(hf c hc).1
   rw [e,hS] at this
   cases this
  have I2:Inv X pins σ H {s with heap:=h',toks:=s.toks}:=Inv.jI (t' :=s.toks) I kk hf
  obtain ⟨zS,hdS,vs,rel,dd⟩:=me I2.bK hS
  have hT:Shared.TypeIs {s with heap:=h',toks:=s.toks} (.ref s.heap.objs.size) "tuple":=⟨_,ht,rfl⟩
  refine wpAny_bind (wpAny_holding ?_)
  refine wpAny_bind (wpAny_tryCatch ?_)
  unfold Builtin.Dict.pairItems
  refine wpAny_bind (wpAny_typeOf hT ?_)
  rw [if_pos (by decide)]
  refine wpAny_bind (wpAny_seqItems ht rfl (wpAny_pure ?_))
  show wpAny _ A'.in1 (holding [u,v] (dictSet S u v)) _ _ _
  refine wpAny_holding ?_
  have hlen:vs.length≤sizeLine:=by rw [← rel.length];exact zS
  refine wpAny_dictSet_pairs (hsz:=hlen) (ji ru) dd fun h2 dd2 sb=> ?_
  have he:∃q,h2.get? S=some q:=let ⟨q,_,_,hq,_⟩:=dd2;⟨q,hq⟩
  have etk:(ks.zip ys).take (i+1)=(ks.zip ys).take i++[(ks[i],ys[i])]:=by
   rw [abx]
   have:(ks.zip ys)[i]? =some (ks[i],ys[i]):=by rw [List.getElem?_zip_eq_some];exact ⟨gE lx,gE ly⟩
   rw [this]
   rfl
  have K5:bW [] ((ks.zip ys).take (i+1))=putK (bW [] ((ks.zip ys).take i)) ks[i] ys[i]:=by rw [etk,qe]
  have hl:(putK (bW [] ((ks.zip ys).take i)) ks[i] ys[i]).length≤sizeLine:=by
   rw [← K5]
   have h1:=eg ((ks.zip ys).take (i+1)) []
   rw [aaG,aj3] at h1
   exact aak (show (bW [] ((ks.zip ys).take (i+1))).length≤1000 by omega) (by decide)
  have I3:Inv X pins σ (upd H S (.dK (putK (bW [] ((ks.zip ys).take i)) ks[i] ys[i]))) {s with heap:=h2,toks:=s.toks+1}:=jK (s:={s with heap:=h',toks:=s.toks}) (t' :=s.toks+1) I2 (by rw [hS];exact True.intro) sb he (ra hl hdS (rel.put ks[i] rv) dd2)
  have kS:∀c o,c≠S→h'.get? c=some o→h2.get? c=some o:=fun c o n e=>(sb.2 c n).trans e
  refine wpAny_pure ⟨plainId_quiet ef _,?_⟩
  have nn:∀{c:Addr} {o:HO},H c=some o→c≠S→(upd H S (.dK (putK (bW [] ((ks.zip ys).take i)) ks[i] ys[i]))) c=some o:=fun {c o} e n=>by rw [ak n];exact e
  refine ih (i+1) _ _ (by omega) (by omega) I3 (fun c hc=> ?_) (wI.frame kS (Jr z (by simp)) (Jr TI (by simp)) (Jr TO (by simp)) (Jr i1 (by simp)) (Jr i2 (by simp))) (nn ha na) (nn hb nb) (by rw [K5,ah]) (fun c o n e=>nn (SF c o n e) n) hR
  obtain ⟨f0,f1,f2,f3,f4,f5⟩:=hf c hc
  exact ⟨by rw [ak (Jr c hc)];exact f0,f1,f2,f3,f4,f5⟩
def GL (ta:TA):TE:=fun σ H Q=>ta σ H fun vs H1=>∃(a b:Addr) (ks:List Key) (ys:List V),vs=[.ref a,.ref b]∧H1 a=some (.lst (ks.map kV))∧H1 b=some (.lst ys)∧ks.length≤1000∧
 ∀(l:Addr) (H' :Hp),ar H1 H' →H1 l=none→H' l=some (.dK (bW [] (ks.zip ys)))→Q (.ref l) H'
theorem boot_dict:bootBuiltins "dict"=some (.type "dict"):=by decide+kernel
theorem xQ {e1 e2:Expr}{ta:TA}{p pos p' pos' :Pos}(hc:X.calm=true)(hgl:Gl X "dict")(hml:X.mg "dict"=none)(hg:Gl X "zip")(hm:X.mg "zip"=none)(ha:PA X [e1,e2] ta)(hs:starEach [e1,e2] X.env=[(false,eval e1 X.env),(false,eval e2 X.env)]:=by rfl)(yY:starEach [e2] X.env=[(false,eval e2 X.env)]:=by rfl)
  (QV:starEach [(.Call (.Name "zip" p) [e1,e2] [] pos:Expr)] X.env=[(false,eval (.Call (.Name "zip" p) [e1,e2] [] pos) X.env)]:=by rfl):
  PE X (.Call (.Name "dict" p') [.Call (.Name "zip" p) [e1,e2] [] pos] [] pos') (GL ta):=by
 intro pins s σ H Q I h
 refine Call_ (gu I hgl hml boot_dict (PyProof.Rows.callWith_type1 ?_ QV rfl))
 rw [QV]
 show wpAny _ _ (spliced ((false,eval (.Call (.Name "zip" p) [e1,e2] [] pos) X.env)::[])) _ _ s
 refine Calls.spliced_cons ?_
 refine Call_ (gu I hg hm boot_zip (PyProof.Rows.callWith_type1 (b8 (ha pos pins s σ H _ I h) fun us s1 ⟨vs,H1,I1,r1,q1⟩=> ?_) (by rw [hs,yY]) (by rw [yY];rfl)))
 obtain ⟨a,b,ks,ys,e,hx,hy,hkl,q⟩:=q1
 subst e
 cases r1 with
 | cons r rr=>
  cases rr with
  | cons r' rr=>
   cases rr
   cases r
   cases r'
   obtain ⟨z1,its,n1,r1,l1,e1⟩:=I1.jz hx
   obtain ⟨z2,Ks,n2,r2,l2,e2⟩:=I1.jz hy
   have lt1:a < s1.heap.objs.size:=Heap.lt_size e1
   have lt2:b < s1.heap.objs.size:=Heap.lt_size e2
   refine call_zip_2 ⟨_,e1,rfl,_,rfl⟩ ⟨_,e2,rfl,_,rfl⟩ fun h' hz gB lZ Kt Ku hsz hk=>Calls.spliced_nil ?_
   have I2:Inv X pins σ H1 {s1 with heap:=h',toks:=s1.toks}:=I1.kept (t' :=s1.toks) hk
   have hS:=I2.bK.fresh (aao h'.objs.size)
   refine lG (s:={s1 with heap:=h' }) (I1.ok.hd hc) hz fun h2 tk R k2 K6 hR=> ?_
   have lt' :mainGlobals < h'.objs.size:=(I2.mod.glob.keeps I2.bk).lt
   have ns:(h'.objs.size==sysModules)=false:=beq_eq_false_iff_ne.mpr (aaU (aaN (akm (by decide) lt')))
   have I3:Inv X pins σ (upd H1 h'.objs.size (.dK [])) {s1 with heap:=h2,toks:=tk}:=I2.laid (t' :=tk) k2 (aao _) ⟨aa4 _,ns,[],.nil,_,_,_,K6,⟨rfl,rfl,rfl⟩,rfl,fun _ he=>by simp at he,Pairs.nil,akO⟩
   have st:y4 h2 (s1.heap.objs.size+4) (s1.heap.objs.size+2) (s1.heap.objs.size+3) s1.heap.objs.size (s1.heap.objs.size+1) a b h'.objs.size 0:=
    ⟨.inl (k2 _ _ hz),k2 _ _ gB,⟨_,_,k2 _ _ lZ⟩,Kt.at fun o e=>k2 _ o e,Ku.at fun o e=>k2 _ o e⟩
   have na:a≠h'.objs.size:=ao hx hS
   have nb:b≠h'.objs.size:=ao hy hS
   have GN:=uQ hS (.dK [])
   refine GK (A' :=X.A.in1) (H0:=H1) (ks:=ks) (ys:=ys) (I1.ok.hd hc) ?_ na nb hkl (min ks.length ys.length) 0 _ _ (by omega) (aa4 _) I3 (fun c' oH => ?_) st (GN _ _ hx) (GN _ _ hy) ah (fun b' o n e=>GN _ _ e) fun s' H' I' ks' FY =>hR s' ⟨.ref h'.objs.size,H',I',rfl,q _ H' (fun b' o e=>ks' b' o (ao e hS) e) hS FY⟩
   ·constructor <;> (intro z;simp only [Addr] at*;omega)
   ·have Q3:c' =s1.heap.objs.size+4∨c' =s1.heap.objs.size+2∨c' =s1.heap.objs.size+3∨c' =s1.heap.objs.size∨c' =s1.heap.objs.size+1:=by simpa using oH
    have hb:s1.heap.objs.size≤c' :=by
     simp only [Addr] at*
     omega
    have hb2:c' ≠h'.objs.size:=by
     rw [hsz]
     simp only [Addr] at*
     omega
    refine I1.mS hb ?_
    rw [ak hb2]
    exact I1.bK.fresh hb
end
end Ty
set_option maxHeartbeats 4000000
namespace Ty
open PySem PySem.Spec PyProof.Rows L2
theorem cv.snoc {K:Frag}{H:Hp}{us:List V}{qs:List (Int×Int)}{v:V}{q:Int×Int}(h:cv K H us qs)(n:iW K H v q):cv K H (us++[v]) (qs++[q]):=by
 refine ⟨by simp [h.1],fun i u q' e1 e2=> ?_⟩
 have l:=h.1
 by_cases c:i < us.length
 ·rw [aaq c] at e1
  rw [aaq (by omega)] at e2
  exact h.2 i u q' e1 e2
 ·rw [aat (by omega)] at e1 e2
  by_cases z:i - us.length=0
  ·rw [z] at e1
   rw [show i - qs.length=0 by omega] at e2
   cases e1
   cases e2
   exact n
  ·rw [aam (by simp;omega)] at e1
   cases e1
theorem cv.aL {K:Frag}{H H' :Hp}{us:List V}{qs:List (Int×Int)}(h:cv K H us qs)(s:bf H H'):cv K H' us qs:=⟨h.1,fun i u q e1 e2=>(h.2 i u q e1 e2).aL s⟩
end Ty
set_option maxHeartbeats 4000000
namespace Ty
open PySem PySem.Spec PyProof.Rows L2
variable {X:Cx}
end Ty
set_option maxHeartbeats 4000000
namespace Ty
open PySem PySem.Spec PyProof.Rows L2
section
variable {X:Cx}{pins:List (Addr×Obj)}{σ:L2.St}{H:Hp}{s:Shared}
end
end Ty
set_option maxHeartbeats 4000000
namespace Ty
open PySem PySem.Spec PyProof.Rows L2
section
variable {X:Cx}{o e:Expr}{es:List Expr}{to:TE}{t:TA}{name:Str}{apos ff:Pos}{T id:String}{r:V→List V→Hp→VK→Prop}
end
end Ty
set_option maxHeartbeats 4000000
namespace Ty
open PySem PySem.Spec PyProof.Rows L2
section
variable {X:Cx}
def GO:V→List V→Hp→VK→Prop:=fun x vs H Q=>∃(l:Addr) (ws:List Str) (y:Str) (j:Nat),x=.ref l∧vs=[.str y]∧H l=some (.lst (ws.map V.str))∧ws.length < 1000∧ws[j]? =some y∧(∀i,i < j→ws[i]? ≠some y)∧Q (.int (j:Int)) H
theorem xR:RY X "list.index" GO:=by
 intro pins s σ H x vs v us Q I rx rv h
 obtain ⟨l,ws,y,j,rfl,rfl,hH,jV,hj,hn,q⟩:=h
 cases rx
 obtain ⟨u,rfl,ru⟩:=rv.one
 obtain ⟨t,rfl⟩:=ru
 obtain ⟨z,its,n,r,hl,e⟩:=I.jz hH
 have hj0:=(be.mp hj).1
 have hlj:j < its.length:=by
  rw [← hl,ir]
  exact hj0
 let eB:Value→Bool:=fun u=>match u with | .str w _=>w.cps.toList==y.cps.toList | _=>false
 have key:∀(i:Nat) (hi:i < its.length),∃w t',ws[i]? =some w∧its[i]=Value.str w t' :=fun i hi=>xO r (gE hi)
 refine call_meets F.slot_list_index ⟨_,e,rfl⟩ F.entry_list_index (F.args_list_index_2 _ _)
  (MeetsSeq.list_index l its.toArray n (Value.str y t) eB (fun u hu=> ?_) j (by simpa using hlj) (by show (j:Int) < 9223372036854775807;omega) ?_ (fun m hm lt=> ?_)) ⟨e,?_⟩
 ·obtain ⟨i,hi,ei⟩:=aa5.mp (by simpa using hu:u∈its)
  obtain ⟨w,t',_,e2⟩:=key i hi
  rw [← ei,e2]
  exact SeqRoads2.EqGives.str w y t' t
 ·obtain ⟨w,t',e1,e2⟩:=key j hlj
  rw [hj] at e1
  cases e1
  show eB (its.toArray[j]'_)=true
  rw [aj9,e2]
  show (y.cps.toList==y.cps.toList)=true
  exact beq_self_eq_true _
 ·have QZ :m < its.length:=by simpa using hm
  obtain ⟨w,t',e1,e2⟩:=key m QZ
  show eB (its.toArray[m]'_)=false
  rw [aj9,e2]
  show (w.cps.toList==y.cps.toList)=false
  refine beq_eq_false_iff_ne.mpr fun z=>hn m lt ?_
  rw [e1]
  congr 1
  obtain ⟨⟨wc⟩⟩:=w
  obtain ⟨⟨yc⟩⟩:=y
  simp only at z
  rw [z]
 ·exact ⟨.int (j:Int),H,I.tok (s.toks+1),⟨_,rfl⟩,q⟩
end
section
variable {D:Addr}{te:TE}{cap:L2.St}{H1:Hp}{Q:VK}
end
end Ty
set_option maxHeartbeats 4000000
namespace Ty
open PySem PySem.Spec PyProof.Rows L2
theorem bf.ks {H H' :Hp}{D:Addr}{ys:List V}(h0:H D=some (.lst ys))(ks:bL D H H'):bf H H' :=fun b xs r=>by
 rcases r with r | ⟨o',r⟩
 ·exact .inl (ks _ _ (fun e=>by rw [e,h0] at r;cases r) r)
 ·exact .inr ⟨o',ks _ _ (fun e=>by rw [e,h0] at r;cases r) r⟩
section
variable {X:Cx}{K:Frag}
inductive K7 (K:Frag)(x:V)(y:V)(H:Hp)(Q:VK):Prop where
 | mk (p xs i v:_) (_:x=.ref p) (_:y=.int i) (_:aT K H p xs∨bQ K H p xs) (_:dr xs i=some v) (_:Q v H):K7 K x y H Q
theorem tj:FC X (K7 X.K):=by
 intro value slice pins s σ H x y v u Q I rx ry h hs
 obtain ⟨p,xs,i,z,e1,e2,hq,he,q⟩:=h
 rcases hq with hq | hq
 ·exact aK value slice pins s σ H x y v u Q I rx ry ⟨p,xs,i,z,e1,e2,hq,he,q⟩ hs
 ·exact gx value slice pins s σ H x y v u Q I rx ry ⟨p,xs,i,z,e1,e2,hq,he,q⟩ hs
end
section
variable {D:Addr}{te:TE}{cap:L2.St}{H1:Hp}{Q:VK}
theorem rD {K:Frag}{a:Addr}{xs:List V}(J:List V→Hp→Prop)(nD:H1 D=none)(hn:xs.length < sizeLine)(hS:∀H,ar H1 H→aT K H a xs)(h0:J [] (upd H1 D (.lst [])))
  (he:∀(i:Nat) x ys H (R:VK),xs[i]? =some x→ys.length=i→J ys H→ar H1 H→H D=some (.lst ys)→(∀v H6,ar H H6→J (ys++[v]) (upd H6 D (.lst (ys++[v])))→R v H6)→te (some x::cap) H R)
  (hd:∀ys H,ys.length=xs.length→J ys H→ar H1 H→H D=some (.lst ys)→Q (.ref D) H):
  j6 D (dk 0) iP te (CC K a) (none::cap) H1 Q:=by
 refine q4 xs.length (fun i=>(xs[i]?).getD .cb) (fun i ys H=>ys.length=i∧J ys H∧ar H1 H) ⟨rfl,h0,fun b o e=>by rw [ak (ao e nD)];exact e⟩ ?_ ?_ ?_ ?_
 ·rintro i ys H hi ⟨_,_,s⟩
  exact ⟨⟨xs,xs[i],hS H s,gE hi⟩,fun x H' y=>⟨y.1,by rw [y.2 xs (hS H s)];rfl⟩⟩
 ·rintro ys H ⟨_,_,s⟩
  exact ⟨xs,hS H s,aao _⟩
 ·rintro i ys H R hi ⟨l,j,s⟩ hD k
  have e:xs[i]? =some xs[i]:=gE hi
  have k' :=he i _ ys H R e l j s hD fun v H6 s6 jv=>k v H6 (s6 _ _ hD) (by omega) ⟨by simp [l],jv,fun b o e=>by rw [ak (ao e nD)];exact s6 _ _ (s _ _ e)⟩
  rw [← (show (xs[i]?).getD .cb=xs[i] by rw [e];rfl)] at k'
  exact k'
 ·rintro ys H ⟨l,j,s⟩ hD
  exact hd ys H l j s hD
end
end Ty
set_option maxHeartbeats 4000000
namespace T_k53
open PySem PySem.Spec PyProof.Rows L2 Ty
open Builtin.Int (intBits)
seal L2.PE L2.PS L2.PSs L2.PA
theorem sq {N P:List Str}{sc:Scope}(a:sc.kind=.function:=by exact rfl)(b:sc.isCoroutine=false:=by exact rfl)(c:sc.isGenerator=false:=by exact rfl)(d:N.Nodup:=by decide+kernel)(e:N.take P.length=P:=by exact rfl)(f:∀x∈P,sc.names.lookup x=some .local∨sc.names.lookup x=some .cell:=by decide+kernel)(g:∀y∈sc.names,y.2≠.free:=by decide+kernel):aA N P sc:=⟨a,b,c,d,e,f,g⟩
theorem pY (P:Program)(w:World){X:Cx}:Passes (aX P w) X.so E0:=pj aX.m9
theorem pX {P:Program}{w:World}{X:Cx}:Passes (aX P w) X.so E0:=pj aX.m9
theorem _root_.L2.b7.mo {j k:Nat}{A:Around}(r:L2.b7 k A)(h:j≤k:=by decide):L2.b7 j A:=r.mono h
theorem aJ {X:Cx}{a:Expr}{ta:TE}{i j p1 p2}(h:PE X a ta):PE X (.Subscript a (.Constant (.int i) j p1) p2) (Jg (zD X.K) ta (tC (.int i))):=aS gx h ag (fun _ _=>rfl)
theorem gk {X:Cx}{a:Expr}{ta:TE}{i j p1 p2}(h:PE X a ta):PE X (.Subscript a (.Constant (.int i) j p1) p2) (Jg (zC X.K) ta (tC (.int i))):=aS aK h ag (fun _ _=>rfl)
theorem _root_.L2.kZ.uS {K:Frag}{x qual:Str}{st:Stmt}{f:Addr}{fd:FuncData}{ps:List Str}(F:L2.kZ K x qual st f fd)
 (h:∀(kV doc pm:Value) (an:Option Addr) (bx ct:Value) (us:List Value),us.length=ps.length→bindArgs (fnOf x qual (av st) (au st) (af st) .none kV doc pm an bx ct) ⟨us,[]⟩=pure (ps.zip us):=by first | exact (fun _ _ _ _ _ _ us hl=>match us,hl with | [_],_=>rfl) | exact (fun _ _ _ _ _ _ us hl=>match us,hl with | [_,_],_=>rfl) | exact (fun _ _ _ _ _ _ us hl=>match us,hl with | [_,_,_],_=>rfl) | exact (fun _ _ _ _ _ _ us hl=>match us,hl with | [_,_,_,_],_=>rfl) | exact (fun _ _ _ _ _ _ us hl=>match us,hl with | [_,_,_,_,_],_=>rfl)):Binds K fd ps []:=F.binds h
theorem d0 {K:Frag}{mg:Str→Option Value}{h:Heap}{x:Str}{st:Stmt}{ps:List Str}{f:Addr}{oc:Value}{od an:Option Addr}{kY:Array (Option Value)}{kV doc pm bx ct:Value}(X:K.In h)(G:h.Ns mainGlobals mg)(l:K.lookup f=some ⟨oc,od,.func (fnOf x x (av st) (au st) (af st) .none kV doc pm an bx ct),kY⟩)(c:codeIn K bx x=true)(k:keepIn K (.ref f)=true)(a:nsIn K mainGlobals x=some (some (.ref f)))
 (b:∀(kV doc pm:Value) (an:Option Addr) (bx ct:Value) (us:List Value),us.length=ps.length→bindArgs (fnOf x x (av st) (au st) (af st) .none kV doc pm an bx ct) ⟨us,[]⟩=pure (ps.zip us):=by first | exact (fun _ _ _ _ _ _ us hl=>match us,hl with | [_],_=>rfl) | exact (fun _ _ _ _ _ _ us hl=>match us,hl with | [_,_],_=>rfl) | exact (fun _ _ _ _ _ _ us hl=>match us,hl with | [_,_,_],_=>rfl) | exact (fun _ _ _ _ _ _ us hl=>match us,hl with | [_,_,_,_],_=>rfl) | exact (fun _ _ _ _ _ _ us hl=>match us,hl with | [_,_,_,_,_],_=>rfl) | exact (fun _ _ _ _ _ _ us hl=>match us,hl with | [_,_,_,_,_,_],_=>rfl) | exact (fun _ _ _ _ _ _ us hl=>match us,hl with | [_,_,_,_,_,_,_],_=>rfl)):Def K mg x st ps:=Def.of (cA l c k) ((cA l c k).binds b) (mg_of X G a)
def top (i:Nat):Stmt:=PySem.Challenge.pw_trussyard_k53_influence.main.body.getD i (.Pass ⟨0,0,0,0⟩)
abbrev rE:Stmt:=top 14
abbrev qf:Stmt:=top 15
abbrev uT:Stmt:=top 16
abbrev uU:Stmt:=top 19
abbrev rF:Stmt:=top 20
abbrev uV:Stmt:=top 22
abbrev uW:Stmt:=top 23
abbrev uX:Stmt:=top 24
abbrev uY:Stmt:=top 25
abbrev uZ:Stmt:=top 26
abbrev u0:Stmt:=top 27
abbrev u3:Stmt:=top 28
abbrev u4:Stmt:=top 30
abbrev u5:Stmt:=top 31
abbrev u6:Stmt:=top 32
abbrev u9:Stmt:=top 33
abbrev u_:Stmt:=top 34
abbrev va:Stmt:=top 35
abbrev vb:Stmt:=top 36
abbrev vc:Stmt:=top 37
abbrev vd:Stmt:=top 39
abbrev ve:Stmt:=top 40
abbrev vf:Stmt:=top 50
abbrev vg:Stmt:=top 52
abbrev vh:Stmt:=top 53
abbrev vi:Stmt:=top 54
abbrev vj:Stmt:=top 55
abbrev vk:Stmt:=top 56
abbrev vm:Stmt:=top 57
abbrev rG:Stmt:=top 58
abbrev vn:Stmt:=top 59
abbrev vo:Stmt:=top 60
abbrev vp:Stmt:=top 61
abbrev vq:Stmt:=top 62
abbrev vt:Stmt:=top 63
abbrev vv:Stmt:=top 64
abbrev vw:Stmt:=top 65
abbrev vx:Stmt:=top 66
abbrev vy:Stmt:=top 67
abbrev vz:Stmt:=top 68
abbrev vA:Stmt:=top 69
abbrev s_by:Stmt:=top 70
abbrev vB:Stmt:=top 71
abbrev vC:Stmt:=top 72
abbrev vD:Stmt:=top 73
abbrev g8:Stmt:=top 74
abbrev vE:Stmt:=inClass (top 44) 0
abbrev jB:Stmt:=inClass (top 44) 1
abbrev vF:Stmt:=inClass (top 44) 2
abbrev vG:Stmt:=inClass (top 44) 3
abbrev vH:Stmt:=inClass (top 44) 4
abbrev vI:Stmt:=inClass (top 44) 7
abbrev vJ:Stmt:=inClass (top 44) 8
abbrev vK:Stmt:=inClass (top 44) 9
abbrev vL:Stmt:=inClass (top 44) 10
abbrev vM:Stmt:=inClass (top 44) 11
abbrev z8:Stmt:=inClass (top 46) 0
abbrev vN:Stmt:=inClass (top 47) 0
abbrev vO:Stmt:=inClass (top 47) 1
abbrev vP:Stmt:=inClass (top 48) 0
section
variable {P:Program}{w:World}{K:Frag}{mg:Str→Option Value}{base:Heap}{CX:iJ}
def Nm (H:Hp)(v:V)(q:Int×Int):Prop:=∃p,v=.ref p∧H p=some (.tup [.int q.1,.int q.2])
structure K8 (k:Nat)(q:Int×Int):Prop where
 pos:0 < q.2
 top:intBits q.1≤k
 bot:intBits q.2≤k
theorem aD {H:Hp}{p:Addr}(h:H p=none)(o:HO):ar H (upd H p o):=fun b u q=>by rw [ak (ao q h)];exact q
theorem nw {H H' :Hp}{l:Addr}{o:HO}(n:H l=none)(e:upd H l o=H'):ar H H' ∧H' l=some o:=by subst e;exact ⟨aD n o,ah⟩
def gives (H:Hp)(Q:VK)(q:Int×Int):Prop:=∀(p:Addr) (H' :Hp),ar H H' →H' p=some (.tup [.int q.1,.int q.2])→Q (.ref p) H'
inductive eJ (vs:List V)(H:Hp)(Q:VK)(E_:XK):Prop where
 | mk (a b:Int) (_:vs=[.int a,.int b]) (_:Q (.int (gz a b)) H):eJ vs H Q E_
def subQ (x y:Int×Int):Int×Int:=low (x.1*y.2 - y.1*x.2) (x.2*y.2)
theorem z9 {x y:Int×Int}{k l:Nat}(hx:K8 k x)(hy:K8 l y):x.2*y.2≠0:=aaV (abm hx.pos hy.pos)
theorem g9 {a b:V}:dr [a,b] 0=some a:=rfl
theorem gP {a b:V}:dr [a,b] 1=some b:=rfl
theorem Nm.kept {H H' :Hp}{D:Addr}{ys:List V}{v:V}{q:Int×Int}(h:Nm H v q)(hD:H D=some (.lst ys))(k:bL D H H'):Nm H' v q:=by
 obtain ⟨p,e,z⟩:=h
 exact ⟨p,e,k p _ (fun e=>by rw [e,hD] at z;cases z) z⟩
inductive Ln (H:Hp)(v:V)(l:List Int):Prop where
 | mk (p:_) (_:v=.ref p) (_:H p=some (.lst (l.map V.int))):Ln H v l
theorem Ln.same {H H' :Hp}{v:V}{l:List Int}(h:Ln H v l)(s:ar H H'):Ln H' v l:=by
 obtain ⟨p,e,k⟩:=h
 exact ⟨p,e,s _ _ k⟩
def k_ (H:Hp)(us:List V)(ls:List (List Int)):Prop:=us.length=ls.length∧∀(i:Nat) (u:V) (l:List Int),us[i]? =some u→ls[i]? =some l→Ln H u l
theorem k_.same {H H' :Hp}{us:List V}{ls:List (List Int)}(h:k_ H us ls)(s:ar H H'):k_ H' us ls:=⟨h.1,fun i u l e1 e2=>(h.2 i u l e1 e2).same s⟩
theorem mx {l:List Int}{j:Nat}(h:j < l.length):dr (l.map V.int) (j:Int)=some (.int (l.getD j 0)):=a_ (by rw [Wp,gE h,aaz,gE h];rfl)
theorem getD_mem {l:List Int}{j:Nat}{x:Int}(e:l[j]? =some x):l.getD j 0=x:=by rw [aaz,e];rfl
def Bd (b:Nat)(l:List Int):Prop:=∀j,(l.getD j 0).natAbs≤2^b
theorem Bd.mem {b:Nat}{l:List Int}(h:Bd b l){x:Int}(hx:x∈l):x.natAbs≤2^b:=by
 obtain ⟨i,hi⟩:=aas hx
 rw [← getD_mem hi]
 exact h i
theorem Bd.up {b c:Nat}{l:List Int}(h:Bd b l)(hc:b≤c):Bd c l:=fun j=>j9 (h j) hc
theorem tq:aA ["one","other","left"] ["one","other"] (af uT):=sq
theorem K9 (D:Def K mg "greatest_shared" uT ["one","other"])(my:mg "abs"=none):Fn P w K mg base CX 1 "greatest_shared" ["one","other"] eJ:=by
 refine D.ok tq (fun vs H Q E h=> ?_) (fun f bx A outer s H vs Q E hr h=> ?_)
 ·obtain ⟨a,b,rfl,_⟩:=h
  rfl
 obtain ⟨a,b,rfl,q⟩:=h
 refine ⟨_,(ae (jT PassesOwn.never (aU oR (pv 1) ag (ba _)) (ae (aw (i:=2) tq.nd rfl (aan rfl) (aH d5 (pv 0) (pv 1)))
   (ae (aw (i:=0) tq.nd rfl (aan rfl) (pv 1))
   (aj (aw (i:=1) tq.nd rfl (aan rfl) (pv 2))))))
  (aj (aI (aQ oU rfl my CQ (aq (pv 0) aa))))),?_⟩
 refine oQ (fun σ H' =>∃(x y:Int) (l:Option V),σ=[some (.int x),some (.int y),l]∧H' =H∧aa0 x y=aa0 a b) (fun σ _=>match σ with | [_,some (.int y),_]=>y.natAbs | _=>0) ⟨a,b,none,rfl,rfl,rfl⟩ ?_ ?_
 ·rintro σ H' ⟨x,y,l,rfl,rfl,g⟩
  refine ⟨_,rfl,rfl,_,rfl,?_⟩
  refine bI (fun c=> ?_) (fun c=> ?_)
  ·have hy:y≠0:=by
    intro z
    subst z
    simp at c
   refine ⟨_,rfl,_,rfl,_,_,rfl,rfl,hy,?_⟩
   refine ⟨_,rfl,_,rfl,?_⟩
   exact ⟨⟨_,_,_,rfl,rfl,by rw [oZ];exact g⟩,lW hy⟩
  ·have hy:y=0:=by
    have:=abN.mpr c
    simp at this
    exact this
   subst hy
   refine ⟨_,rfl,x,rfl,?_⟩
   have e:(if x < 0 then -x else x)=gz a b:=by
    rw [ake] at g
    unfold gz
    rw [← g]
    split <;> omega
   rw [e]
   exact q
 ·rintro σ H' Q1 Q2 h ⟨v,e1,e2,k,ek,z⟩
  exact ⟨v,e1,e2,k,ek,h _ _ z⟩
inductive eK (vs:List V)(H:Hp)(Q:VK)(E_:XK):Prop where
 | mk (t b:Int) (_:vs=[.int t,.int b]) (_:b≠0) (_:gives H Q (low t b)):eK vs H Q E_
theorem xS:aA ["top","bottom","shared"] ["top","bottom"] (af qf):=sq
theorem K_ (ht:P.given.tree=none)(D:Def K mg "lowest_terms" qf ["top","bottom"])(rH:Fn P w K mg base (aX P w) 1 "greatest_shared" ["one","other"] eJ):Fn P w K mg base (aX P w) 33 "lowest_terms" ["top","bottom"] eK:=by
 refine D.ok xS (fun vs H Q E h=> ?_) (fun f bx A outer s H vs Q E hr h=> ?_)
 ·obtain ⟨t,b,rfl,_⟩:=h
  rfl
 obtain ⟨t,b,rfl,hb,q⟩:=h
 have K':∃tt,PSs (jy (aX P w) P w K mg base ["top","bottom","shared"] "lowest_terms" (af qf) f bx A outer s H E).so ((au qf).drop 2) tt∧∀g:Int,g=sg t b→tt {nx:=fun _ H' =>Q .cb H',rt:=Q} [some (.int t),some (.int b),some (.int g)] H:=by
  refine ⟨_,(aj (aI (aR (aq (aH (dJ ht (Ty.b7.py hr (by decide)) rfl rfl rfl rfl rfl) (pv 0) (pv 2)) (aq (aH (dJ ht (Ty.b7.py hr (by decide)) rfl rfl rfl rfl rfl) (pv 1) (pv 2)) aa))))),?_⟩
  rintro g rfl
  have c:=jZ (t:=t) hb
  refine ⟨_,rfl,_,rfl,_,_,rfl,rfl,c,_,rfl,_,rfl,_,_,rfl,rfl,c,(by show 2≤sizeLine;decide),fun p hp=> ?_⟩
  exact q p _ (aD hp _) ah
 obtain ⟨t2,p2,q2⟩:=K'
 refine ⟨_,(ae (aw (i:=2) xS.nd rfl (aan rfl) (ay rH hr.mo pX (aq (pv 0) (aq (pv 1) aa)))) (ae (bG (aU oT (pv 1) ag (ba _)) (aj (aw (i:=2) xS.nd rfl (aan rfl) (wM qO (pv 2)))) aY) p2)),?_⟩
 refine ⟨_,rfl,_,rfl,t,b,rfl,?_⟩
 refine ⟨_,rfl,_,_,rfl,rfl,_,rfl,?_⟩
 refine bI (fun c=> ?_) (fun c=> ?_)
 ·refine ⟨_,rfl,_,rfl,q2 _ ?_⟩
  have c' :b < 0:=of_decide_eq_true c
  unfold sg
  rw [if_pos c']
 ·refine q2 _ ?_
  have c' :¬ b < 0:=of_decide_eq_false (abN.mpr c)
  unfold sg
  rw [if_neg c']
inductive GP (K:Frag)(vs:List V)(H:Hp)(Q:VK)(E_:XK):Prop where
 | mk (a:Addr) (qs:List (Int×Int)) (T B:Nat) (_:vs=[.ref a]) (_:Sy K H a qs) (_:(∀q∈qs,Sm T B q)) (_:T≤20000) (_:B*qs.length≤8000) (_:B≤8000) (_:qs.length≤1000) (_:∀(p l:Addr) (ts:List Int) (b:Int) (H' :Hp),ar H H' →H l=none→H' p=some (.tup [.ref l,.int b])→H' l=some (.lst (ts.map V.int))→0 < b→b.natAbs≤2^(B*qs.length)→jh ts qs b→(∀t∈ts,t.natAbs≤2^(T+B*qs.length))→Q (.ref p) H'):GP K vs H Q E_
theorem tu:aA ["row","bottom","number"] ["row"] (af u6):=sq
theorem La (D:Def K mg "whole_row" u6 ["row"])(rH:Fn P w K mg base (aX P w) 1 "greatest_shared" ["one","other"] eJ):Fn P w K mg base (aX P w) 2 "whole_row" ["row"] (GP K):=by
 refine D.ok tu (fun vs H Q E h=> ?_) (fun f bx A outer s H vs Q E hr h=> ?_)
 ·obtain ⟨a,qs,T,B,rfl,_⟩:=h
  rfl
 obtain ⟨a,qs,T,B,rfl,⟨us,hS,hN⟩,sm,hT,hB,hB1,hl,q⟩:=h
 refine ⟨_,(ae (aw (i:=1) tu.nd rfl (aaZ rfl) ag)
  (ae (bo PassesOwn.never rfl (bN (pv 0)) (aG (i:=2) tu.nd rfl (aan rfl)) (aj (aw (i:=1) tu.nd rfl (aaZ rfl) (aH b_ (aH pd (pv 1) (ay rH hr.mo pX (aq (pv 1) (aq (aJ (pv 2)) aa)))) (aJ (pv 2))))))
  (aj (aI (aR (aq (de (tn:=["number"]) (fr:=["bottom"]) (caps:=[1]) rfl ⟨rfl,by decide+kernel,rfl,by decide+kernel,by decide+kernel,rfl,⟨(by first | exact aan rfl | exact aaZ rfl),trivial⟩,⟨(by first | exact aan rfl | exact aaZ rfl),trivial⟩⟩ (bN (pv 0)) (fun _ _ _ _=>(aG (i:=0) (show (["number","bottom"]:List Str).Nodup from by decide+kernel) rfl (aan rfl))) (fun _ _ _ _=>cR) (fun _ _ _ _=>(aH b_ (aS (du (K:=K) rfl) (pv 0) ag (fun _ _=>rfl)) (aH pd (pv 1) (aS (du (K:=K) rfl) (pv 0) ag (fun _ _=>rfl)))))) (aq (pv 1) aa))))))),?_⟩
 have hlu:=hN.1
 have qat:∀{i:Nat} {u:V},us[i]? =some u→∃q,qs[i]? =some q∧iW K H u q∧Sm T B q:=fun {i u} e=>by
  have hi:i < us.length:=(be.mp e).1
  have e2:qs[i]? =some (qs[i]'(by omega)):=gE (by omega)
  exact ⟨_,e2,hN.2 i u _ e e2,sm _ (abo _)⟩
 refine ⟨_,rfl,a,rfl,⟨_,hS⟩,cC (K:=K) (a:=a) (xs:=us) (fun i σ H' =>∃(b:Int) (o:Option V),σ=[some (.ref a),some (.int b),o]∧H' =H∧0 < b∧b.natAbs≤2^(B*i)∧∀j,j < i→∀q,qs[j]? =some q→q.2 ∣ b) ⟨1,none,rfl,rfl,by decide,by simp,fun j h=>absurd h (abf _)⟩ (fun i σ H' _ ⟨b,o,_,e,_⟩=>by rw [e];exact hS) ?_ ?_⟩
 ·rintro i u σ H' hu ⟨b,o,rfl,rfl,hb,hs,hd⟩
  obtain ⟨n,en,⟨p,rfl,hp⟩,sn⟩:=qat hu
  have hi:i < qs.length:=(be.mp en).1
  have nb:n.2.natAbs≤2^B:=sn.bot
  obtain ⟨l1,l2,l3,l4⟩:=xo hb sn.pos
  have gp:=m6 (t:=b) (b:=n.2) (by have:=sn.pos;omega)
  have gl:=Kg (t:=b) (b:=n.2) (by have:=sn.pos;omega)
  have sz:(b.fdiv (gz b n.2)*n.2).natAbs≤2^(B*(i+1)):=by
   refine aak l4 ?_
   rw [Nat.mul_succ,akC]
   exact aj8 hs nb
  have bi:B*i≤8000:=aak (Nat.mul_le_mul_left B (by omega)) hB
  have g1:gz b n.2 ∣ b:=abn ..
  refine ⟨_,rfl,_,rfl,_,rfl,p,_,_,_,rfl,rfl,hp,gP,b,n.2,rfl,?_⟩
  refine ⟨_,_,rfl,rfl,⟨by omega,aak (f7 (aak gl nb) (aa6 B)) (by omega)⟩,?_⟩
  refine ⟨_,rfl,p,_,_,_,rfl,rfl,hp,gP,_,_,rfl,rfl,jJ (aak (eE (by omega) g1) hs) nb (by omega) (by omega),?_⟩
  refine ⟨_,_,rfl,rfl,l1,sz,fun j hj q' e' => ?_⟩
  rcases aa8.mp hj with z | z
  ·exact Int.dvd_trans (hd j z q' e') l2
  ·subst z
   rw [en] at e'
   cases e'
   exact l3
 ·rintro σ H' ⟨b,o,rfl,rfl,hb,hs,hd⟩
  rw [hlu] at hs hd
  refine ⟨_,rfl,a,rfl,⟨_,hS⟩,fun D nD=> ?_⟩
  refine c6 (cap:=[some (.int b)]) (K:=K) (a:=a) (xs:=us) (fun i v _=>∃q,qs[i]? =some q∧v=.int (q.1*b.fdiv q.2)) nD (by rw [hlu];exact aar hl (by decide)) (fun H2 s2=>s2.seq hS) (fun _ _ _ _ _ _ _ h=>h) ?_ ?_
  ·intro i u H2 R hu s2 k
   obtain ⟨n,en,⟨p,rfl,hp⟩,sn⟩:=qat hu
   have Kw:=Ty.ar.cO s2 hp
   have dv:=hd i (be.mp en).1 n en
   have n0:n.2≠0:=by have:=sn.pos;omega
   refine ⟨_,rfl,p,_,_,_,rfl,rfl,Kw,g9,?_⟩
   refine ⟨_,rfl,_,rfl,p,_,_,_,rfl,rfl,Kw,gP,_,_,rfl,rfl,⟨n0,aak (f7 sn.bot (aa6 B)) (by omega)⟩,?_⟩
   exact ⟨_,_,rfl,rfl,jJ sn.top (aak (eE n0 dv) hs) (by omega) (by omega),k _ _ (ar.refl _) ⟨n,en,rfl⟩⟩
  ·intro ys H2 hy gF s2 hD
   have ey:ys=(qs.map fun n=>n.1*b.fdiv n.2).map V.int:=by
    refine aa7 fun i=> ?_
    by_cases hi:i < ys.length
    ·have e1:ys[i]? =some ys[i]:=gE hi
     obtain ⟨n,en,ev⟩:=gF i _ e1
     rw [e1,ev,Wp,Wp,en]
     rfl
    ·rw [aam (by omega),aam (by simp;omega)]
   refine ⟨_,rfl,(by show 2≤sizeLine;decide),fun p np=> ?_⟩
   have s3:=aD np (.tup [.ref D,.int b])
   refine q p D (qs.map fun n=>n.1*b.fdiv n.2) b _ (s2.trans s3) nD ah (s3 _ _ (by rw [hD,ey])) hb hs ⟨by simp,fun i t n e1 e2=> ?_⟩ (fun t ht=> ?_)
   ·rw [Wp,e2] at e1
    have uq :n.1*b.fdiv n.2=t:=aaE e1
    rw [← uq]
    exact uz (sm n (aai e2)).pos (hd i (be.mp e2).1 n e2)
   ·obtain ⟨n,hn,rfl⟩:=aal.mp ht
    obtain ⟨i,hi⟩:=aas hn
    have n0:n.2≠0:=by have:=(sm n hn).pos;omega
    exact nq (sm n hn).top (aak (eE n0 (hd i (be.mp hi).1 n hi)) hs)
structure Dv (l l' :List Int):Prop where
 len:l'.length=l.length
 fac:∃g:Int,g≠0∧∀j,g*l'.getD j 0=l.getD j 0
inductive iZ (vs:List V)(H:Hp)(Q:VK)(E_:XK):Prop where
 | mk (v:V) (l:List Int) (_:vs=[v]) (_:Ln H v l) (_:l.length≤1000) (_:∀v' l' H',ar H H' →Ln H' v' l' →Dv l l' →(v' =v∨∃p,v' =.ref p∧H p=none)→Q v' H'):iZ vs H Q E_
theorem z_ (l:List Int):Dv l l:=⟨rfl,1,by decide,fun j=>Int.one_mul _⟩
theorem tw:aA ["line","shared","whole"] ["line"] (af vc):=sq
theorem Lb (ht:P.given.tree=none)(D:Def K mg "divided" vc ["line"])(rH:Fn P w K mg base (aX P w) 1 "greatest_shared" ["one","other"] eJ):Fn P w K mg base (aX P w) 33 "divided" ["line"] iZ:=by
 refine D.ok tw (fun vs H Q E h=> ?_) (fun f bx A outer s H vs Q E hr h=> ?_)
 ·obtain ⟨v,l,rfl,_⟩:=h
  rfl
 obtain ⟨v,l,rfl,⟨a,rfl,ha⟩,hn,q⟩:=h
 have same:Q (.ref a) H:=q _ l H (ar.refl H) ⟨a,rfl,ha⟩ (z_ l) (.inl rfl)
 refine ⟨_,(ae (aw (i:=1) tw.nd rfl (aaZ rfl) ag)
  (ae (bo PassesOwn.never rfl (bN (pv 0)) (aG (i:=2) tw.nd rfl (aan rfl)) (ae (aw (i:=1) tw.nd rfl (aaZ rfl) (ay rH hr.mo pX (aq (pv 2) (aq (pv 1) aa))))
   (aj (bG (aU cD (pv 1) ag (ba _)) (aj (aI (pv 0))) aY))))
  (aj (aI (oN (aU JY (pv 1) ag (ba _)) (de (tn:=["whole"]) (fr:=["shared"]) (caps:=[1]) rfl ⟨rfl,by decide+kernel,rfl,by decide+kernel,by decide+kernel,rfl,⟨(by first | exact aan rfl | exact aaZ rfl),trivial⟩,⟨(by first | exact aan rfl | exact aaZ rfl),trivial⟩⟩ (bN (pv 0)) (fun _ _ _ _=>(aG (i:=0) (show (["whole","shared"]:List Str).Nodup from by decide+kernel) rfl (aan rfl))) (fun _ _ _ _=>cR) (fun _ _ _ _=>(aH (dJ ht (Ty.b7.py hr (by decide)) rfl rfl rfl rfl rfl) (pv 0) (pv 1)))) (pv 0)))))),?_⟩
 refine ⟨_,rfl,a,rfl,⟨_,aT.of ha⟩,cC (K:=K) (a:=a) (xs:=l.map V.int) (fun i σ H' =>∃(g:Int) (o:Option V),σ=[some (.ref a),some (.int g),o]∧H' =H∧0≤g∧∀j,j < i→∀x,l[j]? =some x→g ∣ x) ⟨0,none,rfl,rfl,by decide,fun j h=>absurd h (abf _)⟩ (fun i σ H' _ ⟨g,o,_,e,_⟩=>by rw [e];exact aT.of ha) ?_ ?_⟩
 ·rintro i u σ H' hu ⟨g,o,rfl,rfl,g0,hg⟩
  rw [Wp] at hu
  obtain ⟨x,ex,rfl⟩:=aaw.mp hu
  have d1:gz x g ∣ x:=abn ..
  have d2:gz x g ∣ g:=abl ..
  have p0:0≤gz x g:=Int.natCast_nonneg _
  refine ⟨_,rfl,_,rfl,x,g,rfl,?_⟩
  refine ⟨_,rfl,rfl,_,rfl,?_⟩
  refine bI (fun _=>⟨_,rfl,same⟩) (fun _=> ?_)
  refine ⟨_,_,rfl,rfl,p0,fun j hj y ey=> ?_⟩
  rcases aa8.mp hj with z | z
  ·exact Int.dvd_trans d2 (hg j z y ey)
  ·subst z
   rw [ex] at ey
   cases ey
   exact d1
 ·rintro σ H' ⟨g,o,rfl,rfl,g0,hg⟩
  rw [ir] at hg
  refine ⟨_,rfl,_,_,rfl,rfl,_,rfl,?_⟩
  refine bI (fun c=> ?_) (fun _=>⟨_,rfl,same⟩)
  have g1:(1:Int) < g:=of_decide_eq_true c
  have gn:g≠0:=by omega
  refine ⟨_,rfl,a,rfl,⟨_,aT.of ha⟩,fun D nD=> ?_⟩
  refine c6 (cap:=[some (.int g)]) (K:=K) (a:=a) (xs:=l.map V.int) (fun i v _=>∃x,l[i]? =some x∧v=.int (x.fdiv g)) nD (by rw [ir];exact aar hn (by decide)) (fun H2 s2=>aT.of (s2 _ _ ha)) (fun _ _ _ _ _ _ _ h=>h) ?_ ?_
  ·intro i u H2 R hu s2 k
   rw [Wp] at hu
   obtain ⟨x,ex,rfl⟩:=aaw.mp hu
   exact ⟨_,rfl,_,rfl,_,_,rfl,rfl,gn,k _ _ (ar.refl _) ⟨x,ex,rfl⟩⟩
  ·intro ys H2 hy gF s2 hD
   rw [ir] at hy
   have ey:ys=(l.map fun x=>x.fdiv g).map V.int:=by
    refine aa7 fun i=> ?_
    by_cases hi:i < ys.length
    ·have e1:ys[i]? =some ys[i]:=gE hi
     obtain ⟨x,ex,ev⟩:=gF i _ e1
     rw [e1,ev,Wp,Wp,ex]
     rfl
    ·rw [aam (by omega),aam (by simp;omega)]
   refine q _ (l.map fun x=>x.fdiv g) H2 s2 ⟨D,rfl,by rw [hD,ey]⟩ ⟨by simp,g,gn,fun j=> ?_⟩ (.inr ⟨D,rfl,nD⟩)
   by_cases hj:j < l.length
   ·have ej:l[j]? =some l[j]:=gE hj
    rw [getD_mem (l:=l.map fun x=>x.fdiv g) (x:=l[j].fdiv g) (by rw [Wp,ej];rfl),getD_mem ej]
    exact (bZ gn (hg j hj _ ej)).symm
   ·rw [aaz,aaz,aam (by simp;omega),aam (by omega)]
    simp
inductive i0 (vs:List V)(H:Hp)(Q:VK)(E_:XK):Prop where
 | mk (u v:V) (l m:List Int) (c b1 b2:Nat) (_:vs=[u,v,.int (c:Int)]) (_:Ln H u l) (_:Ln H v m) (_:m.length=l.length) (_:c < l.length) (_:l.length≤1000) (_:m.getD c 0≠0) (_:Bd b1 l) (_:Bd b2 m) (_:b1≤29000000) (_:b2≤29000000) (_:∀v' l' H',ar H H' →Ln H' v' l' →pS l m l' c→Bd (b1+b2+1) l' →(v' =u∨∃p,v' =.ref p∧H p=none)→Q v' H'):i0 vs H Q E_
theorem AA {a b:Int}(ha:a≠0):a=gz a b*a.fdiv (gz a b)∧b=gz a b*b.fdiv (gz a b)∧gz a b≠0∧a.fdiv (gz a b)≠0∧(a.fdiv (gz a b)).natAbs≤a.natAbs∧(b.fdiv (gz a b)).natAbs≤b.natAbs:=by
 have gn:gz a b≠0:=by
  intro z
  have z' :((aa0 a b:Nat):Int)=0:=z
  have:aa0 a b=0:=by omega
  exact ha (Int.gcd_eq_zero_iff.mp this).1
 have d1:gz a b ∣ a:=abn ..
 have d2:gz a b ∣ b:=abl ..
 have e1:=bZ gn d1
 refine ⟨e1,bZ gn d2,gn,fun z=> ?_,eE gn d1,eE gn d2⟩
 rw [z,abJ] at e1
 exact ha e1
theorem AB {l m:List Int}{t u:Int}{ys:List V}(hl:m.length=l.length)(hy:ys.length=l.length)(h:∀(i:Nat) (v:V),ys[i]? =some v→∃x y,l[i]? =some x∧m[i]? =some y∧v=.int (t*x - u*y)):ys=(aba (fun x y=>t*x - u*y) l m).map V.int:=by
 refine aa7 fun i=> ?_
 by_cases hi:i < ys.length
 ·have e1:ys[i]? =some ys[i]:=gE hi
  obtain ⟨x,y,ex,ey,ev⟩:=h i _ e1
  rw [e1,ev,Wp,abu,ex,ey]
  rfl
 ·rw [aam (by omega),aam (by simp;omega)]
theorem xT {l m:List Int}{t u:Int}(hl:m.length=l.length)(j:Nat):(aba (fun x y=>t*x - u*y) l m).getD j 0=t*l.getD j 0 - u*m.getD j 0:=by
 by_cases hj:j < l.length
 ·have e1:l[j]? =some l[j]:=gE hj
  have e2:m[j]? =some (m[j]'(by omega)):=gE (by omega)
  rw [getD_mem e1,getD_mem e2]
  exact getD_mem (by rw [abu,e1,e2])
 ·rw [aaz,aaz,aaz,aam (by simp;omega),aam (by omega),aam (by omega)]
  simp
theorem tD:aA ["line","lead","column","shared","times","less"] ["line","lead","column"] (af vb):=sq
theorem Lc (ht:P.given.tree=none)(D:Def K mg "cleared" vb ["line","lead","column"])(gm:mg "zip"=none)(rH:Fn P w K mg base (aX P w) 1 "greatest_shared" ["one","other"] eJ)(SG:Fn P w K mg base (aX P w) 33 "divided" ["line"] iZ):Fn P w K mg base (aX P w) 34 "cleared" ["line","lead","column"] i0:=by
 refine D.ok tD (fun vs H Q E h=> ?_) (fun f bx A outer s H vs Q E hr h=> ?_)
 ·obtain ⟨u,v,l,m,c,b1,b2,rfl,_⟩:=h
  rfl
 obtain ⟨u,v,l,m,c,b1,b2,rfl,⟨a,rfl,ha⟩,⟨a',rfl,Q4⟩,hl,hc,hn,hm,B1,B2,hb1,hb2,q⟩:=h
 refine ⟨_,(ae (bG (aU cD (aS aK (pv 0) (pv 2) (fun _ _=>rfl)) ag (ba _)) (aj (aI (pv 0))) aY)
  (ae (aw (i:=3) tD.nd rfl (aan rfl) (ay rH hr.mo pX (aq (aS aK (pv 1) (pv 2) (fun _ _=>rfl)) (aq (aS aK (pv 0) (pv 2) (fun _ _=>rfl)) aa))))
  (ae (aw (i:=4) tD.nd rfl (aaZ rfl) (aH (dJ ht (Ty.b7.py hr (by decide)) rfl rfl rfl rfl rfl) (aS aK (pv 1) (pv 2) (fun _ _=>rfl)) (pv 3)))
  (ae (aw (i:=5) tD.nd rfl (aaZ rfl) (aH (dJ ht (Ty.b7.py hr (by decide)) rfl rfl rfl rfl rfl) (aS aK (pv 0) (pv 2) (fun _ _=>rfl)) (pv 3)))
  (aj (aI (ay SG hr.mo pX (aq (de (tn:=["whole","other"]) (fr:=["times","less"]) (caps:=[4,5]) rfl ⟨rfl,by decide+kernel,rfl,by decide+kernel,by decide+kernel,rfl,⟨(by first | exact aan rfl | exact aaZ rfl),⟨(by first | exact aan rfl | exact aaZ rfl),trivial⟩⟩,⟨(by first | exact aan rfl | exact aaZ rfl),⟨(by first | exact aan rfl | exact aaZ rfl),trivial⟩⟩⟩ (q_ rfl gm (aq (pv 0) (aq (pv 1) aa))) (fun _ _ _ _=>(ni (K:=K) (n:=2) rfl rfl (bg (aG (i:=0) (show (["whole","other","times","less"]:List Str).Nodup from by decide+kernel) rfl (aan rfl)) (bg (aG (i:=1) (show (["whole","other","times","less"]:List Str).Nodup from by decide+kernel) rfl (aan rfl)) c_)))) (fun _ _ _ _=>cR) (fun _ _ _ _=>(aH cu (aH b_ (pv 2) (pv 0)) (aH b_ (pv 3) (pv 1))))) aa)))))))),?_⟩
 have ea:=mx (l:=l) hc
 have em:=mx (l:=m) (j:=c) (by omega)
 refine ⟨_,rfl,_,rfl,a,_,_,_,rfl,rfl,aT.of ha,ea,rfl,_,rfl,?_⟩
 refine bI (fun z=> ?_) (fun z=> ?_)
 ·have z' :l.getD c 0=0:=by simpa using of_decide_eq_true z
  exact ⟨_,rfl,q _ l H (ar.refl H) ⟨a,rfl,ha⟩ ⟨rfl,z',1,1,0,by decide,by decide,fun j=>by omega⟩ (B1.up (by omega)) (.inl rfl)⟩
 ·obtain ⟨f1,f2,f3,f4,f5,f6⟩:=AA (a:=m.getD c 0) (b:=l.getD c 0) hm
  refine ⟨_,rfl,_,rfl,a',_,_,_,rfl,rfl,aT.of Q4,em,_,rfl,_,rfl,a,_,_,_,rfl,rfl,aT.of ha,ea,_,_,rfl,?_⟩
  refine ⟨_,rfl,_,rfl,a',_,_,_,rfl,rfl,aT.of Q4,em,_,rfl,_,_,rfl,rfl,f3,?_⟩
  refine ⟨_,rfl,_,rfl,a,_,_,_,rfl,rfl,aT.of ha,ea,_,rfl,_,_,rfl,rfl,f3,?_⟩
  refine ⟨_,rfl,_,rfl,a,a',rfl,⟨_,aT.of ha⟩,⟨_,aT.of Q4⟩,fun D1 n1=> ?_⟩
  have st:((m.getD c 0).fdiv (gz (m.getD c 0) (l.getD c 0))).natAbs≤2^b2:=aak f5 (B2 c)
  have su:((l.getD c 0).fdiv (gz (m.getD c 0) (l.getD c 0))).natAbs≤2^b1:=aak f6 (B1 c)
  refine pF (cap:=[some (.int ((m.getD c 0).fdiv (gz (m.getD c 0) (l.getD c 0)))),some (.int ((l.getD c 0).fdiv (gz (m.getD c 0) (l.getD c 0))))]) (K:=K) (xs:=l.map V.int) (ys:=m.map V.int) (fun i v _=>∃x y,l[i]? =some x∧m[i]? =some y∧v=.int ((m.getD c 0).fdiv (gz (m.getD c 0) (l.getD c 0))*x - (l.getD c 0).fdiv (gz (m.getD c 0) (l.getD c 0))*y)) n1 (by rw [ir];exact aar hn (by decide)) (by simpa using hl) (fun H2 s2=>aT.of (s2 _ _ ha)) (fun H2 s2=>aT.of (s2 _ _ Q4)) (fun _ _ _ _ _ _ _ h=>h) ?_ ?_
  ·intro i x y H2 R ex ey s2 k
   rw [Wp] at ex ey
   obtain ⟨x',JH,rfl⟩:=aaw.mp ex
   obtain ⟨y',Q6,rfl⟩:=aaw.mp ey
   refine ⟨_,rfl,_,rfl,_,_,rfl,rfl,jJ st (B1.mem (aai JH)) (by omega) (by omega),?_⟩
   exact ⟨_,rfl,_,rfl,_,_,rfl,rfl,jJ su (B2.mem (aai Q6)) (by omega) (by omega),_,_,rfl,rfl,k _ _ (ar.refl _) ⟨x',y',JH,Q6,rfl⟩⟩
  ·intro ys H2 hy gF s2 hD
   rw [ir] at hy
   have ey:=AB hl hy gF
   refine ⟨_,_,rfl,⟨D1,rfl,by rw [hD,ey]⟩,by simp;omega,fun v' l' H3 s3 L3 dv fr=> ?_⟩
   obtain ⟨g,gn,hg⟩:=dv.fac
   have DA:∀j,g*l'.getD j 0=(m.getD c 0).fdiv (gz (m.getD c 0) (l.getD c 0))*l.getD j 0 - (l.getD c 0).fdiv (gz (m.getD c 0) (l.getD c 0))*m.getD j 0:=fun j=>by rw [hg j,xT hl]
   refine q v' l' H3 (s2.trans s3) L3 ⟨by rw [dv.len];simp [hl],?_,g,_,_,gn,f4,DA⟩ (fun j=> ?_) ?_
   ·have e:=DA c
    have z2:(m.getD c 0).fdiv (gz (m.getD c 0) (l.getD c 0))*l.getD c 0 - (l.getD c 0).fdiv (gz (m.getD c 0) (l.getD c 0))*m.getD c 0=0:=by
     generalize gz (m.getD c 0) (l.getD c 0)=G at*
     generalize (m.getD c 0).fdiv G=t at*
     generalize (l.getD c 0).fdiv G=u at*
     rw [f1,f2]
     grind
    rw [z2] at e
    rcases aj4.mp e with y | y
    ·exact absurd y gn
    ·exact y
   ·have b:(g*l'.getD j 0).natAbs≤2^(b1+b2+1):=by
     rw [DA j,Int.sub_eq_add_neg]
     refine FQ (j9 (nq st (B1 j)) (by omega)) ?_
     rw [ab3]
     exact nq su (B2 j)
    exact aak (cE gn) b
   ·rcases fr with z | ⟨p,e,n⟩
    ·exact .inr ⟨D1,z,n1⟩
    ·exact .inr ⟨p,e,s2.free n⟩
inductive nJ (K:Frag)(vs:List V)(H:Hp)(Q:VK)(E_:XK):Prop where
 | mk (a:Addr) (us:List V) (ls:List (List Int:_)) (c:Nat) (_:vs=[.ref a,.int (c:Int)]) (_:aT K H a us) (_:k_ H us ls) (_:(∀l∈ls,c < l.length)) (_:(∀(i:Nat) (l:List Int) (H' :Hp),ar H H' →ls[i]? =some l→l.getD c 0≠0→Q (.int (i:Int)) H')) (_:((∀l∈ls,l.getD c 0=0)→∀H',ar H H' →Q .cb H')):nJ K vs H Q E_
theorem k_.at {H:Hp}{us:List V}{ls:List (List Int)}(h:k_ H us ls){i:Nat}{u:V}(e:us[i]? =some u):∃l,ls[i]? =some l∧Ln H u l:=by
 have hi:i < us.length:=(be.mp e).1
 have hl:=h.1
 have e2:ls[i]? =some (ls[i]'(by omega)):=gE (by omega)
 exact ⟨_,e2,h.2 i u _ e e2⟩
theorem k_.at' {H:Hp}{us:List V}{ls:List (List Int)}(h:k_ H us ls){i:Nat}{l:List Int}(e:ls[i]? =some l):∃u,us[i]? =some u∧Ln H u l:=by
 have hi:i < ls.length:=(be.mp e).1
 have hl:=h.1
 have e2:us[i]? =some (us[i]'(by omega)):=gE (by omega)
 exact ⟨_,e2,h.2 i _ l e2 e⟩
theorem xU:aA ["lines","column","at","line"] ["lines","column"] (af va):=sq
theorem Ld (D:Def K mg "first_not_nought" va ["lines","column"])(cM:mg "enumerate"=none):Fn P w K mg base (aX P w) 1 "first_not_nought" ["lines","column"] (nJ K):=by
 refine D.ok xU (fun vs H Q E h=> ?_) (fun f bx A outer s H vs Q E hr h=> ?_)
 ·obtain ⟨a,us,ls,c,rfl,_⟩:=h
  rfl
 obtain ⟨a,us,ls,c,rfl,hS,L,hc,q1,q2⟩:=h
 have lu:=L.1
 refine ⟨_,(ae (bo PassesOwn.never rfl (sT rfl cM (aq (pv 0) aa)) (fJ rfl (bg (aG (i:=2) xU.nd rfl (aan rfl)) (bg (aG (i:=3) xU.nd rfl (aan rfl)) c_))) (aj (bG (aU oR (aS aK (pv 3) (pv 1) (fun _ _=>rfl)) ag (ba _)) (aj (aI (pv 2))) aY)))
  (aj (aI jS))),?_⟩
 refine ⟨_,rfl,a,rfl,⟨_,hS⟩,pT (K:=K) (a:=a) (xs:=us) (fun i σ H' =>∃o1 o2:Option V,σ=[some (.ref a),some (.int (c:Int)),o1,o2]∧ar H H' ∧∀j,j < i→∀l,ls[j]? =some l→l.getD c 0=0) ⟨none,none,rfl,ar.refl H,fun j h=>absurd h (abf _)⟩ (fun i σ H' _ ⟨o1,o2,_,s1,_⟩=>s1.seq hS) ?_ ?_⟩
 ·rintro i u σ H' p hu ⟨o1,o2,rfl,s1,z⟩ np
  obtain ⟨l,el,b,rfl,hb⟩:=L.at hu
  have s2:=s1.trans (aD np (.tup [.int (i:Int),.ref b]))
  have hcl:=hc l (aai el)
  refine ⟨p,_,rfl,bQ.of ah,rfl,_,_,rfl,_,_,rfl,rfl,?_⟩
  refine ⟨_,rfl,_,rfl,b,_,_,_,rfl,rfl,aT.of (s2 _ _ hb),mx hcl,rfl,_,rfl,?_⟩
  refine bI (fun y=> ?_) (fun y=> ?_)
  ·have y' :l.getD c 0≠0:=by simpa using y
   exact ⟨_,rfl,q1 i l _ s2 el y'⟩
  ·have y' :l.getD c 0=0:=by simpa using y
   refine ⟨_,_,rfl,s2,fun j hj l' e' => ?_⟩
   rcases aa8.mp hj with w | w
   ·exact z j w l' e'
   ·subst w
    rw [el] at e'
    cases e'
    exact y'
 ·rintro σ H' ⟨o1,o2,rfl,s1,z⟩
  refine q2 (fun l hl=> ?_) H' s1
  obtain ⟨j,hj⟩:=aas hl
  exact z j (by have:=(be.mp hj).1;omega) l hj
structure Red (os:List (List Int))(L c b:Nat)(nd:List (Nat×List Int))(lv:List (List Int)):Prop where
 lH:∀x∈nd,x.2.length=L
 gG:∀l∈lv,l.length=L
 cols:∀x∈nd,x.1 < c
 asc:(nd.map (·.1)).Pairwise (· < ·)
 here:∀x∈nd,x.2.getD x.1 0≠0
 off:∀x∈nd,∀y∈nd,x.1≠y.1→x.2.getD y.1 0=0
 low:∀x∈nd,∀j,j < x.1→x.2.getD j 0=0
 zero:∀l∈lv,∀j,j < c→l.getD j 0=0
 qg:∀x∈nd,iU os x.2
 g_:∀l∈lv,iU os l
 sol:∀z,((∀x∈nd,ev x.2 z=0)∧(∀l∈lv,ev l z=0)) ↔ ∀o∈os,ev o z=0
 AD:∀x∈nd,Bd b x.2
 y6:∀l∈lv,Bd b l
 cnt:nd.length+lv.length=os.length
theorem Red.start {os:List (List Int)}{L b:Nat}(hL:∀o∈os,o.length=L)(hb:∀o∈os,Bd b o):Red os L 0 b [] os where
 lH:=by simp
 gG:=hL
 cols:=by simp
 asc:=by simp
 here:=by simp
 off:=by simp
 low:=by simp
 zero:=fun _ _ j h=>absurd h (abf _)
 qg:=by simp
 g_:=fun l h=>pR h
 sol:=fun z=>by simp
 AD:=by simp
 y6:=hb
 cnt:=by simp
theorem Red.skip {os:List (List Int)}{L c b:Nat}{nd:List (Nat×List Int)}{lv:List (List Int)}(h:Red os L c b nd lv)(hz:∀l∈lv,l.getD c 0=0):Red os L (c+1) b nd lv where
 lH:=h.lH
 gG:=h.gG
 cols:=fun x hx=>abL (h.cols x hx)
 asc:=h.asc
 here:=h.here
 off:=h.off
 low:=h.low
 zero:=fun l hl j hj=>by
  rcases aa8.mp hj with z | z
  ·exact h.zero l hl j z
  ·subst z
   exact hz l hl
 qg:=h.qg
 g_:=h.g_
 sol:=h.sol
 AD:=h.AD
 y6:=h.y6
 cnt:=h.cnt
structure Made (os:List (List Int))(lead:List Int)(c b:Nat)(xs ys:List (List Int)):Prop where
 len:ys.length=xs.length
 to:∀(i:Nat) (x:List Int),xs[i]? =some x→∃y,ys[i]? =some y∧pS x lead y c∧Bd b y
theorem Made.ex {os:List (List Int)}{lead:List Int}{c b:Nat}{xs ys:List (List Int)}(h:Made os lead c b xs ys){y:List Int}(hy:y∈ys):∃x∈xs,pS x lead y c∧Bd b y:=by
 obtain ⟨i,hi⟩:=aas hy
 have hl:=h.len
 have jV:i < ys.length:=(be.mp hi).1
 have e:xs[i]? =some (xs[i]'(by omega)):=gE (by omega)
 obtain ⟨y',e',r⟩:=h.to i _ e
 rw [hi] at e'
 cases e'
 exact ⟨_,aai e,r⟩
theorem Made.all {os:List (List Int)}{lead:List Int}{c b:Nat}{xs ys:List (List Int)}(h:Made os lead c b xs ys){x:List Int}(hx:x∈xs):∃y∈ys,pS x lead y c∧Bd b y:=by
 obtain ⟨i,hi⟩:=aas hx
 obtain ⟨y,e,r⟩:=h.to i x hi
 exact ⟨y,aai e,r⟩
theorem Red.step {os:List (List Int)}{L c b:Nat}{nd jL :List (Nat×List Int)}{lv AE rest:List (List Int)}{lead:List Int}(h:Red os L c b nd lv)(eO:lead∈lv)(qh:∀l∈rest,l∈lv)(xf:∀l∈lv,l=lead∨l∈rest)(hlen:rest.length+1=lv.length)
  (hc:lead.getD c 0≠0) (ML:Made os lead c (2*b+1) rest AE) (hk:jL.map (·.1)=nd.map (·.1)) (MN:Made os lead c (2*b+1) (nd.map (·.2)) (jL.map (·.2))):Red os L (c+1) (2*b+1) (jL ++[(c,lead)]) AE :=by
 have ll:=h.gG lead eO
 have lz:=h.zero lead eO
 have SH :jL.length=nd.length:=by simpa using congrArg abk hk
 have pairs:∀x' ∈jL,∃x∈nd,x.1=x'.1∧pS x.2 lead x'.2 c∧Bd (2*b+1) x'.2:=by
  intro x' yX
  obtain ⟨i,hi⟩:=aas yX
  have jV:i < jL.length:=(be.mp hi).1
  have e:nd[i]? =some (nd[i]'(by omega)):=gE (by omega)
  have e1:(jL.map (·.1))[i]? =(nd.map (·.1))[i]? :=by rw [hk]
  rw [Wp,Wp,hi,e] at e1
  obtain ⟨y,e2,r⟩:=MN.to i (nd[i]'(by omega)).2 (by rw [Wp,e];rfl)
  rw [Wp,hi] at e2
  simp at e1 e2
  subst e2
  exact ⟨_,aai e,e1.symm,r⟩
 have back:∀x∈nd,∃x' ∈jL,x'.1=x.1∧pS x.2 lead x'.2 c:=by
  intro x hx
  obtain ⟨i,hi⟩:=aas hx
  have jV:i < nd.length:=(be.mp hi).1
  have e:jL[i]? =some (jL[i]'(by omega)):=gE (by omega)
  have e1:(jL.map (·.1))[i]? =(nd.map (·.1))[i]? :=by rw [hk]
  rw [Wp,Wp,hi,e] at e1
  obtain ⟨y,e2,r⟩:=MN.to i x.2 (by rw [Wp,hi];rfl)
  rw [Wp,e] at e2
  simp at e1 e2
  exact ⟨_,aai e,e1,by rw [e2];exact r.1⟩
 have AF:∀x∈jL ++[(c,lead)],x∈jL ∨x=(c,lead):=fun x hx=>by simpa using hx
 exact {
  lH:=fun x hx=>by
   rcases AF x hx with z | z
   ·obtain ⟨y,hy,_,k,_⟩:=pairs x z
    rw [k.len]
    exact h.lH y hy
   ·subst z
    exact ll
  gG:=fun l hl=>by
   obtain ⟨x,hx,k,_⟩:=ML.ex hl
   rw [k.len]
   exact h.gG x (qh x hx)
  cols:=fun x hx=>by
   rcases AF x hx with z | z
   ·obtain ⟨y,hy,e,_⟩:=pairs x z
    rw [← e]
    exact abL (h.cols y hy)
   ·subst z
    exact aa6 _
  asc:=by
   rw [aaA,hk,List.pairwise_append]
   refine ⟨h.asc,by simp,fun a ha b' fZ => ?_⟩
   obtain ⟨x,hx,rfl⟩:=aal.mp ha
   have:b' =c:=by simpa using fZ
   subst this
   exact h.cols x hx
  here:=fun x hx=>by
   rcases AF x hx with z | z
   ·obtain ⟨y,hy,e,k,_⟩:=pairs x z
    rw [← e]
    exact k.at (lz _ (h.cols y hy)) (h.here y hy)
   ·subst z
    exact hc
  off:=fun x hx y hy ne=>by
   rcases AF x hx with z | z <;> rcases AF y hy with u | u
   ·obtain ⟨x0,Le,e0,k0,_⟩:=pairs x z
    obtain ⟨y0,qi,e1,_⟩:=pairs y u
    rw [← e1]
    exact k0.zero (h.off x0 Le y0 qi (by rw [e0,e1];exact ne)) (lz _ (h.cols y0 qi))
   ·subst u
    obtain ⟨x0,Le,e0,k0,_⟩:=pairs x z
    exact k0.xA
   ·subst z
    obtain ⟨y0,qi,e1,_⟩:=pairs y u
    rw [← e1]
    exact lz _ (h.cols y0 qi)
   ·subst z
    subst u
    exact absurd rfl ne
  low:=fun x hx j hj=>by
   rcases AF x hx with z | z
   ·obtain ⟨y,hy,e,k,_⟩:=pairs x z
    rw [← e] at hj
    exact k.zero (h.low y hy j hj) (lz j (akm hj (h.cols y hy)))
   ·subst z
    exact lz j hj
  zero:=fun l hl j hj=>by
   obtain ⟨x,hx,k,_⟩:=ML.ex hl
   rcases aa8.mp hj with z | z
   ·exact k.zero (h.zero x (qh x hx) j z) (lz j z)
   ·subst z
    exact k.xA
  qg:=fun x hx=>by
   rcases AF x hx with z | z
   ·obtain ⟨y,hy,_,k,_⟩:=pairs x z
    exact k.comb (h.qg y hy) (h.g_ lead eO)
   ·subst z
    exact h.g_ lead eO
  g_:=fun l hl=>by
   obtain ⟨x,hx,k,_⟩:=ML.ex hl
   exact k.comb (h.g_ x (qh x hx)) (h.g_ lead eO)
  sol:=fun z=>by
   rw [← h.sol z]
   constructor
   ·rintro ⟨a1,a2⟩
    have az:ev lead z=0:=a1 (c,lead) (by simp)
    refine ⟨fun x hx=> ?_,fun l hl=> ?_⟩
    ·obtain ⟨x',yX,_,k⟩:=back x hx
     exact (k.ev (by rw [ll,h.lH x hx]) az).mp (a1 x' (by simp [yX]))
    ·rcases xf l hl with u | u
     ·rw [u]
      exact az
     ·obtain ⟨y,hy,k,_⟩:=ML.all u
      exact (k.ev (by rw [ll,h.gG l hl]) az).mp (a2 y hy)
   ·rintro ⟨a1,a2⟩
    have az:=a2 lead eO
    refine ⟨fun x hx=> ?_,fun l hl=> ?_⟩
    ·rcases AF x hx with u | u
     ·obtain ⟨y,hy,_,k,_⟩:=pairs x u
      exact (k.ev (by rw [ll,h.lH y hy]) az).mpr (a1 y hy)
     ·subst u
      exact az
    ·obtain ⟨x,hx,k,_⟩:=ML.ex hl
     exact (k.ev (by rw [ll,h.gG x (qh x hx)]) az).mpr (a2 x (qh x hx))
  AD:=fun x hx=>by
   rcases AF x hx with z | z
   ·obtain ⟨y,hy,_,_,k⟩:=pairs x z
    exact k
   ·subst z
    exact (h.y6 lead eO).up (by omega)
  y6:=fun l hl=>by
   obtain ⟨x,hx,_,k⟩:=ML.ex hl
   exact k
  cnt:=by
   have a:=ML.len
   have b:=h.cnt
   rw [aap,SH]
   simp
   omega}
def mz (H:Hp)(kvs:List (Key×V))(nd:List (Nat×List Int)):Prop:=kvs.length=nd.length∧∀(i:Nat) (kv:Key×V) (x:Nat×List Int),kvs[i]? =some kv→nd[i]? =some x→kv.1=.inl (x.1:Int)∧Ln H kv.2 x.2
theorem mz.same {H H' :Hp}{kvs:List (Key×V)}{nd:List (Nat×List Int)}(h:mz H kvs nd)(s:ar H H'):mz H' kvs nd:=⟨h.1,fun i kv x e1 e2=>⟨(h.2 i kv x e1 e2).1,(h.2 i kv x e1 e2).2.same s⟩⟩
theorem Ln.put {H:Hp}{v:V}{l:List Int}{d:Addr}{kvs:List (Key×V)}{o:HO}(h:Ln H v l)(e:H d=some (.dK kvs)):Ln (upd H d o) v l:=by
 obtain ⟨p,e1,k⟩:=h
 exact ⟨p,e1,by rw [ak (fun z=>by rw [z,e] at k;cases k)];exact k⟩
theorem k_.put {H:Hp}{us:List V}{ls:List (List Int)}{d:Addr}{kvs:List (Key×V)}{o:HO}(h:k_ H us ls)(e:H d=some (.dK kvs)):k_ (upd H d o) us ls:=⟨h.1,fun i u l e1 e2=>(h.2 i u l e1 e2).put e⟩
theorem mz.put {H:Hp}{kvs kv2:List (Key×V)}{nd:List (Nat×List Int)}{d:Addr}{o:HO}(h:mz H kvs nd)(e:H d=some (.dK kv2)):mz (upd H d o) kvs nd:=⟨h.1,fun i kv x e1 e2=>⟨(h.2 i kv x e1 e2).1,(h.2 i kv x e1 e2).2.put e⟩⟩
theorem hG {H H' :Hp}{d:Addr}{o:HO}(s:ar H H')(n:H d=none):ar H (upd H' d o):=fun b o' e=>by
 rw [ak (fun z=>by rw [z,n] at e;cases e)]
 exact s _ _ e
theorem mz.at {H:Hp}{kvs:List (Key×V)}{nd:List (Nat×List Int)}(h:mz H kvs nd){i:Nat}{x:Nat×List Int}(e:nd[i]? =some x):∃v,kvs[i]? =some (.inl (x.1:Int),v)∧Ln H v x.2:=by
 have hi:i < nd.length:=(be.mp e).1
 have hl:=h.1
 have e2:kvs[i]? =some (kvs[i]'(by omega)):=gE (by omega)
 obtain ⟨a,b⟩:=h.2 i _ x e2 e
 exact ⟨(kvs[i]'(by omega)).2,by rw [e2, ← a],b⟩
theorem mz.keys {H:Hp}{kvs:List (Key×V)}{nd:List (Nat×List Int)}(h:mz H kvs nd):kvs.map (·.1)=nd.map (fun x=>(ab6 (x.1:Int):Key)):=by
 refine aa7 fun i=> ?_
 have hl:=h.1
 rw [Wp,Wp]
 by_cases hi:i < nd.length
 ·have e:nd[i]? =some nd[i]:=gE hi
  obtain ⟨v,e2,_⟩:=h.at e
  rw [e,e2]
  rfl
 ·rw [aam (by omega),aam (by omega)]
  rfl
theorem hV {k:Key}{v:V}:∀{kvs:List (Key×V)} {i:Nat},(kvs.map (·.1)).Nodup→kvs[i]? =some (k,v)→bV kvs k=some v
 | [],_,_,e=>by simp at e
 | p::r,0,_,e=>by
  cases e
  exact bH (p:=(k,v)) rfl
 | p::r,i+1,n,e=>by
  rw [aaj,aaX] at n
  have e' :r[i]? =some (k,v):=by simpa using e
  have ne:¬ p.1=k:=fun z=>n.1 (by rw [z];exact aal.mpr ⟨(k,v),aai e',rfl⟩)
  rw [bh ne]
  exact hV n.2 e'
theorem tE {k:Key}:∀{kvs:List (Key×V)},k∉kvs.map (·.1)→bV kvs k=none
 | [],_=>rfl
 | p::r,h=>by
  have h' :k≠p.1∧k∉r.map (·.1):=by simpa using h
  rw [bh (fun z=>h'.1 z.symm)]
  exact tE h'.2
theorem map_put {k:Key}{v v' :V}:∀{kvs:List (Key×V)} {i:Nat},(kvs.map (·.1)).Nodup→kvs[i]? =some (k,v)→kvs.map (fun kv=>if kv.1=k then (kv.1,v') else kv)=kvs.set i (k,v')
 | [],_,_,e=>by simp at e
 | p::r,0,n,e=>by
  rw [aaj,aaX] at n
  cases e
  have hr:r.map (fun kv=>if kv.1=k then (kv.1,v') else kv)=r:=by
   refine (aaR (fun q hq=> ?_)).trans (List.map_id r)
   have ne:¬ q.1=k:=fun z=>n.1 (by show k∈_;rw [← z];exact aal.mpr ⟨q,hq,rfl⟩)
   rw [if_neg ne]
   rfl
  rw [aaj,hr,if_pos rfl,akf]
 | p::r,i+1,n,e=>by
  rw [aaj,aaX] at n
  have e' :r[i]? =some (k,v):=by simpa using e
  have ne:¬ p.1=k:=fun z=>n.1 (by rw [z];exact aal.mpr ⟨(k,v),aai e',rfl⟩)
  rw [aaj,if_neg ne,map_put n.2 e',akg]
theorem AG {k:Key}{v v' :V}{kvs:List (Key×V)}{i:Nat}(n:(kvs.map (·.1)).Nodup)(e:kvs[i]? =some (k,v)):putK kvs k v' =kvs.set i (k,v'):=by
 unfold putK
 rw [eG,hV n e]
 exact map_put n e
theorem mz.set {H:Hp}{kvs:List (Key×V)}{nd:List (Nat×List Int)}(h:mz H kvs nd){i c:Nat}{v:V}{l:List Int}(hv:Ln H v l):mz H (kvs.set i (.inl (c:Int),v)) (nd.set i (c,l)):=by
 have hl:=h.1
 refine ⟨by simp [hl],fun j kv x e1 e2=> ?_⟩
 rw [aa3] at e1 e2
 by_cases z:i=j
 ·subst z
  rw [if_pos rfl] at e1 e2
  by_cases hi:i < kvs.length
  ·rw [if_pos hi] at e1
   rw [if_pos (by omega)] at e2
   cases e1
   cases e2
   exact ⟨rfl,hv⟩
  ·rw [if_neg hi] at e1
   cases e1
 ·rw [if_neg z] at e1 e2
  exact h.2 j kv x e1 e2
theorem mz.snoc {H:Hp}{kvs:List (Key×V)}{nd:List (Nat×List Int)}(h:mz H kvs nd){c:Nat}{v:V}{l:List Int}(hv:Ln H v l):mz H (kvs++[(.inl (c:Int),v)]) (nd++[(c,l)]):=by
 have hl:=h.1
 refine ⟨by simp [hl],fun j kv x e1 e2=> ?_⟩
 by_cases z:j < kvs.length
 ·rw [aaq z] at e1
  rw [aaq (by omega)] at e2
  exact h.2 j kv x e1 e2
 ·rw [aat (by omega)] at e1 e2
  rw [← hl] at e2
  by_cases y:j - kvs.length=0
  ·rw [y] at e1 e2
   cases e1
   cases e2
   exact ⟨rfl,hv⟩
  ·rw [aam (by simp;omega)] at e1
   cases e1
theorem keys_nodup:∀{nd:List (Nat×List Int)},(nd.map (·.1)).Pairwise (· < ·)→(nd.map (fun x=>(ab6 (x.1:Int):Key))).Nodup
 | [],_=>by simp
 | x::r,h=>by
  rw [aaj,List.pairwise_cons] at h
  rw [aaj,aaX]
  refine ⟨fun z=> ?_,keys_nodup h.2⟩
  obtain ⟨y,hy,e⟩:=aal.mp z
  have e' :(y.1:Int)=x.1:=akA e
  have:=h.1 y.1 (aal.mpr ⟨y,hy,rfl⟩)
  omega
def bb (b:Nat):Nat→Nat
 | 0=>b
 | k+1=>2*bb b k+1
theorem xV (b:Nat):∀k,bb b k+1=2^k*(b+1)
 | 0=>by simp [bb]
 | k+1=>by
  have:=xV b k
  show 2*bb b k+1+1=_
  rw [ab0,Nat.mul_right_comm, ← this]
  omega
theorem f9 (b:Nat){k m:Nat}(h:k≤m):bb b k≤bb b m:=by
 have e1:=xV b k
 have e2:=xV b m
 have:2^k*(b+1)≤2^m*(b+1):=aaK _ (aaL (by decide) h)
 omega
theorem jM {xs:List V}{i:Nat}(h:i≤xs.length):dE xs none (some (i:Int))=xs.take i:=by
 unfold dE
 rw [HT.jE,HT.oX,abX h]
 rfl
theorem mB {xs:List V}{i:Nat}(h:i≤xs.length):dE xs (some (i:Int)) none=xs.drop i:=by
 unfold dE
 rw [HT.jE,HT.oX,abX h]
 exact abg (by simp)
theorem Red.up {os:List (List Int)}{L c b b' :Nat}{nd:List (Nat×List Int)}{lv:List (List Int)}(h:Red os L c b nd lv)(hb:b≤b'):Red os L c b' nd lv:={h with AD:=fun x hx=>(h.AD x hx).up hb,y6:=fun x hx=>(h.y6 x hx).up hb}
theorem k_.erase {H:Hp}{us:List V}{ls:List (List Int)}(h:k_ H us ls)(j:Nat):k_ H (us.eraseIdx j) (ls.eraseIdx j):=by
 have hl:=h.1
 refine ⟨by rw [abV,abV,hl],fun i u l e1 e2=> ?_⟩
 rw [abO] at e1 e2
 by_cases z:i < j
 ·rw [if_pos z] at e1 e2
  exact h.2 _ _ _ e1 e2
 ·rw [if_neg z] at e1 e2
  exact h.2 _ _ _ e1 e2
theorem i5 {α β:Type}{P:Nat→α→β→Prop}:∀(xs:List α),(∀i x,xs[i]? =some x→∃y,P i x y)→∃ys:List β,ys.length=xs.length∧∀i x y,xs[i]? =some x→ys[i]? =some y→P i x y
 | [],_=>⟨[],rfl,fun i x y e=>by simp at e⟩
 | x::xs,h=>by
  obtain ⟨y,hy⟩:=h 0 x rfl
  obtain ⟨ys,hl,hp⟩:=i5 (P:=fun i=>P (i+1)) xs (fun i x e=>h (i+1) x (by simpa using e))
  refine ⟨y::ys,by simp [hl],fun i x' y' e1 e2=> ?_⟩
  cases i with
  | zero=>
   cases e1
   cases e2
   exact hy
  | succ i=>exact hp i x' y' (by simpa using e1) (by simpa using e2)
inductive i6 (K:Frag)(vs:List V)(H:Hp)(Q:VK)(E_:XK):Prop where
 | mk (a:Addr) (us:List V) (os:List (List Int:_)) (L m b:Nat) (_:vs=[.ref a,.int (m:Int)]) (_:aT K H a us) (_:k_ H us os) (_:(∀o∈os,o.length=L)) (_:m≤L) (_:L≤1000) (_:os.length≤1000) (_:(∀o∈os,Bd b o)) (_:bb b (min m os.length)≤29000000) (_:∀(p d a' :Addr) (kvs:List (Key×V)) (gH :List V) (nd:List (Nat×List Int)) (lv:List (List Int)) (H' :Hp),ar H H' →H d=none→H p=none→H' p=some (.tup [.ref d,.ref a'])→H' d=some (.dK kvs)→aT K H' a' gH →mz H' kvs nd→k_ H' gH lv→Red os L m (bb b (min m os.length)) nd lv→Q (.ref p) H'):i6 K vs H Q E_
theorem jo:aA ["lines","many","needed","left","column","at","lead","place"] ["lines","many"] (af u_):=sq
theorem Lf (D:Def K mg "reduced" u_ ["lines","many"])(a9:mg "range"=none)(cK:mg "list"=none)(SI:Fn P w K mg base (aX P w) 1 "first_not_nought" ["lines","column"] (nJ K))(Lg:Fn P w K mg base (aX P w) 34 "cleared" ["line","lead","column"] i0):Fn P w K mg base (aX P w) 35 "reduced" ["lines","many"] (i6 K):=by
 refine D.ok jo (fun vs H Q E h=> ?_) (fun f bx A outer s H vs Q E hr h=> ?_)
 ·obtain ⟨a,us,os,L,m,b,rfl,_⟩:=h
  rfl
 obtain ⟨a,us,os,L,m,b,rfl,hS,hL,hlen,hm,GQ,ho,hB,hb,q⟩:=h
 refine ⟨_,(ae (aw (i:=2) jo.nd rfl (aan rfl) dI)
  (ae (aw (i:=3) jo.nd rfl (aan rfl) (pv 0))
  (ae (bo PassesOwn.never rfl (bu rfl a9 (aq (pv 1) aa)) (aG (i:=4) jo.nd rfl (aaZ rfl)) (ae (aw (i:=5) jo.nd rfl (aan rfl) (ay SI hr.mo pX (aq (pv 3) (aq (pv 4) aa))))
   (ae (bG (aU wO (pv 5) jS (ba _)) (aj oO) aY)
   (ae (aw (i:=6) jo.nd rfl (aaZ rfl) (aS aK (pv 3) (pv 5) (fun _ _=>rfl)))
   (ae (jH (i:=3) jo.nd rfl (aan rfl) (tn:=["line"]) (fr:=["lead","column"]) (caps:=[6,4]) rfl ⟨rfl,by decide+kernel,rfl,by decide+kernel,by decide+kernel,rfl,⟨(by first | exact aan rfl | exact aaZ rfl),⟨(by first | exact aan rfl | exact aaZ rfl),trivial⟩⟩,⟨(by first | exact aan rfl | exact aaZ rfl),⟨(by first | exact aan rfl | exact aaZ rfl),trivial⟩⟩⟩ (bN (aH gy (cQ fe (pv 3) d3 (dc (pv 5))) (cQ fe (pv 3) (dc (aH bO (pv 5) ag)) d3))) (fun _ _ _ _=>(aG (i:=0) (show (["line","lead","column"]:List Str).Nodup from by decide+kernel) rfl (aan rfl))) (fun _ _ _ _=>cR) (fun _ _ _ _=>(ay Lg hr.mo (pD (by first | assumption | exact aX.m9) rfl) (aq (pv 0) (aq (pv 1) (aq (pv 2) aa))))))
   (ae (bo PassesOwn.never rfl (bN (dA (gC rfl) rfl cK j5 (aq (pv 2) aa))) (aG (i:=7) jo.nd rfl (aan rfl)) (aj (d6 (cy hr) (pv 2) (pv 7) (ay Lg hr.mo pX (aq (dw (cy hr) (pv 2) (pv 7) (fun _ _=>rfl)) (aq (pv 6) (aq (pv 4) aa)))) rfl)))
   (aj (d6 (cy hr) (pv 2) (pv 4) (pv 6) rfl))))))))
  (aj (aI (aR (aq (pv 2) (aq (pv 3) aa)))))))),?_⟩
 refine fun d Js=> ?_
 have s0:ar H (upd H d (.dK [])):=aD Js _
 refine ⟨_,rfl,_,rfl,_,rfl,by omega,by omega,?_⟩
 refine bz (lo:=0) (n:=m) (fun i σ H' =>∃(al:Addr) (ku:List V) (kvs:List (Key×V)) (nd:List (Nat×List Int)) (lv:List (List Int)) (o4 o5 o6 o7:Option V),σ=[some (.ref a),some (.int (m:Int)),some (.ref d),some (.ref al),o4,o5,o6,o7]∧ar H H' ∧H' d=some (.dK kvs)∧aT K H' al ku∧k_ H' ku lv∧mz H' kvs nd∧nd.length≤i∧Red os L i (bb b nd.length) nd lv)
  ⟨a,us,[],[],os,none,none,none,none,rfl,s0,ah,s0.seq hS,hL.same s0,⟨rfl,by simp⟩,aao _,Red.start hlen hB⟩ ?_ ?_
 ·rintro i σ H1 hi ⟨al,ku,kvs,nd,lv,o4,o5,o6,o7,rfl,s1,hd,DC,vQ,hN,hni,R⟩
  refine ⟨_,rfl,_,rfl,al,ku,lv,i,by rw [aaS];rfl,DC,vQ,fun l hl=>by rw [R.gG l hl];omega,fun j lead H2 s2 ej hj=> ?_,fun hz H2 s2=> ?_⟩
  ·have hjl:j < lv.length:=(be.mp ej).1
   have hul:=vQ.1
   have cnt:=R.cnt
   have Q7:bb b nd.length≤29000000:=aak (f9 b (by omega)) hb
   have hd2:=s2 _ _ hd
   have K6:=s2.seq DC
   have DE:=vQ.same s2
   have SJ:=hN.same s2
   obtain ⟨u,eu,hu⟩:=DE.at' ej
   have eO:lead∈lv:=aai ej
   refine ⟨_,rfl,rfl,_,rfl,?_⟩
   refine bI (fun z=>by simp at z) (fun _=> ?_)
   refine ⟨_,rfl,_,rfl,al,_,_,_,rfl,rfl,K6,a_ eu,?_⟩
   refine ⟨_,rfl,_,rfl,_,rfl,al,ku,rfl,K6,fun p1 n1=> ?_⟩
   have t1:=aD n1 (.lst (dE ku none (some (j:Int))))
   refine ⟨_,rfl,_,rfl,_,_,rfl,rfl,_,rfl,al,ku,rfl,t1.seq K6,fun p2 n2=> ?_⟩
   have t2:=aD n2 (.lst (dE ku (some ((j:Int)+1)) none))
   have Lh:dE ku none (some (j:Int))++dE ku (some ((j:Int)+1)) none=ku.eraseIdx j:=by
    rw [jM (by omega),show ((j:Int)+1)=((j+1:Nat):Int) from by omega,mB (by omega),List.eraseIdx_eq_take_drop_succ]
   have SK:(dE ku none (some (j:Int))).length+(dE ku (some ((j:Int)+1)) none).length≤sizeLine:=by
    rw [← aap,Lh]
    exact aak (aak (ac_ ..) (show ku.length≤1000 by omega)) (by decide)
   refine ⟨p1,p2,_,_,rfl,rfl,t2 _ _ ah,ah,SK,fun p3 n3=> ?_⟩
   have t3:=aD n3 (.lst (dE ku none (some (j:Int))++dE ku (some ((j:Int)+1)) none))
   refine ⟨p3,rfl,⟨_,aT.of ah⟩,fun D nD=> ?_⟩
   have tt:=(t1.trans t2).trans t3
   have hE:=(DE.same tt).erase j
   have Q8:=hu.same tt
   have er:(ku.eraseIdx j).length≤1000:=aak (ac_ ..) (show ku.length≤1000 by omega)
   refine j_ (cap:=[some u,some (.int ((0:Int)+i))]) (K:=K) (a:=p3) (xs:=ku.eraseIdx j) (fun k v H=>∃x y p,(lv.eraseIdx j)[k]? =some x∧v=.ref p∧p≠D∧H p=some (.lst (y.map V.int))∧pS x lead y i∧Bd (2*bb b nd.length+1) y) nD (aar er (by decide)) (fun H3 s3=>aT.of (s3 _ _ (by rw [ah,Lh]))) ?_ ?_ ?_
   ·rintro k v H3 H4 ys hD3 ks ⟨x,y,p,e1,e2,e3,e4,e5⟩
    exact ⟨x,y,p,e1,e2,e3,ks _ _ e3 e4,e5⟩
   ·rintro k x H3 RR ex s3 ⟨Jt,SM⟩ kk
    obtain ⟨l,el,hl⟩:=hE.at ex
    have uF:l∈lv:=aca (aai el)
    have hll:=R.gG l uF
    have SN:=R.gG lead eO
    refine ⟨_,rfl,_,rfl,_,rfl,x,u,l,lead,i,bb b nd.length,bb b nd.length,by rw [aaS];rfl,hl.same s3,Q8.same s3,by rw [hll,SN],by omega,by omega,hj,R.y6 l uF,R.y6 lead eO,Q7,Q7,fun v' l' H4 s4 L4 cl bd fr=> ?_⟩
    obtain ⟨p,e1,e2⟩:=L4
    refine kk v' H4 s4 ⟨l,l',p,el,e1,?_,e2,cl,by rw [Nat.two_mul];exact bd⟩
    rcases fr with z | ⟨p',z,n⟩
    ·obtain ⟨DF,z1,z2⟩:=hl
     rw [z1,e1] at z
     cases z
     exact ao z2 nD
    ·rw [e1] at z
     cases z
     exact fun y=>by rw [y,SM] at n;cases n
   ·intro ys H3 hy gF s3 hD
    obtain ⟨AE,SH,hp⟩:=i5 (P:=fun k v y=>∃x p,(lv.eraseIdx j)[k]? =some x∧v=.ref p∧p≠D∧H3 p=some (.lst (y.map V.int))∧pS x lead y i∧Bd (2*bb b nd.length+1) y) ys (fun k v e=>by
     obtain ⟨x,y,p,r⟩:=gF k v e
     exact ⟨y,x,p,r⟩)
    have hLn:k_ H3 ys AE :=⟨SH.symm,fun k v y e1 e2=>by
     obtain ⟨x,p,_,e,_,r,_⟩:=hp k v y e1 e2
     exact ⟨p,e,r⟩⟩
    have les:(ku.eraseIdx j).length=(lv.eraseIdx j).length:=hE.1
    have ML:Made os lead i (2*bb b nd.length+1) (lv.eraseIdx j) AE :=⟨by omega,fun k x e=>by
     have hk:k < (lv.eraseIdx j).length:=(be.mp e).1
     have e1:ys[k]? =some (ys[k]'(by omega)):=gE (by omega)
     have e2:AE[k]? =some (AE[k]'(by omega)):=gE (by omega)
     obtain ⟨x',p,r1,_,_,_,r2⟩:=hp k _ _ e1 e2
     rw [e] at r1
     cases r1
     exact ⟨_,e2,r2⟩⟩
    have GN:=tt.trans s3
    have SO:=GN _ _ hd2
    have hN3:=SJ.same GN
    have hu4:=Q8.same s3
    refine ⟨_,rfl,d,kvs,rfl,Rd.of SO,fun l3 n3=> ?_⟩
    have t4:=aD n3 (.lst (kvs.map fun kv=>kV kv.1))
    refine ⟨l3,rfl,⟨_,aT.of ah⟩,?_⟩
    have dl:d≠l3:=ao SO n3
    refine cC (K:=K) (a:=l3) (xs:=kvs.map fun kv=>kV kv.1) (fun t σ H' =>∃(o7:Option V) (nK :List (Key×V)) (jL :List (Nat×List Int)),σ=[some (.ref a),some (.int (m:Int)),some (.ref d),some (.ref D),some (.int ((0:Int)+i)),some (.int (j:Int)),some u,o7]∧ar H H' ∧H' d=some (.dK nK)∧H' l3=some (.lst (kvs.map fun kv=>kV kv.1))∧H' D=some (.lst ys)∧k_ H' ys AE ∧Ln H' u lead∧mz H' nK jL ∧jL.map (·.1)=nd.map (·.1)∧
      ∀(k:Nat) (x:Nat×List Int),nd[k]? =some x→∃y,jL[k]? =some (x.1,y)∧(t≤k→y=x.2)∧(k < t→pS x.2 lead y i∧Bd (2*bb b nd.length+1) y))
     ⟨_,kvs,nd,rfl,((s1.trans s2).trans GN).trans t4,t4 _ _ SO,ah,t4 _ _ hD,hLn.same t4,hu4.same t4,hN3.same t4,rfl,fun k x e=>⟨x.2,e,fun _=>rfl,fun z=>absurd z (abf _)⟩⟩ (fun t σ H' _ h=>by
      obtain ⟨_,_,_,_,_,_,h,_⟩:=h
      exact aT.of h) ?_ ?_
    ·rintro t u7 σ H4 hu7 ⟨o7,nK,jL,rfl,s4,vR,hl4,Li,SQ,Q9,y8,GU,Lj⟩
     rw [Wp] at hu7
     obtain ⟨kv,v9,rfl⟩:=aaw.mp hu7
     have htl:t < kvs.length:=(be.mp v9).1
     have hnl:=hN.1
     have ex:nd[t]? =some (nd[t]'(by omega)):=gE (by omega)
     obtain ⟨x,hx⟩:∃x,nd[t]? =some x:=⟨_,ex⟩
     obtain ⟨kx,hxm⟩:kv.1=.inl (x.1:Int)∧x∈nd:=⟨(hN3.2 t kv x v9 hx).1,aai hx⟩
     obtain ⟨y,ey,y1,_⟩:=Lj t x hx
     have y2:=y1 (aao _)
     subst y2
     obtain ⟨v,ev,hv⟩:=y8.at ey
     have nk:(nK.map (·.1)).Nodup:=by
      rw [y8.keys]
      exact keys_nodup (by rw [GU];exact R.asc)
     have vat:=hV nk ev
     have hxl:=R.lH x hxm
     have SN:=R.gG lead eO
     have dg:cJ H4 d (kV kv.1) (some v):=by
      rw [kx, ← vat]
      exact cJ.k vR
     refine ⟨_,rfl,_,rfl,d,v,rfl,dg,_,rfl,_,rfl,v,u,x.2,lead,i,bb b nd.length,bb b nd.length,by rw [aaS];rfl,hv,Q9,by rw [hxl,SN],by omega,by omega,hj,R.AD x hxm,R.y6 lead eO,Q7,Q7,fun v' l' H5 s5 L5 cl bd fr=> ?_⟩
     have GV:=s5 _ _ vR
     have l4' :=y8.1
     have SR :jL.length=nd.length:=by simpa using congrArg abk GU
     refine ⟨_,rfl,_,rfl,d,_,rfl,iR.k GV (aar (show nK.length≤1000 by omega) (by decide)),?_⟩
     rw [kx,AG nk ev]
     have dn:d≠D:=fun z=>by rw [z,Li] at vR;cases vR
     refine ⟨_,nK.set t (.inl (x.1:Int),v'),jL.set t (x.1,l'),rfl,hG (s4.trans s5) Js,ah,by rw [ak (aaU dl)];exact s5 _ _ hl4,by rw [ak (aaU dn)];exact s5 _ _ Li,(SQ.same s5).put GV,(Q9.same s5).put GV,((y8.same s5).set L5).put GV,?_,fun k x' ek=> ?_⟩
     ·rw [List.map_set,GU]
      refine aa7 fun k=> ?_
      rw [aa3]
      by_cases z:t=k
      ·subst z
       rw [if_pos rfl,if_pos (by simp;omega),Wp,hx]
       rfl
      ·rw [if_neg z]
     ·obtain ⟨y',Q6,a1,a2⟩:=Lj k x' ek
      by_cases z:t=k
      ·subst z
       rw [hx] at ek
       cases ek
       refine ⟨l',by rw [aa3,if_pos rfl,if_pos (by omega)],fun w=>by omega,fun _=>⟨cl,by rw [Nat.two_mul];exact bd⟩⟩
      ·exact ⟨y',by rw [aa3,if_neg z];exact Q6,fun w=>a1 (by omega),fun w=>a2 (by omega)⟩
    ·rintro σ H4 ⟨o7,nK,jL,rfl,s4,vR,hl4,Li,SQ,Q9,y8,GU,Lj⟩
     have l4' :=y8.1
     have SR :jL.length=nd.length:=by simpa using congrArg abk GU
     have hnl:=hN.1
     rw [ir] at Lj
     have MN:Made os lead i (2*bb b nd.length+1) (nd.map (·.2)) (jL.map (·.2)):=⟨by simp [SR],fun k x e=>by
      rw [Wp] at e
      obtain ⟨x0,e0,rfl⟩:=aaw.mp e
      have hk:k < nd.length:=(be.mp e0).1
      obtain ⟨y,ey,_,a2⟩:=Lj k x0 e0
      exact ⟨y,by rw [Wp,ey];rfl,a2 (by omega)⟩⟩
     have RX:bV nK (.inl ((0:Int)+i))=none:=tE (fun z=>by
      rw [y8.keys] at z
      obtain ⟨x',yX,e⟩:=aal.mp z
      have e1:(x'.1:Int)=0+i:=akA e
      have:x'.1∈nd.map (·.1):=by rw [← GU];exact aal.mpr ⟨x',yX,rfl⟩
      obtain ⟨x,hx,e2⟩:=aal.mp this
      have:=R.cols x hx
      omega)
     refine ⟨_,rfl,_,rfl,_,rfl,d,_,rfl,iR.k (k:=.inl ((0:Int)+i)) vR (aar (show nK.length≤1000 by omega) (by decide)),?_⟩
     rw [cF u RX]
     have dn:d≠D:=fun z=>by rw [z,Li] at vR;cases vR
     have SS:∀l∈lv.eraseIdx j,l∈lv:=fun l h=>aca h
     have SU:∀l∈lv,l=lead∨l∈lv.eraseIdx j:=fun l h=>by
      obtain ⟨k,ek⟩:=aas h
      rcases Nat.lt_trichotomy k j with z | z | z
      ·exact .inr (aai (i:=k) (by rw [abO,if_pos z];exact ek))
      ·subst z
       rw [ej] at ek
       cases ek
       exact .inl rfl
      ·exact .inr (aai (i:=k - 1) (by rw [abO,if_neg (by omega),show k - 1+1=k by omega];exact ek))
     have SV:(lv.eraseIdx j).length+1=lv.length:=by rw [abV,if_pos hjl];omega
     have R2:=R.step eO SS SU SV hj ML GU MN
     refine ⟨D,ys,_,jL ++[(i,lead)],AE,_,_,_,_,rfl,hG s4 Js,ah,aT.of (by rw [ak (aaU dn)];exact Li),SQ.put vR,(by rw [aaS];exact (y8.snoc Q9).put vR),by simp;omega,?_⟩
     rw [aap,SR]
     exact R2
  ·refine ⟨_,rfl,rfl,_,rfl,?_⟩
   refine bI (fun _=> ?_) (fun z=>by simp at z)
   exact ⟨al,ku,kvs,nd,lv,_,_,_,_,rfl,s1.trans s2,s2 _ _ hd,s2.seq DC,vQ.same s2,hN.same s2,by omega,R.skip hz⟩
 ·rintro σ H1 ⟨al,ku,kvs,nd,lv,o4,o5,o6,o7,rfl,s1,hd,DC,vQ,hN,hni,R⟩
  refine ⟨_,rfl,_,rfl,(by show 2≤sizeLine;decide),fun p np=> ?_⟩
  have sp:=aD np (.tup [.ref d,.ref al])
  have cnt:=R.cnt
  exact q p d al kvs ku nd lv _ (s1.trans sp) Js (s1.free np) ah (sp _ _ hd) (sp.seq DC) (hN.same sp) (vQ.same sp) (R.up (f9 b (by omega)))
theorem tF {t b:Int}{T B:Nat}(hb:b≠0)(h1:t.natAbs≤2^T)(h2:b.natAbs≤2^B):Sm T B (low t b):=⟨gX hb,jG hb,aak (j0 hb) h1,aak (j3 hb) h2⟩
theorem hW {l:List Int}{j:Nat}(h:l.length≤j):l.getD j 0=0:=by
 rw [aaz,aam h]
 rfl
def qj (m t:Nat)(nd:List (Nat×List Int))(qs:List (Int×Int)):Prop:=qs.length=m∧(∀i,i < t→∀x,nd[i]? =some x→qs[x.1]? =some (low (x.2.getD m 0) (x.2.getD x.1 0)))∧∀j,j < m→(∀i,i < t→∀x,nd[i]? =some x→x.1≠j)→qs[j]? =some (0,1)
theorem qj.sm {os:List (List Int)}{m b:Nat}{nd:List (Nat×List Int)}{lv:List (List Int)}{qs:List (Int×Int)}(R:Red os (m+1) m b nd lv)(F:qj m nd.length nd qs):∀q∈qs,Sm b b q:=by
 intro q hq
 obtain ⟨j,hj⟩:=aas hq
 have hjm:j < m:=by have:=(be.mp hj).1;rw [← F.1];exact this
 by_cases c:∃(i:Nat) (x:Nat×List Int),nd[i]? =some x∧x.1=j
 ·obtain ⟨i,x,e,rfl⟩:=c
  have hi:i < nd.length:=(be.mp e).1
  have h1:=F.2.1 i hi x e
  rw [hj] at h1
  cases h1
  have hm:=aai e
  exact tF (R.here x hm) (R.AD x hm m) (R.AD x hm x.1)
 ·have h1:=F.2.2 j hjm (fun i _ x e z=>c ⟨i,x,e,z⟩)
  rw [hj] at h1
  cases h1
  exact ⟨by decide,by decide,aa4 _,akh⟩
theorem qj.sol {os:List (List Int)}{m b:Nat}{nd:List (Nat×List Int)}{lv:List (List Int)}{qs:List (Int×Int)}(R:Red os (m+1) m b nd lv)(F:qj m nd.length nd qs)(hz:∀l∈lv,l.getD m 0=0):∀o∈os,ev o (jk (qs.map vl))=0:=by
 have ql:=F.1
 have zl:∀j q,qs[j]? =some q→jk (qs.map vl) j=vl q:=fun j q e=>by
  have hj:j < qs.length:=(be.mp e).1
  unfold jk
  rw [if_pos (by rw [ir];exact hj),aaz,Wp,e]
  rfl
 have zm:jk (qs.map vl) m= -1:=by
  unfold jk
  rw [if_neg (by rw [ir];omega)]
 refine (R.sol _).mp ⟨fun x hx=> ?_,fun l hl=> ?_⟩
 ·obtain ⟨i,e⟩:=aas hx
  have hi:i < nd.length:=(be.mp e).1
  have hc:=R.cols x hx
  have hh:=R.here x hx
  have h1:=F.2.1 i hi x e
  have zc:=zl _ _ h1
  rw [nj hh] at zc
  have other:∀j,j≠x.1→j≠m→((x.2.getD j 0:Int):Rat)*jk (qs.map vl) j=0:=by
   intro j n1 n2
   by_cases hj:j < m
   ·by_cases c:∃(i:Nat) (x:Nat×List Int),nd[i]? =some x∧x.1=j
    ·obtain ⟨i',y,e',rfl⟩:=c
     rw [R.off x hx y (aai e') (aaU n1)]
     simp
    ·have h2:=F.2.2 j hj (fun i _ x e z=>c ⟨i,x,e,z⟩)
     rw [zl _ _ h2]
     unfold vl
     simp
     grind
   ·rw [hW (by rw [R.lH x hx];omega)]
    simp
  have sp:jk (qs.map vl)=fun i=>(if i=m then 0 else jk (qs.map vl) i)+(if i=m then -1 else 0):=by
   funext i
   by_cases z:i=m
   ·rw [if_pos z,if_pos z,z,zm]
    grind
   ·rw [if_neg z,if_neg z]
    grind
  rw [sp,xw]
  have a1:=nG x.2 (fun i=>if i=m then 0 else jk (qs.map vl) i) x.1 (fun j hj=>by
   by_cases z:j=m
   ·simp [z]
   ·rw [if_neg z]
    exact other j hj z)
  have a2:=nG x.2 (fun i=>if i=m then (-1:Rat) else 0) m (fun j hj=>by rw [if_neg hj];simp)
  rw [a1,a2]
  rw [if_neg (by omega),if_pos rfl,zc]
  have hh' :=cL hh
  grind
 ·refine nF l _ (fun j=> ?_)
  have:l.getD j 0=0:=by
   by_cases h1:j < m
   ·exact R.zero l hl j h1
   ·by_cases h2:j=m
    ·rw [h2]
     exact hz l hl
    ·exact hW (by rw [R.gG l hl];omega)
  rw [this]
  simp
theorem qj.put {m t b:Nat}{os:List (List Int)}{nd:List (Nat×List Int)}{lv:List (List Int)}{qs:List (Int×Int)}{x:Nat×List Int}(R:Red os (m+1) m b nd lv)(F:qj m t nd qs)(e:nd[t]? =some x):qj m (t+1) nd (qs.set x.1 (low (x.2.getD m 0) (x.2.getD x.1 0))):=by
 have ql:=F.1
 have hx:=R.cols x (aai e)
 have dis:∀i y,i < t→nd[i]? =some y→y.1≠x.1:=fun i y hi ey=>by
  have a:=List.pairwise_iff_getElem.mp R.asc i t (by rw [ir];exact (be.mp ey).1) (by rw [ir];exact (be.mp e).1) hi
  simp only [List.getElem_map] at a
  have e1:=(be.mp ey).2
  have e2:=(be.mp e).2
  rw [e1,e2] at a
  omega
 refine ⟨by simp [ql],fun i hi y ey=> ?_,fun j hj h=> ?_⟩
 ·rcases aa8.mp hi with z | z
  ·rw [aa3,if_neg (aaU (dis i y z ey))]
   exact F.2.1 i z y ey
  ·subst z
   rw [e] at ey
   cases ey
   rw [aa3,if_pos rfl,if_pos (by omega)]
 ·rw [aa3,if_neg (h t (aa6 _) x e)]
  exact F.2.2 j hj (fun i hi y ey=>h i (abL hi) y ey)
theorem GX {n j:Nat}(h:j < n):v7 n (j:Int)=some j:=by
 unfold v7
 simp
 omega
theorem bQ.putL {K:Frag}{H:Hp}{a d:Addr}{xs ys:List V}{o:HO}(h:bQ K H a xs)(e:H d=some (.lst ys)):bQ K (upd H d o) a xs:=by
 rcases h with (h | ⟨o',h⟩) | h
 ·exact .inl (.inl (by rw [ak (fun z=>by rw [z,e] at h;cases h)];exact h))
 ·exact .inl (.inr ⟨o',by rw [ak (fun z=>by rw [z,e] at h;cases h)];exact h⟩)
 ·exact .inr h
inductive gI (K:Frag)(vs:List V)(H:Hp)(Q:VK)(E_:XK):Prop where
 | mk (a:Addr) (us:List V) (os:List (List Int:_)) (m b:Nat) (_:vs=[.ref a,.int (m:Int)]) (_:aT K H a us) (_:k_ H us os) (_:(∀o∈os,o.length=m+1)) (_:m≤900) (_:os.length≤900) (_:(∀o∈os,Bd b o)) (_:bb b (min m os.length)≤29000000) (_:(∀(l:List Int) (H' :Hp),ar H H' →l.length=m+1→iU os l→(∀j,j < m→l.getD j 0=0)→l.getD m 0≠0→Q .cb H')) (_:(∀(x:Addr) (gH :List V) (qs:List (Int×Int)) (H' :Hp),ar H H' →H x=none→H' x=some (.lst gH)→cv K H' gH qs→qs.length=m→(∀q∈qs,Sm (bb b (min m os.length)) (bb b (min m os.length)) q)→(∀o∈os,ev o (jk (qs.map vl))=0)→Q (.ref x) H')):gI K vs H Q E_
theorem qk:aA ["lines","many","told","x","column","line"] ["lines","many"] (af u9):=sq
theorem Lk {aN:Addr}(hN:∀H:Hp,bQ K H aN [.int 0,.int 1])(nN:mg "NOUGHT"=some (.ref aN))(D:Def K mg "solution_of" u9 ["lines","many"])(xW:mg "any"=none)(SW:Fn P w K mg base (aX P w) 35 "reduced" ["lines","many"] (i6 K))(xX:Fn P w K mg base (aX P w) 33 "lowest_terms" ["top","bottom"] eK):Fn P w K mg base (aX P w) 36 "solution_of" ["lines","many"] (gI K):=by
 refine D.ok qk (fun vs H Q E h=> ?_) (fun f bx A outer s H vs Q E hr h=> ?_)
 ·obtain ⟨a,us,os,m,b,rfl,_⟩:=h
  rfl
 obtain ⟨a,us,os,m,b,rfl,hS,hL,hlen,hm,ho,hB,hb,q1,q2⟩:=h
 refine ⟨_,(ae (aw (i:=2) qk.nd rfl (aan rfl) (ay SW hr.mo pX (aq (pv 0) (aq (pv 1) aa))))
  (ae (bG (wu (aQ (uH rfl) rfl xW KO (aq (de (tn:=["line"]) (fr:=["many"]) (caps:=[1]) rfl ⟨rfl,by decide+kernel,rfl,by decide+kernel,by decide+kernel,rfl,⟨(by first | exact aan rfl | exact aaZ rfl),trivial⟩,⟨(by first | exact aan rfl | exact aaZ rfl),trivial⟩⟩ (bN (aJ (pv 2))) (fun _ _ _ _=>(aG (i:=0) (show (["line","many"]:List Str).Nodup from by decide+kernel) rfl (aan rfl))) (fun _ _ _ _=>cR) (fun _ _ _ _=>(mT oR (aS (eA (K:=K) rfl) (pv 0) (pv 1) (fun _ _=>rfl)) ag (ba _)))) aa))) (aj (aI jS)) aY)
  (ae (aw (i:=3) qk.nd rfl (aan rfl) (aH q0 (bD (aq (eZ (v:=.ref aN) rfl nN rfl) aa)) (pv 1)))
  (ae (bo PassesOwn.never rfl (kg (aJ (pv 2))) (fJ rfl (bg (aG (i:=4) qk.nd rfl (aan rfl)) (bg (aG (i:=5) qk.nd rfl (aan rfl)) c_))) (aj (qM (ay xX hr.mo pX (aq (aS aK (pv 5) (pv 1) (fun _ _=>rfl)) (aq (aS aK (pv 5) (pv 4) (fun _ _=>rfl)) aa))) (qL (pv 3) (pv 4) set_list))))
  (aj (aI (pv 3))))))),?_⟩
 refine ⟨_,rfl,_,rfl,a,us,os,m+1,m,b,rfl,hS,hL,hlen,by omega,by omega,by omega,hB,hb,fun p d a' kvs gH nd lv H1 s1 Js np hp hd DC hN1 GQ R=> ?_⟩
 have lu:=GQ.1
 have cnt:=R.cnt
 refine ⟨_,rfl,p,_,_,_,rfl,rfl,bQ.of hp,gP,a',rfl,⟨_,DC⟩,fun D1 n1=> ?_⟩
 refine c6 (cap:=[some (.int (m:Int))]) (K:=K) (a:=a') (xs:=gH) (fun k v _=>∃l,lv[k]? =some l∧v=.bl (decide (l.getD m 0≠0))) n1 (aar (show gH.length≤1000 by omega) (by decide)) (fun H2 s2=>s2.seq DC) (fun _ _ _ _ _ _ _ h=>h) ?_ ?_
 ·intro k x H2 RR ex s2 kk
  obtain ⟨l,el,b',rfl,fZ⟩:=GQ.at ex
  have hll:=R.gG l (aai el)
  refine ⟨_,rfl,_,rfl,b',_,_,_,rfl,rfl,aT.of (s2 _ _ fZ),mx (by omega),rfl,?_⟩
  refine kk _ _ (ar.refl _) ⟨l,el,?_⟩
  simp
 ·intro ys H2 hy gF s2 hD
  have ey:ys=(lv.map fun l=>decide (l.getD m 0≠0)).map V.bl:=by
   refine aa7 fun i=> ?_
   by_cases hi:i < ys.length
   ·have e1:ys[i]? =some ys[i]:=gE hi
    obtain ⟨l,el,e⟩:=gF i _ e1
    rw [e1,e,Wp,Wp,el]
    rfl
   ·rw [aam (by omega),aam (by simp;omega)]
  subst ey
  refine ⟨D1,_,rfl,aT.of hD,_,rfl,?_⟩
  have v_:=s1.trans s2
  refine bI (fun c=> ?_) (fun c=> ?_)
  ·obtain ⟨b',fZ,hb1⟩:=abA.mp c
   obtain ⟨l,hl,rfl⟩:=aal.mp fZ
   have hn:l.getD m 0≠0:=of_decide_eq_true hb1
   exact q1 l H2 v_ (R.gG l hl) (R.g_ l hl) (R.zero l hl) hn
  ·have hz:∀l∈lv,l.getD m 0=0:=fun l hl=>by
    by_cases z:l.getD m 0=0
    ·exact z
    ·exact absurd (abA.mpr ⟨true,aal.mpr ⟨l,hl,decide_eq_true z⟩,rfl⟩) c
   refine ⟨(by show 1≤sizeLine;decide),fun p3 n3=> ?_⟩
   have s3:=aD n3 (.lst [V.ref aN])
   refine ⟨_,rfl,p3,_,_,rfl,rfl,ah,by omega,by omega,aak (show 1*(m:Int).toNat≤1000 by omega) (by decide),fun x n4=> ?_⟩
   have s4:=aD n4 (.lst (aau (m:Int).toNat [V.ref aN]).flatten)
   have s14:=(v_.trans s3).trans s4
   have nx:H x=none:=(v_.trans s3).free n4
   have er:(aau (m:Int).toNat [V.ref aN]).flatten=aau m (V.ref aN):=by simp
   have hp4:=s4 _ _ (s3 _ _ (s2 _ _ hp))
   have vR:=s4 _ _ (s3 _ _ (s2 _ _ hd))
   have y8:=((hN1.same s2).same s3).same s4
   have dx:d≠x:=ao (s3 _ _ (s2 _ _ hd)) n4
   refine ⟨_,rfl,p,_,_,_,rfl,rfl,bQ.of hp4,g9,d,kvs,rfl,vR,fun o=> ?_⟩
   refine iV (d:=d) (o:=o) (kvs:=kvs) (fun t σ H' =>∃(o4 o5:Option V) (xY:List V) (qs:List (Int×Int)),σ=[some (.ref a),some (.int (m:Int)),some (.ref p),some (.ref x),o4,o5]∧ar H H' ∧H' d=some (.fD o (.dK kvs))∧H' x=some (.lst xY)∧cv K H' xY qs∧mz H' kvs nd∧qj m t nd qs)
    ⟨none,none,aau m (V.ref aN),aau m (0,1),rfl,hG s14 Js,ah,by rw [ak (aaU dx),ah,er],⟨by simp,fun i u q' e1 e2=> ?_⟩,y8.put vR,⟨by simp,fun i hi=>absurd hi (abf _),fun j hj _=>by rw [aaY,if_pos hj]⟩⟩ (fun t σ H' _ h=>by
     obtain ⟨_,_,_,_,_,_,h,_⟩:=h
     exact h) ?_ ?_
   ·rw [aaY] at e1 e2
    by_cases z:i < m
    ·rw [if_pos z] at e1 e2
     cases e1
     cases e2
     exact ⟨aN,rfl,hN _⟩
    ·rw [if_neg z] at e1
     cases e1
   ·rintro t k v σ H5 p7 v9 ⟨o4,o5,xY,qs,rfl,s5,GV,SX,AH,Ll,F⟩ n7
    have ht:t < kvs.length:=(be.mp v9).1
    have hl5:=Ll.1
    obtain ⟨c,ec⟩:∃c,nd[t]? =some c:=⟨_,gE (by omega)⟩
    obtain ⟨k1,k2⟩:=Ll.2 t _ c v9 ec
    have k1' :k=.inl (c.1:Int):=k1
    subst k1'
    obtain ⟨b',eb,fZ⟩:=k2
    have Lm :v=.ref b' :=eb
    subst Lm
    have SY:=aai ec
    have hcl:=R.lH c SY
    have QP:=R.cols c SY
    have s7:=aD n7 (.tup [kV (.inl (c.1:Int)),.ref b'])
    have hb7:=s7 _ _ fZ
    refine ⟨p7,_,rfl,bQ.of ah,rfl,_,_,rfl,_,_,rfl,rfl,?_⟩
    refine ⟨_,rfl,_,rfl,b',_,_,_,rfl,rfl,aT.of hb7,mx (by omega),_,rfl,_,rfl,b',_,_,_,rfl,rfl,aT.of hb7,mx (by omega),?_⟩
    refine ⟨_,_,rfl,R.here c SY,fun p8 H8 s8 e8=> ?_⟩
    have AI:=s7.trans s8
    have hx8:=AI _ _ SX
    have l2:=AH.1
    have xn:∀{b0:Addr} {o0:HO},H b0=some o0→b0≠x:=fun e=>ao e nx
    have dx8:=AI _ _ GV
    refine ⟨_,rfl,_,rfl,x,xY,_,c.1,rfl,rfl,hx8,GX (by rw [l2,F.1];exact QP),?_⟩
    refine ⟨_,_,xY.set c.1 (.ref p8),qs.set c.1 (low (c.2.getD m 0) (c.2.getD c.1 0)),rfl,hG (s5.trans AI) nx,by rw [ak dx];exact dx8,ah,?_,?_,F.put R ec⟩
    ·have base:cv K H8 (xY.set c.1 (.ref p8)) (qs.set c.1 (low (c.2.getD m 0) (c.2.getD c.1 0))):=(AH.same AI).set ⟨p8,rfl,bQ.of e8⟩
     refine ⟨base.1,fun i u q' e1 e2=> ?_⟩
     obtain ⟨p9,e9,h9⟩:=base.2 i u q' e1 e2
     exact ⟨p9,e9,bQ.putL h9 hx8⟩
    ·have base:=Ll.same AI
     refine ⟨base.1,fun i kv y e1 e2=>⟨(base.2 i kv y e1 e2).1,?_⟩⟩
     obtain ⟨p9,e9,h9⟩:=hN1.2 i kv y e1 e2 |>.2
     refine ⟨p9,e9,?_⟩
     have px9:p9≠x:=fun z=>by
      have:=(s3 _ _ (s2 _ _ h9))
      rw [z,n4] at this
      cases this
     rw [ak px9]
     obtain ⟨p10,e10,h10⟩:=(base.2 i kv y e1 e2).2
     rw [e9] at e10
     cases e10
     exact h10
   ·rintro σ H5 ⟨o4,o5,xY,qs,rfl,s5,GV,SX,AH,Ll,F⟩
    have hl5:=Ll.1
    rw [hl5] at F
    exact ⟨_,rfl,q2 x xY qs H5 s5 nx SX AH F.1 (F.sm R) (F.sol R hz)⟩
def h7 (H:Hp)(r:Addr)(ls:List Addr)(bX:List (List V)):Prop:=H r=some (.lst (ls.map V.ref))∧ls.length=bX.length∧∀(i:Nat) (l:Addr) (vs:List V),ls[i]? =some l→bX[i]? =some vs→H l=some (.lst vs)
theorem h7.same {H H' :Hp}{r:Addr}{ls:List Addr}{bX:List (List V)}(h:h7 H r ls bX)(s:ar H H'):h7 H' r ls bX:=⟨s _ _ h.1,h.2.1,fun i l vs e1 e2=>s _ _ (h.2.2 i l vs e1 e2)⟩
def Shape (T B m:Nat)(cV:List (List (Int×Int))):Prop:=∀qs∈cV,qs.length=m∧∀q∈qs,Sm T B q
def gJ (K:Frag)(H:Hp)(bX:List (List V))(cV:List (List (Int×Int))):Prop:=bX.length=cV.length∧∀(i:Nat) (vs:List V) (qs:List (Int×Int)),bX[i]? =some vs→cV[i]? =some qs→cv K H vs qs
theorem gJ.same {H H' :Hp}{bX:List (List V)}{cV:List (List (Int×Int))}(h:gJ K H bX cV)(s:ar H H'):gJ K H' bX cV:=⟨h.1,fun i vs qs e1 e2=>(h.2 i vs qs e1 e2).same s⟩
theorem xZ {α:Type}{xs:List α}{x y:α}{j:Nat}(e:(xs++[x])[j]? =some y):(j < xs.length∧xs[j]? =some y)∨(j=xs.length∧x=y):=by
 by_cases c:j < xs.length
 ·rw [aaq c] at e
  exact .inl ⟨c,e⟩
 ·rw [aat (by omega)] at e
  by_cases z:j - xs.length=0
  ·rw [z] at e
   exact .inr ⟨by omega,aaE e⟩
  ·rw [aam (by simp;omega)] at e
   cases e
theorem h7.snoc {H:Hp}{r D:Addr}{ls:List Addr}{bX:List (List V)}{us:List V}(h:h7 H r ls bX)(nr:r∉ls)(hD:H D=some (.lst us))(nD:D≠r):h7 (upd H r (.lst (ls.map V.ref++[.ref D]))) r (ls++[D]) (bX++[us]):=by
 obtain ⟨m1,m2,m3⟩:=h
 refine ⟨by rw [ah,aaA];rfl,by simp [m2],fun j l vs e1 e2=> ?_⟩
 rcases xZ e1 with ⟨c1,d1⟩ | ⟨c1,d1⟩ <;> rcases xZ e2 with ⟨c2,d2⟩ | ⟨c2,d2⟩
 ·have ne:l≠r:=fun z=>nr (by rw [← z];exact aai d1)
  rw [ak ne]
  exact m3 j l vs d1 d2
 ·omega
 ·omega
 ·subst d1 d2
  rw [ak nD]
  exact hD
theorem h7.row {H:Hp}{r:Addr}{ls:List Addr}{bX:List (List V)}(h:h7 H r ls bX){i:Nat}{vs:List V}(e:bX[i]? =some vs):∃l,ls[i]? =some l∧H l=some (.lst vs):=by
 have hi:i < bX.length:=(be.mp e).1
 have l1:=h.2.1
 have e1:ls[i]? =some (ls[i]'(by omega)):=gE (by omega)
 exact ⟨_,e1,h.2.2 i _ _ e1 e⟩
def vS (bX:List (List V))(j:Nat):List V:=bX.map fun vs=>vs.getD j .cb
def h_ (bX:List (List V))(m:Nat):List (List V):=(abF m).map fun j=>vS bX j
inductive kz (vs:List V)(H:Hp)(Q:VK)(E_:XK):Prop where
 | mk (r:Addr) (ls:List Addr) (bX:List (List V:_)) (m:Int) (_:vs=[.ref r,.int m]) (_:h7 H r ls bX) (_:0≤m) (_:m≤1000) (_:ls.length≤1000) (_:(∀vs∈bX,m≤(vs.length:Int))) (_:∀c cs H',ar H H' →h7 H' c cs (h_ bX m.toNat)→Q (.ref c) H'):kz vs H Q E_
theorem x4:aA ["rows","many","columns","column"] ["rows","many"] (af u5):=sq
theorem Lo (D:Def K mg "turned" u5 ["rows","many"])(a9:mg "range"=none):Fn P w K mg base (aX P w) 1 "turned" ["rows","many"] kz:=by
 refine D.ok x4 (fun vs H Q E h=> ?_) (fun f bx A outer s H vs Q E hr h=> ?_)
 ·obtain ⟨r,ls,bX,m,rfl,_⟩:=h
  rfl
 obtain ⟨r,ls,bX,m,rfl,M,m0,m1,hn,hv,q⟩:=h
 refine ⟨_,(ae (aw (i:=2) x4.nd rfl (aan rfl) (bD aa))
  (ae (bo PassesOwn.never rfl (bu rfl a9 (aq (pv 1) aa)) (aG (i:=3) x4.nd rfl (aaZ rfl)) (aj (bF (fN PySem.F.plainAttrs_list PySem.F.slot_list_append PySem.F.type_list_append cg (pv 2) (aq (de (tn:=["row"]) (fr:=["column"]) (caps:=[3]) rfl ⟨rfl,by decide+kernel,rfl,by decide+kernel,by decide+kernel,rfl,⟨(by first | exact aan rfl | exact aaZ rfl),trivial⟩,⟨(by first | exact aan rfl | exact aaZ rfl),trivial⟩⟩ (bN (pv 0)) (fun _ _ _ _=>(aG (i:=0) (show (["row","column"]:List Str).Nodup from by decide+kernel) rfl (aan rfl))) (fun _ _ _ _=>cR) (fun _ _ _ _=>(aS (eA (K:=K) rfl) (pv 0) (pv 1) (fun _ _=>rfl)))) aa)))))
  (aj (aI (pv 2))))),?_⟩
 have l1:=M.2.1
 refine ⟨(by show 0≤sizeLine;decide),fun c nc=> ?_⟩
 refine ⟨_,rfl,_,rfl,by omega,by omega,?_⟩
 refine bz (lo:=0) (n:=m.toNat) (fun i σ H' =>∃(o:Option V) (cs:List Addr),σ=[some (.ref r),some (.int m),some (.ref c),o]∧ar H H' ∧h7 H' c cs (h_ bX i)∧c∉cs) ⟨none,[],rfl,aD nc _,⟨ah,rfl,fun i l vs e=>by simp at e⟩,by simp⟩ ?_ ?_
 ·rintro i σ H' hi ⟨o,cs,rfl,s1,C,S0⟩
  have M' :=M.same s1
  refine ⟨_,rfl,.inl ⟨rfl,_,aT.of C.1⟩,?_⟩
  refine ⟨_,rfl,r,rfl,⟨_,aT.of M'.1⟩,fun D nD=> ?_⟩
  refine c6 (cap:=[some (.int ((0:Int)+i))]) (K:=K) (a:=r) (xs:=ls.map V.ref) (fun k v _=>∃vs,bX[k]? =some vs∧v=vs.getD i .cb) nD (by rw [ir];exact aar hn (by decide)) (fun H2 s2=>aT.of (s2 _ _ M'.1)) (fun _ _ _ _ _ _ _ h=>h) ?_ ?_
  ·intro k u H2 R hu s2 kk
   rw [Wp] at hu
   obtain ⟨l,el,rfl⟩:=aaw.mp hu
   have hk:k < ls.length:=(be.mp el).1
   have ev:bX[k]? =some (bX[k]'(by omega)):=gE (by omega)
   have hl:=M'.2.2 k l _ el ev
   have KJ :i < (bX[k]'(by omega)).length:=by
    have:=hv _ (aai ev)
    omega
   have ea:dr (bX[k]'(by omega)) ((0:Int)+(i:Int))=some ((bX[k]'(by omega)).getD i .cb):=by
    rw [aaS]
    exact a_ (by rw [gE KJ,aaz,gE KJ];rfl)
   exact ⟨_,rfl,_,rfl,l,_,_,_,rfl,rfl,aT.of (s2 _ _ hl),ea,kk _ _ (ar.refl _) ⟨_,ev,rfl⟩⟩
  ·intro ys H2 hy gF s2 hD
   rw [ir] at hy
   have ey:ys=vS bX i:=by
    refine aa7 fun k=> ?_
    unfold vS
    by_cases hk:k < ys.length
    ·have e1:ys[k]? =some ys[k]:=gE hk
     obtain ⟨vs,ev,e2⟩:=gF k _ e1
     rw [e1,e2,Wp,ev]
     rfl
    ·rw [aam (by omega),aam (by simp;omega)]
   subst ey
   have lc:cs.length=i:=by have:=C.2.1;simpa [h_] using this
   have nDc:D≠c:=fun z=>by rw [z,C.1] at nD;cases nD
   have fc:∀b o,H b=some o→b≠c:=fun b o e=>ao e nc
   refine ⟨c,_,_,rfl,rfl,s2 _ _ C.1,by rw [ir,lc];exact aar (show i≤1000 by omega) (by decide),?_⟩
   refine ⟨_,cs++[D],rfl,fun b o e=> ?_,?_,fun z=> ?_⟩
   ·rw [ak (fc b o e)]
    exact s2 _ _ (s1 _ _ e)
   ·have e:h_ bX (i+1)=h_ bX i++[vS bX i]:=by simp [h_,List.range_succ]
    rw [e]
    exact (C.same s2).snoc S0 hD nDc
   ·rcases aaH.mp z with y | y
    ·exact S0 y
    ·exact nDc (aaD.mp y).symm
 ·rintro σ H' ⟨o,cs,rfl,s1,C,S0⟩
  exact ⟨_,rfl,q c cs H' s1 C⟩
def lI (cV:List (List (Int×Int)))(j:Nat):List (Int×Int):=cV.map fun qs=>qs.getD j (0,1)
theorem Bd.of {b:Nat}{l:List Int}(h:∀t∈l,t.natAbs≤2^b):Bd b l:=fun j=>by
 by_cases hj:j < l.length
 ·have e:l[j]? =some l[j]:=gE hj
  rw [getD_mem e]
  exact h _ (abo hj)
 ·rw [hW (by omega)]
  exact aa4 _
abbrev Wl:=List Int×Int×Addr×Addr
def Q_ (T B m:Nat)(qs:List (Int×Int))(d:Int×Int)(w:Wl):Prop:=jh w.1 (qs++[d]) w.2.1∧0 < w.2.1∧w.2.1.natAbs≤2^(B*(m+1))∧∀t∈w.1,t.natAbs≤2^(T+B*(m+1))
theorem x5 {wd:List (List Int)}{j n:Nat}(h:∀l∈wd,l.length=n)(hj:j < n):vS (wd.map fun l=>l.map V.int) j=(wd.map fun l=>l.getD j 0).map V.int:=by
 unfold vS
 rw [aaI,aaI]
 refine aaR fun l hl=> ?_
 have hlen:=h l hl
 have e:l[j]? =some (l[j]'(by omega)):=gE (by omega)
 show (l.map V.int).getD j .cb=.int (l.getD j 0)
 rw [getD_mem e,aaz,Wp,e]
 rfl
theorem kA (j:Nat):∀{ws:List Wl} {ss ys:List (Int×Int)} {cs:List (Int×Int)},ss.length=ws.length→ys.length=ws.length→cs.length=ws.length→
  (∀(i:Nat) (w:Wl) (s y:Int×Int),ws[i]? =some w→ss[i]? =some s→ys[i]? =some y→vl y=vl s*w.2.1)→(∀(i:Nat) (w:Wl) (c:Int×Int),ws[i]? =some w→cs[i]? =some c→((w.1.getD j 0:Int):Rat)=vl c*w.2.1)→fg ys cs=cT (ss.map vl) (ws.map (·.1)) j
 | [],[],[],[],_,_,_,_,_=>by simp [fg,cT]
 | w::ws,s::ss,y::ys,c::cs,h1,h2,h3,h4,h5=>by
  have ih:=kA j (ws:=ws) (ss:=ss) (ys:=ys) (cs:=cs) (by simpa using h1) (by simpa using h2) (by simpa using h3) (fun i w s y e1 e2 e3=>h4 (i+1) w s y (by simpa using e1) (by simpa using e2) (by simpa using e3)) (fun i w c e1 e2=>h5 (i+1) w c (by simpa using e1) (by simpa using e2))
  have a:=h4 0 w s y rfl rfl rfl
  have b:=h5 0 w c rfl rfl
  have ed:fg (y::ys) (c::cs)=vl y*vl c+fg ys cs:=by simp [fg]
  simp only [aaj,cT]
  rw [ed,ih,a,b]
  grind
 | [],_::_,_,_,h,_,_,_,_=>by simp at h
 | [],[],_::_,_,_,h,_,_,_=>by simp at h
 | [],[],[],_::_,_,_,h,_,_=>by simp at h
 | _::_,[],_,_,h,_,_,_,_=>by simp at h
 | _::_,_::_,[],_,_,h,_,_,_=>by simp at h
 | _::_,_::_,_::_,[],_,_,h,_,_=>by simp at h
def qH (m:Nat)(wd:List (List Int)):List (List Int):=(abF m).map (fun j=>(wd.map fun l=>l.getD j 0)++[0])++[(wd.map fun l=>l.getD m 0)++[1]]
theorem nO {m:Nat}{wd:List (List Int)}{o:List Int}(h:o∈qH m wd):∃k,k < m+1∧o=(wd.map fun l=>l.getD k 0)++[if k=m then 1 else 0]∧True:=by
 unfold qH at h
 rcases aaH.mp h with z | z
 ·obtain ⟨j,hj,rfl⟩:=aal.mp z
  have K0 :j < m:=abH.mp hj
  exact ⟨j,by omega,by rw [if_neg (by omega)],trivial⟩
 ·exact ⟨m,by omega,by rw [if_pos rfl];exact aaD.mp z,trivial⟩
theorem GY {m k:Nat}{wd:List (List Int)}(h:k < m+1):(wd.map fun l=>l.getD k 0)++[if k=m then 1 else 0]∈qH m wd:=by
 unfold qH
 by_cases z:k=m
 ·subst z
  rw [if_pos rfl]
  simp
 ·rw [if_neg z]
  exact aaH.mpr (.inl (aal.mpr ⟨k,abH.mpr (by omega),rfl⟩))
theorem rJ {m n:Nat}{l0 l1:List Int}{ws:List Wl}(hlen:∀l∈ws.map (·.1),l.length=m+1)(hn:ws.length=n)(c0:iU (ws.map (·.1)) l0)(h0:∀j,j < m→l0.getD j 0=0)(h0m:l0.getD m 0≠0)(c1:iU (qH m (ws.map (·.1))) l1)(l1l:l1.length=n+1)(h1:∀j,j < n→l1.getD j 0=0)(hp:∀o∈qH m (ws.map (·.1)),o.length=n+1):l1.getD n 0=0:=by
 obtain ⟨y0,ly,ey⟩:=c0
 have alF :=cL h0m
 have ly' :(y0.map fun a=>a*(1 / ((l0.getD m 0:Int):Rat))).length=(ws.map (·.1)).length:=by simp [ly]
 have all:∀o∈qH m (ws.map (·.1)),ev o (jk (y0.map fun a=>a*(1 / ((l0.getD m 0:Int):Rat))))=0:=by
  intro o ho
  obtain ⟨k,hk,rfl,_⟩:=nO ho
  rw [rj k _ (ws.map (·.1)) _ ly',kh, ← ey k]
  by_cases z:k=m
  ·subst z
   rw [if_pos rfl]
   have e' :((1:Int):Rat)=1:=by simp
   rw [e']
   grind
  ·rw [if_neg z,h0 k (by omega)]
   simp
   grind
 have e:=zV (n:=n+1) c1 (by omega) (fun o ho=>by rw [hp o ho];exact aao _) all
 rw [nG l1 _ n (fun j hj=>by
  by_cases z:j < n
  ·rw [h1 j z]
   simp
  ·rw [hW (by omega)]
   simp)] at e
 have zn:jk (y0.map fun a=>a*(1 / ((l0.getD m 0:Int):Rat))) n= -1:=by
  unfold jk
  rw [if_neg (by rw [ly',ir];omega)]
 rw [zn] at e
 have:((l1.getD n 0:Int):Rat)=0:=by grind
 exact_mod_cast this
theorem vT {ts:List Int}{qs:List (Int×Int)}{d:Int×Int}{b:Int}{j:Nat}(h:jh ts (qs++[d]) b)(hj:j < qs.length):((ts.getD j 0:Int):Rat)=vl (qs.getD j (0,1))*b:=by
 have l:=h.1
 rw [aap] at l
 simp at l
 have e1:ts[j]? =some (ts[j]'(by omega)):=gE (by omega)
 have e2:qs[j]? =some qs[j]:=gE hj
 have:=h.2 j _ _ e1 (by rw [aaq hj];exact e2)
 rw [getD_mem e1,aaz,e2]
 exact this
theorem rK {ts:List Int}{qs:List (Int×Int)}{d:Int×Int}{b:Int}{m:Nat}(h:jh ts (qs++[d]) b)(hm:qs.length=m):((ts.getD m 0:Int):Rat)=vl d*b:=by
 have l:=h.1
 rw [aap] at l
 simp at l
 have e1:ts[m]? =some (ts[m]'(by omega)):=gE (by omega)
 have:=h.2 m _ d e1 (by rw [aat (by omega),hm];simp)
 rw [getD_mem e1]
 exact this
inductive jN (K:Frag)(vs:List V)(H:Hp)(Q:VK)(E_:XK):Prop where
 | mk (r dl:Addr) (m:Nat) (ls:List Addr) (bX:List (List V:_)) (cV:List (List (Int×Int))) (Lp:List V) (ds:List (Int×Int)) (T B Z:Nat) (_:vs=[.ref r,.ref dl,.int (m:Int)]) (_:h7 H r ls bX) (_:gJ K H bX cV) (_:H dl=some (.lst Lp)) (_:cv K H Lp ds) (_:ds.length=cV.length) (_:Shape T B m cV) (_:(∀d∈ds,Sm T B d)) (_:m≤100) (_:cV.length≤100) (_:T≤20000) (_:B*(m+1)≤8000) (_:bb (T+B*(m+1)) (min (m+1) cV.length)≤Z) (_:Z≤29000000) (_:(∀(p x:Addr) (us:List V) (xs:List (Int×Int)) (H' :Hp),ar H H' →H' p=some (.tup [.str "solved",.ref x])→H' x=some (.lst us)→cv K H' us xs→xs.length=m→(∀q∈xs,Sm Z Z q)→(∀(i:Nat) (qs:List (Int×Int)) (d:Int×Int),cV[i]? =some qs→ds[i]? =some d→fg qs xs=vl d)→Q (.ref p) H')) (_:(∀(p y:Addr) (us:List V) (ys:List (Int×Int)) (H' :Hp),ar H H' →H' p=some (.tup [.str "paper",.ref y])→H' y=some (.lst us)→cv K H' us ys→ys.length=cV.length→(∀q∈ys,Sm (Z+B*(m+1)) Z q)→(∀j,j < m→fg ys (lI cV j)=0)→fg ys ds=1→Q (.ref p) H')):jN K vs H Q E_
theorem kC:aA ["rows","due","many","wholes","lines","x","columns","papers","shares"] ["rows","due","many"] (af u4):=sq
theorem Lq (D:Def K mg "solve_rows" u4 ["rows","due","many"])(gm:mg "zip"=none)(aZ:mg "len"=none)(S1:Fn P w K mg base (aX P w) 2 "whole_row" ["row"] (GP K))(Lr:Fn P w K mg base (aX P w) 36 "solution_of" ["lines","many"] (gI K))(S2:Fn P w K mg base (aX P w) 1 "turned" ["rows","many"] kz)(xX:Fn P w K mg base (aX P w) 33 "lowest_terms" ["top","bottom"] eK):
  Fn P w K mg base (aX P w) 37 "solve_rows" ["rows","due","many"] (jN K):=by
 refine D.ok kC (fun vs H Q E h=> ?_) (fun f bx A outer s H vs Q E hr h=> ?_)
 ·obtain ⟨r,dl,m,ls,bX,cV,Lp,ds,T,B,Z,rfl,_⟩:=h
  rfl
 obtain ⟨r,dl,m,ls,bX,cV,Lp,ds,T,B,Z,rfl,M,NN,hdl,ND,J7,sh,sd,hm,hn,hT,hB,hZ,hZ1,q1,q2⟩:=h
 refine ⟨_,(ae (jH (i:=3) kC.nd rfl (aan rfl) (tn:=["row","number"]) (fr:=[]) (caps:=[]) rfl ⟨rfl,by decide+kernel,rfl,by decide+kernel,by decide+kernel,rfl,trivial,trivial⟩ (q_ rfl gm (aq (pv 0) (aq (pv 1) aa))) (fun _ _ _ _=>(ni (K:=K) (n:=2) rfl rfl (bg (aG (i:=0) (show (["row","number"]:List Str).Nodup from by decide+kernel) rfl (aan rfl)) (bg (aG (i:=1) (show (["row","number"]:List Str).Nodup from by decide+kernel) rfl (aan rfl)) c_)))) (fun _ _ _ _=>cR) (fun _ _ _ _=>(ay S1 hr.mo (pD (by first | assumption | exact aX.m9) rfl) (aq (aH gy (pv 0) (bD (aq (pv 1) aa))) aa))))
  (ae (jH (i:=4) kC.nd rfl (aan rfl) (tn:=["whole"]) (fr:=[]) (caps:=[]) rfl ⟨rfl,by decide+kernel,rfl,by decide+kernel,by decide+kernel,rfl,trivial,trivial⟩ (bN (pv 3)) (fun _ _ _ _=>(aG (i:=0) (show (["whole"]:List Str).Nodup from by decide+kernel) rfl (aan rfl))) (fun _ _ _ _=>cR) (fun _ _ _ _=>(aS (du (K:=K) rfl) (pv 0) ag (fun _ _=>rfl))))
  (ae (aw (i:=5) kC.nd rfl (aan rfl) (ay Lr hr.mo pX (aq (pv 4) (aq (pv 2) aa))))
  (ae (bG (aU zo (pv 5) jS (ba _)) (aj (aI (aR (aq cI (aq (pv 5) aa))))) aY)
  (ae (aw (i:=6) kC.nd rfl (aan rfl) (ay S2 hr.mo pX (aq (pv 4) (aq (aH bO (pv 2) ag) aa))))
  (ae (aw (i:=7) kC.nd rfl (aan rfl) (aH gy (de (tn:=["column"]) (fr:=[]) (caps:=[]) rfl ⟨rfl,by decide+kernel,rfl,by decide+kernel,by decide+kernel,rfl,trivial,trivial⟩ (bN (cQ fe (pv 6) d3 (dc (pv 2)))) (fun _ _ _ _=>(aG (i:=0) (show (["column"]:List Str).Nodup from by decide+kernel) rfl (aan rfl))) (fun _ _ _ _=>cR) (fun _ _ _ _=>(aH gy (pv 0) (bD (aq ag aa))))) (bD (aq (aH gy (aS aK (pv 6) (pv 2) (fun _ _=>rfl)) (bD (aq ag aa))) aa))))
  (ae (aw (i:=8) kC.nd rfl (aan rfl) (ay Lr hr.mo pX (aq (pv 7) (aq (aQ aE rfl aZ bT (aq (pv 4) aa)) aa))))
  (aj (aI (aR (aq cI (aq (de (tn:=["share","whole"]) (fr:=[]) (caps:=[]) rfl ⟨rfl,by decide+kernel,rfl,by decide+kernel,by decide+kernel,rfl,trivial,trivial⟩ (q_ rfl gm (aq (pv 8) (aq (pv 3) aa))) (fun _ _ _ _=>(ni (K:=K) (n:=2) rfl rfl (bg (aG (i:=0) (show (["share","whole"]:List Str).Nodup from by decide+kernel) rfl (aan rfl)) (bg (aG (i:=1) (show (["share","whole"]:List Str).Nodup from by decide+kernel) rfl (aan rfl)) c_)))) (fun _ _ _ _=>cR) (fun _ _ _ _=>(ay xX hr.mo (pD (by first | assumption | exact aX.m9) rfl) (aq (aH d7 (aS (du (K:=K) rfl) (pv 0) ag (fun _ _=>rfl)) (aS (du (K:=K) rfl) (pv 1) ag (fun _ _=>rfl))) (aq (aS (du (K:=K) rfl) (pv 0) ag (fun _ _=>rfl)) aa))))) aa)))))))))))),?_⟩
 have l1:=M.2.1
 have l2:=NN.1
 have l3:=ND.1
 have hB1:B≤8000:=aak (Nat.le_mul_of_pos_right B (Nat.succ_pos m)) hB
 refine ⟨_,rfl,_,rfl,r,dl,rfl,⟨_,aT.of M.1⟩,⟨_,aT.of hdl⟩,fun D1 n1=> ?_⟩
 refine uI (cap:=[]) (K:=K) (xs:=ls.map V.ref) (ys:=Lp) (fun i v H=>∃w:Wl,v=.ref w.2.2.2∧w.2.2.1≠D1∧H w.2.2.2=some (.tup [.ref w.2.2.1,.int w.2.1])∧H w.2.2.1=some (.lst (w.1.map V.int))∧∀qs d,cV[i]? =some qs→ds[i]? =some d→Q_ T B m qs d w) n1 (by rw [ir];exact aar (show ls.length≤1000 by omega) (by decide)) (by rw [ir];omega) (fun H2 s2=>aT.of (s2 _ _ M.1)) (fun H2 s2=>aT.of (s2 _ _ hdl)) ?_ ?_ ?_
 ·rintro i v H2 H3 ys hD ks ⟨w,e1,e2,e3,e4,e5⟩
  exact ⟨w,e1,e2,ks _ _ (fun z=>by rw [z,hD] at e3;cases e3) e3,ks _ _ e2 e4,e5⟩
 ·rintro i x y H2 RR ex ey s2 ⟨Jt,hD0⟩ kk
  rw [Wp] at ex
  obtain ⟨l,el,rfl⟩:=aaw.mp ex
  have hi:i < ls.length:=(be.mp el).1
  obtain ⟨qs,eq⟩:∃qs,cV[i]? =some qs:=⟨_,gE (by omega)⟩
  obtain ⟨vs,ev⟩:∃vs,bX[i]? =some vs:=⟨_,gE (by omega)⟩
  have hl:=M.2.2 i l vs el ev
  have hq:=NN.2 i vs qs ev eq
  obtain ⟨d,ed,nd⟩:=ND.at ey
  obtain ⟨lq,sq⟩:=sh qs (aai eq)
  have lvs:=hq.1
  refine ⟨_,rfl,_,rfl,(by show 1≤sizeLine;decide),fun p1 np1=> ?_⟩
  have t1:=aD np1 (.lst [y])
  refine ⟨l,p1,vs,_,rfl,rfl,t1 _ _ (s2 _ _ hl),ah,aak (show vs.length+1≤1000 by omega) (by decide),fun p2 np2=> ?_⟩
  have t2:=aD np2 (.lst (vs++[y]))
  have Ra:=t1.trans t2
  refine ⟨p2,qs++[d],T,B,rfl,⟨_,aT.of ah,(cv.snoc ((hq.same s2).same Ra) ((nd.same s2).same Ra))⟩,fun q' lC => ?_,hT,by rw [aap,lq];exact hB,hB1,by rw [aap,lq];show m+1≤1000;omega,fun p3 l3' ts b H3 s3 nl hp3 hl3 hb hbs wh hts=> ?_⟩
  ·rcases aaH.mp lC with z | z
   ·exact sq q' z
   ·rw [aaD.mp z]
    exact sd d (aai ed)
  ·refine kk _ _ (Ra.trans s3) ⟨(ts,b,l3',p3),rfl,fun z=> ?_,hp3,hl3,fun qs' d' e1 e2=> ?_⟩
   ·have:=Ra _ _ hD0
    rw [show l3' =D1 from z,this] at nl
    cases nl
   ·rw [eq] at e1
    rw [ed] at e2
    cases e1
    cases e2
    rw [aap,lq] at hbs hts
    exact ⟨wh,hb,hbs,hts⟩
 ·intro zs H2 hz gF s2 S3
  rw [ir] at hz
  obtain ⟨ws,lw,hw⟩:=i5 (P:=fun i v (w:Wl)=>v=.ref w.2.2.2∧w.2.2.1≠D1∧H2 w.2.2.2=some (.tup [.ref w.2.2.1,.int w.2.1])∧H2 w.2.2.1=some (.lst (w.1.map V.int))∧∀qs d,cV[i]? =some qs→ds[i]? =some d→Q_ T B m qs d w) zs gF
  have ez:zs=ws.map (fun w=>V.ref w.2.2.2):=by
   refine aa7 fun i=> ?_
   rw [Wp]
   by_cases hi:i < zs.length
   ·have e1:zs[i]? =some zs[i]:=gE hi
    have e2:ws[i]? =some (ws[i]'(by omega)):=gE (by omega)
    have h:=(hw i _ _ e1 e2).1
    rw [e1,e2,h]
    rfl
   ·rw [aam (by omega),aam (by omega)]
    rfl
  subst ez
  have AJ:ws.length=cV.length:=by omega
  have Ju:∀(i:Nat) (w:Wl),ws[i]? =some w→H2 w.2.2.2=some (.tup [.ref w.2.2.1,.int w.2.1])∧H2 w.2.2.1=some (.lst (w.1.map V.int))∧∀qs d,cV[i]? =some qs→ds[i]? =some d→Q_ T B m qs d w:=fun i w e=>(hw i _ w (by rw [Wp,e];rfl) e).2.2
  have wp:∀(i:Nat) (w:Wl),ws[i]? =some w→∃qs d,cV[i]? =some qs∧ds[i]? =some d∧Q_ T B m qs d w:=fun i w e=>by
   have hi:i < ws.length:=(be.mp e).1
   obtain ⟨qs,eq⟩:∃qs,cV[i]? =some qs:=⟨_,gE (by omega)⟩
   obtain ⟨d,ed⟩:∃d,ds[i]? =some d:=⟨_,gE (by omega)⟩
   exact ⟨qs,d,eq,ed,(Ju i w e).2.2 qs d eq ed⟩
  have AK:∀l∈ws.map (·.1),l.length=m+1:=fun l hl=>by
   obtain ⟨w,Ls,rfl⟩:=aal.mp hl
   obtain ⟨i,e⟩:=aas Ls
   obtain ⟨qs,d,eq,_,wh,_⟩:=wp i w e
   have:=wh.1
   rw [aap,(sh qs (aai eq)).1] at this
   exact this
  have wbd:∀l∈ws.map (·.1),Bd (T+B*(m+1)) l:=fun l hl=>by
   obtain ⟨w,Ls,rfl⟩:=aal.mp hl
   obtain ⟨i,e⟩:=aas Ls
   obtain ⟨qs,d,eq,_,_,_,_,h⟩:=wp i w e
   exact Bd.of h
  have hlm:(ws.map (·.1)).length=cV.length:=by rw [ir];exact AJ
  refine ⟨_,rfl,D1,rfl,⟨_,aT.of S3⟩,fun D2 n2=> ?_⟩
  refine c6 (cap:=[]) (K:=K) (a:=D1) (xs:=ws.map (fun w=>V.ref w.2.2.2)) (fun k v _=>∃w,ws[k]? =some w∧v=.ref w.2.2.1) n2 (by rw [ir];exact aar (show ws.length≤1000 by omega) (by decide)) (fun H3 s3=>aT.of (s3 _ _ S3)) (fun _ _ _ _ _ _ _ h=>h) ?_ ?_
  ·intro k x H3 RR ex s3 kk
   rw [Wp] at ex
   obtain ⟨w,ew,rfl⟩:=aaw.mp ex
   exact ⟨_,rfl,w.2.2.2,_,_,_,rfl,rfl,bQ.of (s3 _ _ (Ju k w ew).1),g9,kk _ _ (ar.refl _) ⟨w,ew,rfl⟩⟩
  intro ys H3 hy Lu s3 S4
  have ey:ys=(ws.map (fun w=>w.2.2.1)).map V.ref:=by
   refine aa7 fun i=> ?_
   rw [ir] at hy
   by_cases hi:i < ys.length
   ·have e1:ys[i]? =some ys[i]:=gE hi
    obtain ⟨w,e2,e3⟩:=Lu i _ e1
    rw [e1,e3,Wp,Wp,e2]
    rfl
   ·rw [aam (by omega),aam (by simp;omega)]
  subst ey
  have hLl:k_ H3 ((ws.map (fun w=>w.2.2.1)).map V.ref) (ws.map (·.1)):=⟨by simp,fun i u l e1 e2=>by
   rw [Wp,Wp] at e1
   rw [Wp] at e2
   cases e:ws[i]? with
   | none=>rw [e] at e2;cases e2
   | some w=>
    rw [e] at e1 e2
    cases e1
    cases e2
    exact ⟨w.2.2.1,rfl,s3 _ _ (Ju i w e).2.1⟩⟩
  have hMm:h7 H3 D2 (ws.map (fun w=>w.2.2.1)) ((ws.map (·.1)).map fun l=>l.map V.int):=⟨S4,by simp,fun i l vs e1 e2=>by
   rw [Wp] at e1
   rw [Wp,Wp] at e2
   cases e:ws[i]? with
   | none=>rw [e] at e2;cases e2
   | some w=>
    rw [e] at e1 e2
    cases e1
    cases e2
    exact s3 _ _ (Ju i w e).2.1⟩
  have mn:bb (T+B*(m+1)) (min m (ws.map (·.1)).length)≤Z:=aak (f9 _ (by rw [hlm];omega)) hZ
  have S5:=s2.trans s3
  refine ⟨_,rfl,_,rfl,D2,_,ws.map (·.1),m,T+B*(m+1),rfl,aT.of S4,hLl,AK,by omega,by omega,wbd,aak mn hZ1,fun l0 H4 s4 l0l cm l00 l0m=> ?_,fun x gH xs H4 s4 nx hx nxs lxs sxs sol=> ?_⟩
  ·refine ⟨_,rfl,rfl,_,rfl,?_⟩
   refine bI (fun z=>by simp at z) (fun _=> ?_)
   have M4:=hMm.same s4
   refine ⟨_,rfl,_,rfl,_,_,rfl,rfl,D2,ws.map (fun w=>w.2.2.1),_,(m:Int)+1,rfl,M4,by omega,by omega,by rw [ir];omega,fun vs hvs=> ?_,fun c cs H5 s5 M5=> ?_⟩
   ·obtain ⟨l,hl,rfl⟩:=aal.mp hvs
    rw [ir,AK l hl]
    omega
   have lcs:cs.length=m+1:=by
    have:=M5.2.1
    unfold h_ at this
    simp at this
    omega
   have col:∀k,k < m+1→∃l,cs[k]? =some l∧H5 l=some (.lst (((ws.map (·.1)).map fun l=>l.getD k 0).map V.int)):=fun k hk=>by
    have e:(h_ ((ws.map (·.1)).map fun l=>l.map V.int) ((m:Int)+1).toNat)[k]? =some (((ws.map (·.1)).map fun l=>l.getD k 0).map V.int):=by
     rw [← x5 AK hk]
     unfold h_
     rw [Wp,aj' (by omega)]
     rfl
    exact M5.row e
   refine ⟨_,rfl,_,rfl,_,rfl,c,_,rfl,aT.of M5.1,fun p6 n6=> ?_⟩
   have t6:=aD n6 (.lst (dE (cs.map V.ref) none (some (m:Int))))
   refine ⟨p6,rfl,⟨_,aT.of ah⟩,fun D6 nD6=> ?_⟩
   have lcl:((ws.map (·.1)).map fun l=>l.getD 0 0).length≤100:=by simp;omega
   refine j_ (cap:=[]) (K:=K) (a:=p6) (xs:=(cs.map V.ref).take m) (fun k v H=>∃p,v=.ref p∧p≠D6∧H p=some (.lst ((List.map (fun l:List Int=>l.getD k 0) (ws.map (fun w:Wl=>w.1))++[(0:Int)]).map V.int))) nD6 (aar (show ((cs.map V.ref).take m).length≤1000 by simp;omega) (by decide)) (fun H7 s7=>aT.of (s7 _ _ (by rw [ah,jM (by simp;omega)]))) ?_ ?_ ?_
   ·rintro k v H7 H8 ys hD ks ⟨p,e1,e2,e3⟩
    exact ⟨p,e1,e2,ks _ _ e2 e3⟩
   ·rintro k x H7 RR ex s7 ⟨Jt,qi⟩ kk
    have hk:k < m:=by have:=(be.mp ex).1;simp at this;omega
    obtain ⟨l,el,hl⟩:=col k (by omega)
    rw [List.getElem?_take,if_pos hk,Wp,el] at ex
    cases ex
    refine ⟨_,rfl,(by show 1≤sizeLine;decide),fun pz nz=> ?_⟩
    have tz:=aD nz (.lst [.int 0])
    refine ⟨l,pz,_,_,rfl,rfl,tz _ _ (s7 _ _ (t6 _ _ hl)),ah,aak (show _≤1000 by simp;omega) (by decide),fun pn nn=> ?_⟩
    have tn:=aD nn (.lst (((ws.map (·.1)).map fun l=>l.getD k 0).map V.int++[.int 0]))
    refine kk _ _ (tz.trans tn) ⟨pn,rfl,fun z=> ?_,by rw [ah,aaA];rfl⟩
    have:=tz _ _ qi
    rw [z,this] at nn
    cases nn
   intro y9 H7 hy6 Lv s7 hD6
   have ly6:y9.length=m:=by rw [hy6];simp;omega
   have S6:=t6.trans s7
   obtain ⟨lm,elm,S7⟩:=col m (by omega)
   refine ⟨_,rfl,_,rfl,c,_,_,_,rfl,rfl,aT.of (S6 _ _ M5.1),a_ (by rw [Wp,elm];rfl),(by show 1≤sizeLine;decide),fun pz nz=> ?_⟩
   have tz:=aD nz (.lst [.int 1])
   refine ⟨lm,pz,_,_,rfl,rfl,tz _ _ (S6 _ _ S7),ah,aak (show _≤1000 by simp;omega) (by decide),fun pn nn=> ?_⟩
   have tn:=aD nn (.lst (((ws.map (·.1)).map fun l=>l.getD m 0).map V.int++[.int 1]))
   refine ⟨(by show 1≤sizeLine;decide),fun pL nL=> ?_⟩
   have tL:=aD nL (.lst [V.ref pn])
   have tzL:=(tz.trans tn).trans tL
   refine ⟨D6,pL,y9,_,rfl,rfl,tzL _ _ hD6,ah,aak (show y9.length+1≤1000 by omega) (by decide),fun pP nP=> ?_⟩
   have tP:=aD nP (.lst (y9++[V.ref pn]))
   have s7P:=tzL.trans tP
   have hpn:=tP _ _ (tL _ _ (ah (H:=upd H7 pz (.lst [.int 1])) (a:=pn) (o:=.lst (((ws.map (·.1)).map fun l=>l.getD m 0).map V.int++[.int 1]))))
   have eP:upd (upd (upd (upd H7 pz (.lst [.int 1])) pn (.lst (((ws.map (·.1)).map fun l=>l.getD m 0).map V.int++[.int 1]))) pL (.lst [V.ref pn])) pP (.lst (y9++[V.ref pn])) pP=some (.lst (y9++[V.ref pn])):=ah
   have S8:∀(k:Nat) (v:V),y9[k]? =some v→Ln H7 v (((ws.map (·.1)).map fun l=>l.getD k 0)++[0]):=fun k v e=>by
    obtain ⟨p,e1,_,e3⟩:=Lv k v e
    exact ⟨p,e1,e3⟩
   have s5P:=S6.trans s7P
   generalize upd (upd (upd (upd H7 pz (.lst [.int 1])) pn (.lst (((ws.map (·.1)).map fun l=>l.getD m 0).map V.int++[.int 1]))) pL (.lst [V.ref pn])) pP (.lst (y9++[V.ref pn]))=H9 at*
   have S9:k_ H9 (y9++[V.ref pn]) (qH m (ws.map (·.1))):=by
    refine ⟨by simp [qH,ly6],fun k u l e1 e2=> ?_⟩
    unfold qH at e2
    by_cases hk:k < m
    ·rw [aaq (by omega)] at e1
     rw [aaq (by simpa using hk),Wp,aj' hk] at e2
     cases e2
     exact (S8 k u e1).same s7P
    ·rw [aat (by omega)] at e1
     rw [aat (by simp;omega)] at e2
     by_cases hkm:k=m
     ·subst hkm
      rw [show k - y9.length=0 by omega] at e1
      rw [show k - ((abF k).map fun j=>((ws.map (·.1)).map fun l=>l.getD j 0)++[0]).length=0 by simp] at e2
      cases e1
      cases e2
      exact ⟨pn,rfl,by rw [hpn,aaA];rfl⟩
     ·rw [aam (by simp;omega)] at e1
      cases e1
   have ppl:∀o∈qH m (ws.map (·.1)),o.length=cV.length+1:=fun o ho=>by
    rcases nO ho with ⟨k,hk,e⟩
    rw [e.1]
    simp [AJ]
   have ppb:∀o∈qH m (ws.map (·.1)),Bd (T+B*(m+1)) o:=fun o ho=>by
    rcases nO ho with ⟨k,hk,e,hc⟩
    rw [e]
    refine Bd.of fun t ht=> ?_
    rcases aaH.mp ht with z | z
    ·obtain ⟨l,hl,rfl⟩:=aal.mp z
     exact wbd l hl k
    ·rw [aaD.mp z]
     refine aak ?_ (akh (n:=T+B*(m+1)))
     split <;> decide
   have S_:(qH m (ws.map (·.1))).length=m+1:=by simp [qH]
   have Rb:bb (T+B*(m+1)) (min cV.length (qH m (ws.map (·.1))).length)≤Z:=aak (f9 _ (by rw [S_];omega)) hZ
   have s39:=(s4.trans s5).trans s5P
   refine ⟨_,rfl,_,rfl,D2,_,rfl,.inl (aT.of (s39 _ _ S4)),pP,_,qH m (ws.map (·.1)),cV.length,T+B*(m+1),by simp [AJ],aT.of eP,S9,ppl,by omega,by omega,ppb,aak Rb hZ1,fun l1 zI sO l1l cm1 l10 l1m=> ?_,fun x2 xY ss zI sO nx2 hx2 nss Rc S' Ta=> ?_⟩
   ·exact absurd (rJ AK AJ cm l00 l0m cm1 l1l l10 ppl) l1m
   have csm:∀k,k < m+1→cT (ss.map vl) (ws.map (·.1)) k=if k=m then 1 else 0:=fun k hk=>by
    have e:=Ta _ (GY hk)
    rw [rj k _ (ws.map (·.1)) (ss.map vl) (by simp [AJ,Rc])] at e
    by_cases z:k=m
    ·rw [if_pos z] at e ⊢
     have e' :((1:Int):Rat)=1:=by simp
     rw [e'] at e
     grind
    ·rw [if_neg z] at e ⊢
     have e' :((0:Int):Rat)=0:=by simp
     rw [e'] at e
     grind
   have GZ:=s39.trans sO
   have Lw:=GZ _ _ (s3 _ _ S3)
   have al5:=nss.1
   refine ⟨_,rfl,_,rfl,x2,D1,rfl,⟨_,aT.of hx2⟩,⟨_,aT.of Lw⟩,fun D9 n9=> ?_⟩
   refine pF (cap:=[]) (K:=K) (xs:=xY) (ys:=ws.map (fun w=>V.ref w.2.2.2)) (fun k v H=>∃w q,ws[k]? =some w∧ss[k]? =some q∧Nm H v (low (q.1*w.2.1) q.2)) n9 (aar (show xY.length≤1000 by omega) (by decide)) (by rw [ir];omega) (fun Jj ur=>aT.of (ur _ _ hx2)) (fun Jj ur=>aT.of (ur _ _ Lw)) ?_ ?_ ?_
   ·rintro k v Jj H12 ys hD ks ⟨w,q,e1,e2,e3⟩
    exact ⟨w,q,e1,e2,e3.kept hD ks⟩
   ·intro k x y Jj RR ex ey ur kk
    obtain ⟨q,G_,ps,rfl,hps⟩:=nss.at ex
    rw [Wp] at ey
    obtain ⟨w,ew,rfl⟩:=aaw.mp ey
    obtain ⟨qs,d,eqs,Ly,wh,wb,Tb,_⟩:=wp k w ew
    have sq:=S' q (aai G_)
    have hw1:=ur _ _ (GZ _ _ (s3 _ _ (Ju k w ew).1))
    have Lz:=Ty.ar.cO ur hps
    refine ⟨_,rfl,ps,_,_,_,rfl,rfl,Lz,g9,_,rfl,w.2.2.2,_,_,_,rfl,rfl,bQ.of hw1,gP,_,_,rfl,rfl,di (j9 sq.top Rb) Tb (by omega),_,rfl,ps,_,_,_,rfl,rfl,Lz,gP,?_⟩
    exact ⟨_,_,rfl,by have:=sq.pos;omega,fun p8 H8 s8 e8=>kk _ _ s8 ⟨w,q,ew,G_,p8,rfl,e8⟩⟩
   intro Tc Jj h9 LA ur hD9
   refine ⟨(by show 2≤sizeLine;decide),fun Td Jv=> ?_⟩
   have v_:=aD Jv (.tup [.str "paper",.ref D9])
   have Te:∀(k:Nat) (w:Wl) (q:Int×Int),ws[k]? =some w→ss[k]? =some q→(aba (fun (w:Wl) (q:Int×Int)=>low (q.1*w.2.1) q.2) ws ss)[k]? =some (low (q.1*w.2.1) q.2):=fun k w q e1 e2=>by rw [abu,e1,e2]
   have x6:(aba (fun (w:Wl) (q:Int×Int)=>low (q.1*w.2.1) q.2) ws ss).length=cV.length:=by simp [AJ,Rc]
   have vly:∀(k:Nat) (w:Wl) (q y:Int×Int),ws[k]? =some w→ss[k]? =some q→(aba (fun (w:Wl) (q:Int×Int)=>low (q.1*w.2.1) q.2) ws ss)[k]? =some y→vl y=vl q*w.2.1:=fun k w q y e1 e2 e3=>by
    rw [Te k w q e1 e2] at e3
    cases e3
    have sq:=S' q (aai e2)
    rw [nj (by have:=sq.pos;omega)]
    unfold vl
    push_cast
    grind
   refine q2 Td D9 Tc (aba (fun (w:Wl) (q:Int×Int)=>low (q.1*w.2.1) q.2) ws ss) _ (((S5.trans GZ).trans ur).trans v_) ah (v_ _ _ hD9) ⟨by rw [h9,x6];omega,fun k u y e1 e2=> ?_⟩ x6 (fun y hy=> ?_) (fun j hj=> ?_) ?_
   ·obtain ⟨w,q,ew,G_,p,e,hp⟩:=LA k u e1
    rw [Te k w q ew G_] at e2
    cases e2
    exact ⟨p,e,bQ.of (v_ _ _ hp)⟩
   ·obtain ⟨k,hk⟩:=aas hy
    have hkl:k < cV.length:=by rw [← x6];exact (be.mp hk).1
    obtain ⟨w,ew⟩:∃w,ws[k]? =some w:=⟨_,gE (by omega)⟩
    obtain ⟨q,G_⟩:∃q,ss[k]? =some q:=⟨_,gE (by omega)⟩
    rw [Te k w q ew G_] at hk
    cases hk
    obtain ⟨qs,d,eqs,Ly,wh,wb,Tb,_⟩:=wp k w ew
    have sq:=S' q (aai G_)
    exact tF (by have:=sq.pos;omega) (nq (j9 sq.top Rb) Tb) (j9 sq.bot Rb)
   ·rw [kA j (ws:=ws) (ss:=ss) (by omega) (by rw [x6,AJ]) (by simp [lI,AJ]) vly ?_,csm j (by omega),if_neg (by omega)]
    intro k w cq ew ec
    obtain ⟨qs,d,eqs,Ly,wh,_⟩:=wp k w ew
    unfold lI at ec
    rw [Wp,eqs] at ec
    cases ec
    exact vT wh (by rw [(sh qs (aai eqs)).1];exact hj)
   ·rw [kA m (ws:=ws) (ss:=ss) (by omega) (by rw [x6,AJ]) (by omega) vly ?_,csm m (by omega),if_pos rfl]
    intro k w cq ew ec
    obtain ⟨qs,d,eqs,Ly,wh,_⟩:=wp k w ew
    rw [ec] at Ly
    cases Ly
    exact rK wh (sh qs (aai eqs)).1
  ·refine ⟨_,rfl,rfl,_,rfl,?_⟩
   refine bI (fun _=> ?_) (fun z=>by simp at z)
   refine ⟨_,rfl,(by show 2≤sizeLine;decide),fun p5 n5=> ?_⟩
   have s5:=aD n5 (.tup [.str "solved",.ref x])
   refine q1 p5 x gH xs _ ((S5.trans s4).trans s5) ah (s5 _ _ hx) (nxs.same s5) lxs (fun q hq=>(sxs q hq).up mn mn) (fun i qs d eq ed=> ?_)
   have hi:i < cV.length:=(be.mp eq).1
   obtain ⟨w,ew⟩:∃w,ws[i]? =some w:=⟨_,gE (by omega)⟩
   obtain ⟨wh,wb,_⟩:=(Ju i w ew).2.2 qs d eq ed
   have e0:=sol w.1 (aal.mpr ⟨w,aai ew,rfl⟩)
   rw [pU wh (by rw [lxs,(sh qs (aai eq)).1])] at e0
   have wb' :=cL (b:=w.2.1) (by omega)
   grind
inductive rL (K:Frag)(f:Int×Int→Int×Int→Int×Int)(vs:List V)(H:Hp)(Q:VK)(E_:XK):Prop where
 | mk (u v:V) (x y:Int×Int) (_:vs=[u,v]) (_:iW K H u x) (_:iW K H v y) (_:K8 100000 x) (_:K8 100000 y) (_:gives H Q (f x y)):rL K f vs H Q E_
theorem LB:aA ["one","other"] ["one","other"] (af rE):=sq
theorem LC (hM:ph CX)(D:Def K mg "difference_of" rE ["one","other"])(xX:Fn P w K mg base CX 33 "lowest_terms" ["top","bottom"] eK):Fn P w K mg base CX 34 "difference_of" ["one","other"] (rL K subQ):=by
 refine D.ok LB (fun vs H Q E h=> ?_) (fun f bx A outer s H vs Q E hr h=> ?_)
 ·obtain ⟨u,v,x,y,rfl,_⟩:=h
  rfl
 obtain ⟨u,v,x,y,rfl,⟨p1,rfl,h1⟩,⟨p2,rfl,h2⟩,k1,k2,q⟩:=h
 have px:=pj (X:=jy CX P w K mg base ["one","other"] "difference_of" (af rE) f bx A outer s H E) hM
 refine ⟨_,(aj (aI (ay xX hr.mo px (aq (aH cu (aH b_ (aJ (pv 0)) (aJ (pv 1))) (aH b_ (aJ (pv 1)) (aJ (pv 0)))) (aq (aH b_ (aJ (pv 0)) (aJ (pv 1))) aa))))),?_⟩
 have b1:=k1.top
 have b2:=k1.bot
 have b3:=k2.top
 have b4:=k2.bot
 have c:∀{i j:Int},intBits i≤100000→intBits j≤100000→lY i j:=fun a b=>⟨aak a (by decide),aak b (by decide)⟩
 refine ⟨_,rfl,p1,_,_,_,rfl,rfl,h1,g9,_,rfl,p2,_,_,_,rfl,rfl,h2,gP,_,_,rfl,rfl,c b1 b4,?_⟩
 refine ⟨_,rfl,p2,_,_,_,rfl,rfl,h2,g9,_,rfl,p1,_,_,_,rfl,rfl,h1,gP,_,_,rfl,rfl,c b3 b2,?_⟩
 refine ⟨_,_,rfl,rfl,?_⟩
 refine ⟨_,rfl,p1,_,_,_,rfl,rfl,h1,gP,_,rfl,p2,_,_,_,rfl,rfl,h2,gP,_,_,rfl,rfl,c b2 b4,?_⟩
 exact ⟨_,_,rfl,z9 k1 k2,q⟩
inductive rM (K:Frag)(f:Rat→Rat→Rat)(vs:List V)(H:Hp)(Q:VK)(E_:XK):Prop where
 | mk (u v:V) (x y:Rat) (_:vs=[u,v]) (_:dq K H u x) (_:dq K H v y) (_:Sz 100000 x) (_:Sz 100000 y) (_:gives H Q (qr (f x y))):rM K f vs H Q E_
theorem x8 {k:Nat}{r:Rat}(h:Sz k r):K8 k (qr r):=⟨b9 r,h.top,h.bot⟩
theorem G' {k:Nat}{x:Str}{ps:List Str}(F:Fn P w K mg base CX k x ps (rL K subQ)):Fn P w K mg base CX k x ps (rM K fun a b=>a - b):=by
 obtain ⟨f,fd,G,r⟩:=F.ex
 refine ⟨f,fd,G.imp fun vs H Q E h=> ?_,r⟩
 obtain ⟨u,v,a,b,e,h1,h2,k1,k2,q⟩:=h
 refine ⟨u,v,qr a,qr b,e,h1,h2,x8 k1,x8 k2,?_⟩
 unfold subQ
 rw [xJ]
 exact q
def x9 (K:Frag)(H:Hp)(Q:VK)(p:Rat×Rat):Prop:=∀(v:V) (H' :Hp),ar H H' →dC K H' v p→Q v H'
inductive rN (K:Frag)(f:Rat→Rat→Rat)(vs:List V)(H:Hp)(Q:VK)(E_:XK):Prop where
 | mk (u v:V) (x y:Rat×Rat) (_:vs=[u,v]) (_:dC K H u x) (_:dC K H v y) (_:Sz 100000 x.1) (_:Sz 100000 x.2) (_:Sz 100000 y.1) (_:Sz 100000 y.2) (_:x9 K H Q (f x.1 y.1,f x.2 y.2)):rN K f vs H Q E_
theorem LD:aA ["one","other"] ["one","other"] (af rF):=sq
theorem LF (hM:ph CX)(D:Def K mg "pair_difference" rF ["one","other"])(LG:Fn P w K mg base CX 34 "difference_of" ["one","other"] (rM K fun a b=>a - b)):Fn P w K mg base CX 35 "pair_difference" ["one","other"] (rN K fun a b=>a - b):=by
 refine D.ok LD (fun vs H Q E h=> ?_) (fun f bx A outer s H vs Q E hr h=> ?_)
 ·obtain ⟨u,v,x,y,rfl,_⟩:=h
  rfl
 obtain ⟨u,v,x,y,rfl,⟨p1,a1,a2,rfl,h1,n1,n2⟩,⟨p2,b1,b2,rfl,h2,m1,m2⟩,k1,k2,l1,l2,q⟩:=h
 have px:=pj (X:=(jy (aX P w) P w K mg base ["one","other"] "pair_difference" (af rF) f bx A outer s H E)) hM
 refine ⟨_,(aj (aI (aR (aq (ay LG hr.mo px (aq (aJ (pv 0)) (aq (aJ (pv 1)) aa))) (aq (ay LG hr.mo px (aq (aJ (pv 0)) (aq (aJ (pv 1)) aa))) aa))))),?_⟩
 refine ⟨_,rfl,p1,_,_,_,rfl,rfl,h1,g9,_,rfl,p2,_,_,_,rfl,rfl,h2,g9,a1,b1,_,_,rfl,n1,m1,k1,l1,fun c1 H1 s1 e1=> ?_⟩
 refine ⟨_,rfl,p1,_,_,_,rfl,rfl,Ty.ar.cO s1 h1,gP,_,rfl,p2,_,_,_,rfl,rfl,Ty.ar.cO s1 h2,gP,a2,b2,_,_,rfl,n2.same s1,m2.same s1,k2,l2,fun c2 H2 s2 e2=> ?_⟩
 refine ⟨(by show 2≤sizeLine;decide),fun c3 n3=> ?_⟩
 have s3:=aD n3 (.tup [.ref c1,.ref c2])
 exact q (.ref c3) _ (fun b o z=>s3 _ _ (s2 _ _ (s1 _ _ z))) ⟨c3,_,_,rfl,bQ.of ah,⟨c1,rfl,bQ.of (s3 _ _ (s2 _ _ e1))⟩,⟨c2,rfl,bQ.of (s3 _ _ e2)⟩⟩
inductive nQ (K:Frag)(C:Addr)(vs:List V)(H:Hp)(Q:VK)(E_:XK):Prop where
 | mk (a dx:Addr) (_:vs=[.ref a]) (_:H a=some (.ins C dx [])) (_:∀(pP pW pB:Addr) (H' :Hp),bL a H H' →H pP=none→H pW=none→H pB=none→dZ K H' C a dx pP pW pB [] [] [] [] []→Q .cb H'):nQ K C vs H Q E_
theorem AL {x:V}:cP "pin_places" x []=([("pin_places",x)]:List (Str×V)):=rfl
theorem AM {x y:V}:cP "pin_ways" y [("pin_places",x)]=([("pin_places",x),("pin_ways",y)]:List (Str×V)):=by
 simp only [cP]
 rw [if_neg (by decide)]
theorem AN {x y z:V}:cP "bar_ends" z [("pin_places",x),("pin_ways",y)]=([("pin_places",x),("pin_ways",y),("bar_ends",z)]:List (Str×V)):=by
 simp only [cP]
 rw [if_neg (by decide),if_neg (by decide)]
theorem LH:aA ["self"] ["self"] (af vE):=sq
theorem LI {f:Addr}{fd:FuncData}{C:Addr}(F:kZ K "__init__" "Frame.__init__" vE f fd)(fc:xH K C):cj P w K mg base (aX P w) 1 f fd ["self"] (nQ K C):=by
 refine cH F LH (fun vs H Q E h=> ?_) (fun bx A outer s H vs Q E hr h=> ?_)
 ·obtain ⟨a,dx,rfl,_⟩:=h
  rfl
 obtain ⟨a,dx,rfl,ha,q⟩:=h
 refine ⟨_,(ae (mW (pv 0) dI rfl)
  (ae (mW (pv 0) dI rfl)
  (aj (mW (pv 0) dI rfl)))),?_⟩
 intro pP nP
 have aP:a≠pP:=ao ha nP
 refine ⟨_,rfl,a,C,dx,_,rfl,(by rw [ak aP];exact ha),fc.cls,fc.pl,(by show 0 < 1000;decide),?_⟩
 rw [AL]
 generalize e1:upd (upd H pP (.dK [])) a (.ins C dx [("pin_places",.ref pP)])=H1
 have o1:H1 a=some (.ins C dx [("pin_places",.ref pP)]):=by rw [← e1,ah]
 have p1:H1 pP=some (.dK []):=by rw [← e1,ak (aaU aP),ah]
 have k1:∀b o,b≠a→H b=some o→H1 b=some o:=fun b o n e=>by rw [← e1,ak n,ak (ao e nP)];exact e
 intro pW nW
 have aW:a≠pW:=ao o1 nW
 refine ⟨_,rfl,a,C,dx,_,rfl,(by rw [ak aW];exact o1),fc.cls,fc.wy,(by show 1 < 1000;decide),?_⟩
 rw [AM]
 generalize e2:upd (upd H1 pW (.dK [])) a (.ins C dx [("pin_places",.ref pP),("pin_ways",.ref pW)])=H2
 have PW:pP≠pW:=ao p1 nW
 have o2:H2 a=some (.ins C dx [("pin_places",.ref pP),("pin_ways",.ref pW)]):=by rw [← e2,ah]
 have w2:H2 pW=some (.dK []):=by rw [← e2,ak (aaU aW),ah]
 have k2:∀b o,b≠a→H1 b=some o→H2 b=some o:=fun b o n e=>by rw [← e2,ak n,ak (ao e nW)];exact e
 intro pB nB
 have aB:a≠pB:=ao o2 nB
 have p2:=k2 _ _ (aaU aP) p1
 refine ⟨_,rfl,a,C,dx,_,rfl,(by rw [ak aB];exact o2),fc.cls,fc.br,(by show 2 < 1000;decide),?_⟩
 rw [AN]
 have PB:pP≠pB:=ao p2 nB
 have WB:pW≠pB:=ao w2 nB
 have k3:∀b o,b≠a→H2 b=some o→(upd (upd H2 pB (.dK [])) a (.ins C dx [("pin_places",.ref pP),("pin_ways",.ref pW),("bar_ends",.ref pB)])) b=some o:=fun b o n e=>by rw [ak n,ak (ao e nB)];exact e
 have f1:∀b,b≠a→H1 b=none→H b=none:=fun b n e=>by
  cases z:H b with
  | none=>rfl
  | some o=>rw [k1 b o n z] at e;cases e
 have f2:∀b,b≠a→H2 b=none→H b=none:=fun b n e=>by
  cases z:H b with
  | none=>rfl
  | some o=>rw [k2 b o n (k1 b o n z)] at e;cases e
 refine q pP pW pB _ (fun b o n e=>k3 b o n (k2 b o n (k1 b o n e))) nP (f1 _ (aaU aW) nW) (f2 _ (aaU aB) nB) ⟨ah,k3 _ _ (aaU aP) p2,k3 _ _ (aaU aW) w2,?_,PW,PB,WB,.nil,.nil⟩
 rw [ak (aaU aB),ah]
inductive i7 (K:Frag)(C:Addr)(vs:List V)(H:Hp)(Q:VK)(E_:XK):Prop where
 | mk (a dx pP pW pB:Addr) (ps:List (Str×Pt)) (bs:List (Str×Str×Str)) (kP kW kB:List (Key×V)) (_:vs=[.ref a]) (_:dZ K H C a dx pP pW pB ps bs kP kW kB) (_:∀(l:Addr) (H' :Hp),ar H H' →H l=none→H' l=some (.lst ((bs.map (·.1)).map V.str))→Q (.ref l) H'):i7 K C vs H Q E_
theorem LJ:aA ["self"] ["self"] (af vJ):=sq
theorem LK {f:Addr}{fd:FuncData}{C:Addr}(F:kZ K "bars" "Frame.bars" vJ f fd)(fc:xH K C)(cK:mg "list"=none):cj P w K mg base (aX P w) 1 f fd ["self"] (i7 K C):=by
 refine cH F LJ (fun vs H Q E h=> ?_) (fun bx A outer s H vs Q E hr h=> ?_)
 ·obtain ⟨a,dx,pP,pW,pB,ps,bs,kP,kW,kB,rfl,_⟩:=h
  rfl
 obtain ⟨a,dx,pP,pW,pB,ps,bs,kP,kW,kB,rfl,R,q⟩:=h
 refine ⟨_,(aj (aI (dA (gC rfl) rfl cK j5 (aq (cz (pv 0) rfl) aa)))),?_⟩
 refine ⟨_,rfl,a,C,dx,_,_,rfl,R.obj,fc.cls,fc.br,rfl,pB,kB,rfl,.inl R.br,fun l nl=> ?_⟩
 refine q l _ (aD nl _) nl ?_
 rw [ah]
 have e:kB.map (fun kv=>kV kv.1)=(bs.map (·.1)).map V.str:=by
  have z:kB.map (fun kv=>kV kv.1)=(kB.map (·.1)).map kV:=by rw [aaI];rfl
  rw [z,R.sW,aaI]
  rfl
 rw [e]
inductive eh (K:Frag)(C:Addr)(vs:List V)(H:Hp)(Q:VK)(E_:XK):Prop where
 | mk (a dx pP pW pB:Addr) (ps:List (Str×Pt)) (bs:List (Str×Str×Str)) (kP kW kB:List (Key×V)) (_:vs=[.ref a]) (_:dZ K H C a dx pP pW pB ps bs kP kW kB) (_:∀(l:Addr) (H' :Hp),ar H H' →H l=none→H' l=some (.lst ((ps.map (·.1)).map V.str))→Q (.ref l) H'):eh K C vs H Q E_
theorem LL:aA ["self"] ["self"] (af vI):=sq
theorem LM {f:Addr}{fd:FuncData}{C:Addr}(F:kZ K "pins" "Frame.pins" vI f fd)(fc:xH K C)(cK:mg "list"=none):cj P w K mg base (aX P w) 1 f fd ["self"] (eh K C):=by
 refine cH F LL (fun vs H Q E h=> ?_) (fun bx A outer s H vs Q E hr h=> ?_)
 ·obtain ⟨a,dx,pP,pW,pB,ps,bs,kP,kW,kB,rfl,_⟩:=h
  rfl
 obtain ⟨a,dx,pP,pW,pB,ps,bs,kP,kW,kB,rfl,R,q⟩:=h
 refine ⟨_,(aj (aI (dA (gC rfl) rfl cK j5 (aq (cz (pv 0) rfl) aa)))),?_⟩
 refine ⟨_,rfl,a,C,dx,_,_,rfl,R.obj,fc.cls,fc.pl,rfl,pP,kP,rfl,.inl R.pl,fun l nl=> ?_⟩
 refine q l _ (aD nl _) nl ?_
 rw [ah]
 have e:kP.map (fun kv=>kV kv.1)=(ps.map (·.1)).map V.str:=by
  have z:kP.map (fun kv=>kV kv.1)=(kP.map (·.1)).map kV:=by rw [aaI];rfl
  rw [z,R.sX,aaI]
  rfl
 rw [e]
inductive c7 (K:Frag)(C:Addr)(vs:List V)(H:Hp)(Q:VK)(E_:XK):Prop where
 | mk (a dx pP pW pB:Addr) (ps:List (Str×Pt)) (bs:List (Str×Str×Str)) (kP kW kB:List (Key×V)) (x:Str) (_:vs=[.ref a,.str x]) (_:dZ K H C a dx pP pW pB ps bs kP kW kB) (_:x∈ps.map (·.1)) (_:Q .cb H):c7 K C vs H Q E_
theorem LN:aA ["self","pin"] ["self","pin"] (af vH):=sq
theorem LO {f:Addr}{fd:FuncData}{C:Addr}(F:kZ K "check_pin" "Frame.check_pin" vH f fd)(fc:xH K C):cj P w K mg base (aX P w) 1 f fd ["self","pin"] (c7 K C):=by
 refine cH F LN (fun vs H Q E h=> ?_) (fun bx A outer s H vs Q E hr h=> ?_)
 ·obtain ⟨a,dx,pP,pW,pB,ps,bs,kP,kW,kB,x,rfl,_⟩:=h
  rfl
 obtain ⟨a,dx,pP,pW,pB,ps,bs,kP,kW,kB,x,rfl,R,hx,q⟩:=h
 refine ⟨_,(aj (bG (mR (mf (cy hr) (pv 1) (cz (pv 0) rfl))) (aj (cp)) aY)),?_⟩
 refine ⟨_,rfl,_,rfl,a,C,dx,_,_,rfl,R.obj,fc.cls,fc.pl,rfl,pP,_,rfl,cJ.k (k:=.inr x) R.pl,_,rfl,?_⟩
 rw [R.pin x,decide_eq_true hx]
 exact q
inductive jO (K:Frag)(C:Addr)(vs:List V)(H:Hp)(Q:VK)(E_:XK):Prop where
 | mk (a dx pP pW pB:Addr) (ps:List (Str×Pt)) (bs:List (Str×Str×Str)) (kP kW kB:List (Key×V)) (x:Str) (p:Pt) (_:vs=[.ref a,.str x]) (_:dZ K H C a dx pP pW pB ps bs kP kW kB) (_:(ps.map (·.1)).Nodup) (_:(x,p)∈ps) (_:∀v,Spot K H v p→Q v H):jO K C vs H Q E_
theorem LP:aA ["self","pin"] ["self","pin"] (af vK):=sq
theorem LQ {f:Addr}{fd:FuncData}{C:Addr}(F:kZ K "place" "Frame.place" vK f fd)(fc:xH K C)(MC:bE P w K mg base (aX P w) 1 C "check_pin" ["self","pin"] (c7 K C)):cj P w K mg base (aX P w) 2 f fd ["self","pin"] (jO K C):=by
 refine cH F LP (fun vs H Q E h=> ?_) (fun bx A outer s H vs Q E hr h=> ?_)
 ·obtain ⟨a,dx,pP,pW,pB,ps,bs,kP,kW,kB,x,p,rfl,_⟩:=h
  rfl
 obtain ⟨a,dx,pP,pW,pB,ps,bs,kP,kW,kB,x,p,rfl,R,nd,hx,q⟩:=h
 refine ⟨_,(ae (bF (cZ (k:=1) (pv 0) hr.mo (pY P w) (aq (pv 1) aa)))
  (aj (aI (dw (cy hr) (cz (pv 0) rfl) (pv 1) (fun _ _=>rfl))))),?_⟩
 refine ⟨_,rfl,a,C,dx,_,_,_,rfl,R.obj,rfl,MC,_,rfl,a,dx,pP,pW,pB,ps,bs,kP,kW,kB,x,rfl,R,aal.mpr ⟨_,hx,rfl⟩,?_⟩
 obtain ⟨v,ev,hv⟩:=R.place nd hx
 exact ⟨_,rfl,a,C,dx,_,_,rfl,R.obj,fc.cls,fc.pl,rfl,_,rfl,pP,v,rfl,(by rw [← ev];exact cJ.k (k:=.inr x) R.pl),q v hv⟩
inductive nR (K:Frag)(C:Addr)(vs:List V)(H:Hp)(Q:VK)(E_:XK):Prop where
 | mk (a dx pP pW pB:Addr) (ps:List (Str×Pt)) (bs:List (Str×Str×Str)) (kP kW kB:List (Key×V)) (x one other:Str) (_:vs=[.ref a,.str x]) (_:dZ K H C a dx pP pW pB ps bs kP kW kB) (_:(bs.map (·.1)).Nodup) (_:(x,one,other)∈bs) (_:∀p,Rd H p (.tup [.str one,.str other])→Q (.ref p) H):nR K C vs H Q E_
theorem LR:aA ["self","bar"] ["self","bar"] (af vM):=sq
theorem LS {f:Addr}{fd:FuncData}{C:Addr}(F:kZ K "ends" "Frame.ends" vM f fd)(fc:xH K C):cj P w K mg base (aX P w) 1 f fd ["self","bar"] (nR K C):=by
 refine cH F LR (fun vs H Q E h=> ?_) (fun bx A outer s H vs Q E hr h=> ?_)
 ·obtain ⟨a,dx,pP,pW,pB,ps,bs,kP,kW,kB,x,one,other,rfl,_⟩:=h
  rfl
 obtain ⟨a,dx,pP,pW,pB,ps,bs,kP,kW,kB,x,one,other,rfl,R,nd,hx,q⟩:=h
 refine ⟨_,(ae (bG (mR (mf (cy hr) (pv 1) (cz (pv 0) rfl))) (aj (cp)) aY)
  (aj (aI (dw (cy hr) (cz (pv 0) rfl) (pv 1) (fun _ _=>rfl))))),?_⟩
 have hm:x∈bs.map (·.1):=aal.mpr ⟨_,hx,rfl⟩
 refine ⟨_,rfl,_,rfl,a,C,dx,_,_,rfl,R.obj,fc.cls,fc.br,rfl,pB,_,rfl,cJ.k (k:=.inr x) R.br,_,rfl,?_⟩
 rw [R.bar x,decide_eq_true hm]
 obtain ⟨p,ev,hv⟩:=R.ends nd hx
 exact ⟨_,rfl,a,C,dx,_,_,rfl,R.obj,fc.cls,fc.br,rfl,_,rfl,pB,.ref p,rfl,(by rw [← ev];exact cJ.k (k:=.inr x) R.br),q p hv⟩
inductive kD (K:Frag)(C:Addr)(vs:List V)(H:Hp)(Q:VK)(E_:XK):Prop where
 | mk (a dx pP pW pB:Addr) (ps:List (Str×Pt)) (bs:List (Str×Str×Str)) (kP kW kB:List (Key×V)) (pw:List (Str×List (Rat×Rat))) (x:Str) (ws:List (Rat×Rat)) (_:vs=[.ref a,.str x]) (_:dZ K H C a dx pP pW pB ps bs kP kW kB) (_:qG K H pw kW) (_:(pw.map (·.1)).Nodup) (_:(x,ws)∈pw) (_:x∈ps.map (·.1)) (_:∀(l:Addr) (us:List V) (H' :Hp),ar H H' →H l=none→H' l=some (.lst us)→gd K H' us ws→Q (.ref l) H'):kD K C vs H Q E_
theorem LU:aA ["self","pin"] ["self","pin"] (af vL):=sq
theorem LV {f:Addr}{fd:FuncData}{C:Addr}(F:kZ K "ways" "Frame.ways" vL f fd)(fc:xH K C)(cK:mg "list"=none)(MC:bE P w K mg base (aX P w) 1 C "check_pin" ["self","pin"] (c7 K C)):cj P w K mg base (aX P w) 2 f fd ["self","pin"] (kD K C):=by
 refine cH F LU (fun vs H Q E h=> ?_) (fun bx A outer s H vs Q E hr h=> ?_)
 ·obtain ⟨a,dx,pP,pW,pB,ps,bs,kP,kW,kB,pw,x,ws,rfl,_⟩:=h
  rfl
 obtain ⟨a,dx,pP,pW,pB,ps,bs,kP,kW,kB,pw,x,ws,rfl,R,W,nd,hx,hp,q⟩:=h
 refine ⟨_,(ae (bF (cZ (k:=1) (pv 0) hr.mo (pY P w) (aq (pv 1) aa)))
  (aj (aI (dA j8 rfl cK j5 (aq (dw (cy hr) (cz (pv 0) rfl) (pv 1) (fun _ _=>rfl)) aa))))),?_⟩
 refine ⟨_,rfl,a,C,dx,_,_,_,rfl,R.obj,rfl,MC,_,rfl,a,dx,pP,pW,pB,ps,bs,kP,kW,kB,x,rfl,R,hp,?_⟩
 obtain ⟨v,ev,l,us,el,hl,pt⟩:=fj W nd hx
 have el' :v=.ref l:=el
 subst el'
 refine ⟨_,rfl,a,C,dx,_,_,rfl,R.obj,fc.cls,fc.wy,rfl,_,rfl,pW,.ref l,rfl,(by rw [← ev];exact cJ.k (k:=.inr x) R.wy),?_⟩
 exact ⟨l,us,rfl,aT.of hl,fun l2 n2=>q l2 us _ (aD n2 _) n2 ah (pt.same (aD n2 _))⟩
def HE (K:Frag)(H:Hp)(Q:VK)(ws:List (Rat×Rat)):Prop:=∀(l:Addr) (us:List V) (H' :Hp),ar H H' →H l=none→H' l=some (.lst us)→gd K H' us ws→Q (.ref l) H'
theorem nS {x:Rat}(h:(qr x).1=0):x=0:=by
 have:=dm x
 unfold vl at this
 rw [h] at this
 have z:=p_ (r:=x)
 have e:((0:Int):Rat)=0:=by rfl
 rw [e] at this
 grind
inductive nV (K:Frag)(C:Addr)(vs:List V)(H:Hp)(Q:VK)(E_:XK):Prop where
 | mk (a dx:Addr) (ux uy:V) (x y:Rat) (_:vs=[.ref a,ux,uy]) (_:H a=some (.ins C dx [])) (_:dq K H ux x) (_:dq K H uy y) (_:¬ (x=0∧y=0)) (_:∀p,H p=none→Q .cb (upd (upd H p (.tup [ux,uy])) a (.ins C dx [("way",.ref p)]))):nV K C vs H Q E_
theorem LW:aA ["self","x","y"] ["self","x","y"] (af vN):=sq
theorem LX {f:Addr}{fd:FuncData}{C:Addr}(F:kZ K "__init__" "Roller.__init__" vN f fd)(cl:qE K C)(nw:dD K C "way"):cj P w K mg base (aX P w) 1 f fd ["self","x","y"] (nV K C):=by
 refine cH F LW (fun vs H Q E h=> ?_) (fun bx A outer s H vs Q E hr h=> ?_)
 ·obtain ⟨a,dx,ux,uy,x,y,rfl,_⟩:=h
  rfl
 obtain ⟨a,dx,ux,uy,x,y,rfl,ha,⟨p1,rfl,h1⟩,⟨p2,rfl,h2⟩,nz,q⟩:=h
 have sz:(2:Nat)≤sizeLine:=by decide
 refine ⟨_,(ae (bG (PW.pt (wz (aU cD (aJ (pv 1)) ag (ba _)) (sk (aU cD (aJ (pv 2)) ag (ba _))))) (aj (cp)) aY)
  (aj (mW (pv 0) (aR (aq (pv 1) (aq (pv 2) aa))) rfl))),?_⟩
 refine ⟨_,rfl,p1,_,_,_,rfl,rfl,h1,g9,rfl,_,rfl,?_⟩
 refine bI (fun c1=> ?_) (fun c1=> ?_)
 ·have e1:(qr x).1=0:=by simpa using of_decide_eq_true c1
  refine ⟨_,rfl,p2,_,_,_,rfl,rfl,h2,g9,rfl,_,rfl,?_⟩
  refine bI (fun c2=> ?_) (fun c2=> ?_)
  ·have e2:(qr y).1=0:=by simpa using of_decide_eq_true c2
   exact absurd ⟨nS e1,nS e2⟩ nz
  ·exact ⟨_,rfl,_,rfl,sz,fun p hp=>⟨_,rfl,a,C,dx,[],rfl,(by rw [ak (ao ha hp)];exact ha),cl,nw,(by show 0 < 1000;decide),q p hp⟩⟩
 ·refine Kf ?_
  exact ⟨_,rfl,_,rfl,sz,fun p hp=>⟨_,rfl,a,C,dx,[],rfl,(by rw [ak (ao ha hp)];exact ha),cl,nw,(by show 0 < 1000;decide),q p hp⟩⟩
inductive ia (K:Frag)(C:Addr)(vs:List V)(H:Hp)(Q:VK)(E_:XK):Prop where
 | mk (a dx p:Addr) (w:Rat×Rat) (_:vs=[.ref a]) (_:H a=some (.ins C dx [("way",.ref p)])) (_:dC K H (.ref p) w) (_:HE K H Q [w]):ia K C vs H Q E_
theorem LY:aA ["self"] ["self"] (af vO):=sq
theorem LZ {f:Addr}{fd:FuncData}{C:Addr}(F:kZ K "ways" "Roller.ways" vO f fd)(cl:qE K C)(nw:dD K C "way"):cj P w K mg base (aX P w) 1 f fd ["self"] (ia K C):=by
 refine cH F LY (fun vs H Q E h=> ?_) (fun bx A outer s H vs Q E hr h=> ?_)
 ·obtain ⟨a,dx,p,w,rfl,_⟩:=h
  rfl
 obtain ⟨a,dx,p,w,rfl,ha,hw,q⟩:=h
 refine ⟨_,(aj (aI (bD (aq (cz (pv 0) rfl) aa)))),?_⟩
 refine ⟨_,rfl,a,C,dx,_,.ref p,rfl,ha,cl,nw,(by simp),(by show 1≤sizeLine;decide),fun l hl=> ?_⟩
 exact q l [.ref p] _ (aD hl _) hl ah (.cons (hw.same (aD hl _)) .nil)
inductive ib (K:Frag)(vs:List V)(H:Hp)(Q:VK)(E_:XK):Prop where
 | mk (a:Addr) (_:vs=[.ref a]) (_:HE K H Q [(1,0),(0,1)]):ib K vs H Q E_
theorem nX:qr 1=(1,1):=by
 have:=kq 1
 simpa using this
theorem cN:qr 0=(0,1):=by
 have:=kq 0
 simpa using this
theorem tG {H:Hp}{p p1 p2:Addr}{a b:Rat}{x y:Int×Int}(ea:qr a=x)(eb:qr b=y)(h:H p=some (.tup [.ref p1,.ref p2]))(h1:H p1=some (.tup [.int x.1,.int x.2]))(h2:H p2=some (.tup [.int y.1,.int y.2])):dC K H (.ref p) (a,b):=
 ⟨p,.ref p1,.ref p2,rfl,bQ.of h,⟨p1,rfl,by rw [ea];exact bQ.of h1⟩,⟨p2,rfl,by rw [eb];exact bQ.of h2⟩⟩
theorem L6:aA ["self"] ["self"] (af vP):=sq
theorem L7 {f:Addr}{fd:FuncData}(F:kZ K "ways" "Fixed.ways" vP f fd):cj P w K mg base (aX P w) 1 f fd ["self"] (ib K):=by
 refine cH F L6 (fun vs H Q E h=> ?_) (fun bx A outer s H vs Q E hr h=> ?_)
 ·obtain ⟨a,rfl,_⟩:=h
  rfl
 obtain ⟨a,rfl,q⟩:=h
 have sz:(2:Nat)≤sizeLine:=by decide
 refine ⟨_,(aj (aI (bD (aq (aR (aq (aR (aq ag (aq ag aa))) (aq (aR (aq ag (aq ag aa))) aa))) (aq (aR (aq (aR (aq ag (aq ag aa))) (aq (aR (aq ag (aq ag aa))) aa))) aa))))),?_⟩
 refine ⟨sz,fun p1 n1=> ?_⟩
 have s1:=aD n1 (.tup [.int 1,.int 1])
 have e1:upd H p1 (.tup [.int 1,.int 1]) p1=some (.tup [.int 1,.int 1]):=ah
 generalize upd H p1 (.tup [.int 1,.int 1])=H1 at s1 e1 ⊢
 refine ⟨sz,fun p2 n2=> ?_⟩
 have s2:=aD n2 (.tup [.int 0,.int 1])
 have e2:upd H1 p2 (.tup [.int 0,.int 1]) p2=some (.tup [.int 0,.int 1]):=ah
 generalize upd H1 p2 (.tup [.int 0,.int 1])=H2 at s2 e2 ⊢
 refine ⟨sz,fun p3 n3=> ?_⟩
 have s3:=aD n3 (.tup [.ref p1,.ref p2])
 have e3:upd H2 p3 (.tup [.ref p1,.ref p2]) p3=some (.tup [.ref p1,.ref p2]):=ah
 generalize upd H2 p3 (.tup [.ref p1,.ref p2])=H3 at s3 e3 ⊢
 refine ⟨sz,fun p4 n4=> ?_⟩
 have s4:=aD n4 (.tup [.int 0,.int 1])
 have e4:upd H3 p4 (.tup [.int 0,.int 1]) p4=some (.tup [.int 0,.int 1]):=ah
 generalize upd H3 p4 (.tup [.int 0,.int 1])=H4 at s4 e4 ⊢
 refine ⟨sz,fun p5 n5=> ?_⟩
 have s5:=aD n5 (.tup [.int 1,.int 1])
 have e5:upd H4 p5 (.tup [.int 1,.int 1]) p5=some (.tup [.int 1,.int 1]):=ah
 generalize upd H4 p5 (.tup [.int 1,.int 1])=H5 at s5 e5 ⊢
 refine ⟨sz,fun p6 n6=> ?_⟩
 have s6:=aD n6 (.tup [.ref p4,.ref p5])
 have e6:upd H5 p6 (.tup [.ref p4,.ref p5]) p6=some (.tup [.ref p4,.ref p5]):=ah
 generalize upd H5 p6 (.tup [.ref p4,.ref p5])=H6 at s6 e6 ⊢
 refine ⟨sz,fun l nl=> ?_⟩
 have s7:=aD nl (.lst [.ref p3,.ref p6])
 have e7:upd H6 l (.lst [.ref p3,.ref p6]) l=some (.lst [.ref p3,.ref p6]):=ah
 generalize upd H6 l (.lst [.ref p3,.ref p6])=H7 at s7 e7 ⊢
 have s16:=s1.trans (s2.trans (s3.trans (s4.trans (s5.trans s6))))
 have w1:dC K H7 (.ref p3) (1,0):=tG nX cN (s7 _ _ (s6 _ _ (s5 _ _ (s4 _ _ e3)))) (s7 _ _ (s6 _ _ (s5 _ _ (s4 _ _ (s3 _ _ (s2 _ _ e1)))))) (s7 _ _ (s6 _ _ (s5 _ _ (s4 _ _ (s3 _ _ e2)))))
 have w2:dC K H7 (.ref p6) (0,1):=tG cN nX (s7 _ _ e6) (s7 _ _ (s6 _ _ (s5 _ _ e4))) (s7 _ _ (s6 _ _ e5))
 exact q l [.ref p3,.ref p6] H7 (s16.trans s7) (s16.free nl) e7 (.cons w1 (.cons w2 .nil))
def DG (P:Program)(w:World)(K:Frag)(mg:Str→Option Value)(base:Heap)(H:Hp)(hv:V)(ws:List (Rat×Rat)):Prop:=(hv=.cb∧ws=[])∨∃(h Ch L8:Addr) (Jw:List (Str×V)) (Tf:List Str) (Rf:Sp),hv=.ref h∧H h=some (.ins Ch L8 Jw)∧Jw.lookup ("ways":Str)=none∧bE P w K mg base (aX P w) 2 Ch "ways" Tf Rf∧(∀H1,H1 h=some (.ins Ch L8 Jw)→bf H H1→∀Q',HE K H1 Q' ws→Rf [.ref h] H1 Q' E0)
inductive c8 (P:Program)(w:World)(K:Frag)(mg:Str→Option Value)(base:Heap)(C:Addr)(vs:List V)(H:Hp)(Q:VK)(E_:XK):Prop where
 | mk (a dx pP pW pB:Addr) (ps:List (Str×Pt)) (bs:List (Str×Str×Str)) (kP kW kB:List (Key×V)) (pw:List (Str×List (Rat×Rat))) (x:Str) (u v hv:V) (p:Pt) (ws:List (Rat×Rat)) (_:vs=[.ref a,.str x,u,v,hv]) (_:dZ K H C a dx pP pW pB ps bs kP kW kB) (_:qG K H pw kW) (_:pw.map (·.1)=ps.map (·.1)) (_:iW K H u p.1) (_:iW K H v p.2) (_:x∉ps.map (·.1)) (_:(∀z∈ps,z.2≠p)) (_:ps.length < 24) (_:DG P w K mg base H hv ws) (_:∀(H' :Hp) (x_ pZ :List (Key×V)),(∀b o,b≠pP→b≠pW→H b=some o→H' b=some o)→dZ K H' C a dx pP pW pB (ps++[(x,p)]) bs x_ pZ kB→qG K H' (pw++[(x,ws)]) pZ →Q .cb H'):c8 P w K mg base C vs H Q E_
theorem ya:aA ["self","name","x","y","hold","pin","spot"] ["self","name","x","y","hold"] (af jB):=sq
theorem L9 {f:Addr}{fd:FuncData}{C:Addr}(F:F_ K "put_pin" "Frame.put_pin" jB f fd)(fc:xH K C){tkP:Tok}(HF:mg "MOST_PINS"=some (.int 24 tkP))(aZ:mg "len"=none)(cK:mg "list"=none):cj P w K mg base (aX P w) 3 f fd ["self","name","x","y","hold"] (c8 P w K mg base C):=by
 refine xF F ya (fun vs H Q E h=> ?_) (fun bx A outer s H vs Q E hr h=> ?_)
 ·obtain ⟨a,dx,pP,pW,pB,ps,bs,kP,kW,kB,pw,x,u,v,hv,p,ws,rfl,_⟩:=h
  rfl
 obtain ⟨a,dx,pP,pW,pB,ps,bs,kP,kW,kB,pw,x,u,v,hvv,p,ws,rfl,R,W,ew,hu,hv,hx,hs,hl,hH,q⟩:=h
 refine ⟨_,(ae (bG (mR (xr (cy hr) (pv 1) (cz (pv 0) rfl))) (aj (cp)) aY)
  (ae (nH (bo PassesOwn.never rfl (kg (cz (pv 0) rfl)) (fJ rfl (bg (aG (i:=5) ya.nd rfl (aan rfl)) (bg (aG (i:=6) ya.nd rfl (aan rfl)) c_))) (aj (bG (aU (zH hr.units) (pv 6) (aR (aq (pv 2) (aq (pv 3) aa))) (ba _)) (aj (cp)) aY))))
  (ae (bG (aU CH (aQ ml rfl aZ bT (aq (cz (pv 0) rfl) aa)) (eZ (v:=.int 24) rfl HF ⟨_,rfl⟩) (ba _)) (aj (cp)) aY)
  (ae (d6 (cy hr) (cz (pv 0) rfl) (pv 1) (aR (aq (pv 2) (aq (pv 3) aa))) rfl)
  (aj (d6 (cy hr) (cz (pv 0) rfl) (pv 1) (oN (aU wO (pv 4) jS (ba _)) (bD aa) (dA j8 rfl cK j5 (aq (cS (k:=2) (pv 4) hr.mo (pY P w)) aa))) rfl)))))),?_⟩
 refine ⟨_,rfl,_,rfl,a,C,dx,_,_,rfl,R.obj,fc.cls,fc.pl,rfl,pP,_,rfl,cJ.k (k:=.inr x) R.pl,_,rfl,?_⟩
 rw [R.pin x,decide_eq_false hx]
 have lk:kP.length=ps.length:=(Paired.length R.rp).symm
 refine ⟨_,rfl,a,C,dx,_,_,rfl,R.obj,fc.cls,fc.pl,rfl,pP,kP,rfl,R.pl,fun o=> ?_⟩
 have k0:bL pP H (upd H pP (.fD o (.dK kP))):=fun b o' n e=>by rw [ak n];exact e
 refine iV (d:=pP) (o:=o) (kvs:=kP) (fun t σ H' =>∃(o2 o3:Option V),σ=[some (.ref a),some (.str x),some u,some v,some hvv,o2,o3]∧bL pP H H' ∧H' pP=some (.fD o (.dK kP))) ⟨none,none,rfl,k0,ah⟩ (fun t σ H' _ h=>by
   obtain ⟨_,_,_,_,h⟩:=h
   exact h) ?_ ?_
 ·rintro t k y σ H6 p7 v9 ⟨o2,o3,rfl,k6,HG⟩ n7
  obtain ⟨z,ez,hz1,K4⟩:=aF (bB R.rp) v9
  have Tg :k=.inr z.1:=hz1
  subst Tg
  have s6:bf H H6:=fun b xs r=>by
   rcases r with r | ⟨o',r⟩
   ·exact .inl (k6 _ _ (fun e=>by rw [e,R.pl] at r;cases r) r)
   ·exact .inr ⟨o',k6 _ _ (fun e=>by rw [e,R.pl] at r;cases r) r⟩
  have s7:=aD n7 (.tup [kV (.inr z.1),y])
  have s67:bf H (upd H6 p7 (.tup [kV (.inr z.1),y])):=s6.trans (.of s7)
  refine ⟨p7,_,rfl,bQ.of ah,rfl,_,_,rfl,_,_,rfl,rfl,?_⟩
  refine ⟨_,rfl,_,rfl,_,rfl,(by show 2≤sizeLine;decide),fun t8 n8=> ?_⟩
  have s8:=aD n8 (.tup [u,v])
  have AI:bf H (upd (upd H6 p7 (.tup [kV (.inr z.1),y])) t8 (.tup [u,v])):=s67.trans (.of s8)
  refine ⟨cX z.2,cX p,.inl ⟨(Spot.aL K4 AI).is,(Spot.is (p:=p) ⟨t8,u,v,rfl,bQ.of ah,hu.aL AI,hv.aL AI⟩)⟩,jm _ _,mm _,?_⟩
  rw [pV]
  refine ⟨_,rfl,?_⟩
  refine bI (fun c=>absurd (of_decide_eq_true c) (hs z (aai ez))) (fun _=> ?_)
  exact ⟨_,_,rfl,fun b o' n e=>s8 _ _ (s7 _ _ (k6 b o' n e)),s8 _ _ (s7 _ _ HG)⟩
 ·rintro σ H1 ⟨o2,o3,rfl,k1,DH⟩
  refine ⟨pP,o,kP,DH,fun o' u' z=>(by have z' :H pP=some (.fD o' u'):=z;rw [R.pl] at z';cases z'),?_⟩
  have s2:ar H (upd H1 pP (.dK kP)):=fun b o' e=>by
   by_cases n:b=pP
   ·subst n
    rw [R.pl] at e
    rw [ah]
    exact e
   ·rw [ak n]
    exact k1 b o' n e
  generalize upd H1 pP (.dK kP)=H2 at s2 ⊢
  have R2:=R.same s2
  refine ⟨_,rfl,a,C,dx,_,_,rfl,R2.obj,fc.cls,fc.pl,rfl,pP,kP,rfl,.inl R2.pl,_,_,rfl,rfl,_,rfl,?_⟩
  refine bI (fun c=> ?_) (fun _=> ?_)
  ·have c' :(24:Int)≤(kP.length:Int):=of_decide_eq_true c
   omega
  refine ⟨_,rfl,_,rfl,(by show 2≤sizeLine;decide),fun t nt=> ?_⟩
  have s3:=aD nt (.tup [u,v])
  have R3:=R2.same s3
  have Q8:=(hu.same s2).same s3
  have hv3:=(hv.same s2).same s3
  refine ⟨_,rfl,a,C,dx,_,_,rfl,R3.obj,fc.cls,fc.pl,rfl,_,rfl,pP,_,rfl,iR.k (k:=.inr x) R3.pl (aar (show kP.length≤1000 by omega) (by decide)),?_⟩
  have e:putK kP (.inr x) (.ref t)=kP++[(.inr x,.ref t)]:=cF _ (bY (by rw [R.sX];exact fun z=>hx (d_.mp z)))
  rw [e]
  have R4:=R3.GB (x:=x) (p:=p) (t:=t) ⟨t,u,v,rfl,bQ.of ah,Q8,hv3⟩
  have k4:∀b o,b≠pP→H b=some o→(upd (upd H2 t (.tup [u,v])) pP (.dK (kP++[(.inr x,.ref t)]))) b=some o:=fun b o n e=>by rw [ak n];exact s3 _ _ (s2 _ _ e)
  generalize upd (upd H2 t (.tup [u,v])) pP (.dK (kP++[(.inr x,.ref t)]))=H4 at R4 k4 ⊢
  have lw:kW.length=ps.length:=by
   have e1:kW.length=pw.length:=(Paired.length W).symm
   have e2:=congrArg abk ew
   rw [ir,ir] at e2
   omega
  have t4:bf H H4:=fun b xs r=>by
   rcases r with r | ⟨o',r⟩
   ·exact .inl (k4 _ _ (fun e=>by rw [e,R.pl] at r;cases r) r)
   ·exact .inr ⟨o',k4 _ _ (fun e=>by rw [e,R.pl] at r;cases r) r⟩
  have W4:qG K H4 pw kW:=Paired.bU W fun _ _ z=>⟨z.1,by
   obtain ⟨l,us,e1,e2,e3⟩:=z.2
   exact ⟨l,us,e1,k4 _ _ (fun e=>by rw [e,R.pl] at e2;cases e2) e2,e3.aL t4⟩⟩
  refine ⟨_,rfl,rfl,_,rfl,?_⟩
  rcases hH with ⟨rfl,rfl⟩ | ⟨h,Ch,L8,Jw,Tf,Rf,rfl,hh,hlk,MH,qF⟩
  ·refine bI (fun _=> ?_) (fun c=>absurd (by decide) c)
   refine ⟨by show 0≤sizeLine;decide,fun l2 n6=> ?_⟩
   have s6:=aD n6 (.lst [])
   have R6:=R4.same s6
   have W6:=W4.same s6
   refine ⟨_,rfl,a,C,dx,_,_,rfl,R6.obj,fc.cls,fc.wy,rfl,_,rfl,pW,_,rfl,iR.k (k:=.inr x) R6.wy (aar (show kW.length≤1000 by omega) (by decide)),?_⟩
   have ek:putK kW (.inr x) (.ref l2)=kW++[(.inr x,.ref l2)]:=cF _ (bY (by rw [W.keys,ew];exact fun z=>hx (d_.mp z)))
   rw [ek]
   have Th:l2≠pW:=fun z=>by have h:=R6.wy;rw [← z,ah] at h;cases h
   exact q _ _ _ (fun b o n1 n2 e=>by rw [ak n2];exact s6 _ _ (k4 b o n1 e)) (R6.sY _) (Paired.snoc (W6.dict R6.wy) ⟨rfl,l2,[],rfl,by rw [ak Th,ah],.nil⟩)
  have h4:H4 h=some (.ins Ch L8 Jw):=k4 _ _ (fun e=>by rw [e,R.pl] at hh;cases hh) hh
  refine bI (fun c=>absurd (of_decide_eq_true c) (fun z=>nomatch z)) (fun _=> ?_)
  refine ⟨_,rfl,h,Ch,L8,Jw,Tf,Rf,rfl,h4,hlk,MH,qF H4 h4 t4 _ fun l1 us H5 s5 n5 e5 p5=> ?_⟩
  refine ⟨l1,us,rfl,aT.of e5,fun l2 n6=> ?_⟩
  have s6:=aD n6 (.lst us)
  have R6:=(R4.same s5).same s6
  have W6:=(W4.same s5).same s6
  refine ⟨_,rfl,a,C,dx,_,_,rfl,R6.obj,fc.cls,fc.wy,rfl,_,rfl,pW,_,rfl,iR.k (k:=.inr x) R6.wy (aar (show kW.length≤1000 by omega) (by decide)),?_⟩
  have ek:putK kW (.inr x) (.ref l2)=kW++[(.inr x,.ref l2)]:=cF _ (bY (by rw [W.keys,ew];exact fun z=>hx (d_.mp z)))
  rw [ek]
  have qI:ar H4 (upd H5 l2 (.lst us)):=fun b o z=>s6 _ _ (s5 _ _ z)
  refine q _ _ _ (fun b o n1 n2 e=>by rw [ak n2];exact qI _ _ (k4 b o n1 e)) (R6.sY _) ?_
  have Th:l2≠pW:=fun z=>by have h:=R6.wy;rw [← z,ah] at h;cases h
  exact Paired.snoc (W6.dict R6.wy) ⟨rfl,l2,us,rfl,by rw [ak Th,ah],(p5.same s6).aL (.dict R6.wy)⟩
inductive fk (K:Frag)(C:Addr)(vs:List V)(H:Hp)(Q:VK)(E_:XK):Prop where
 | mk (a dx pP pW pB:Addr) (ps:List (Str×Pt)) (bs:List (Str×Str×Str)) (kP kW kB:List (Key×V)) (x one other:Str) (_:vs=[.ref a,.str x,.str one,.str other]) (_:dZ K H C a dx pP pW pB ps bs kP kW kB) (_:x∉bs.map (·.1)) (_:one∈ps.map (·.1)) (_:other∈ps.map (·.1)) (_:one≠other) (_:bs.length < 60) (_:Q .cb H):fk K C vs H Q E_
theorem L_:aA ["self","name","one","other"] ["self","name","one","other"] (af vG):=sq
theorem Ma {f:Addr}{fd:FuncData}{C:Addr}(F:kZ K "check_bar" "Frame.check_bar" vG f fd)(fc:xH K C){tkB:Tok}(HH:mg "MOST_BARS"=some (.int 60 tkB))(aZ:mg "len"=none)
  (MC:bE P w K mg base (aX P w) 1 C "check_pin" ["self","pin"] (c7 K C)):cj P w K mg base (aX P w) 2 f fd ["self","name","one","other"] (fk K C):=by
 refine cH F L_ (fun vs H Q E h=> ?_) (fun bx A outer s H vs Q E hr h=> ?_)
 ·obtain ⟨a,dx,pP,pW,pB,ps,bs,kP,kW,kB,x,one,other,rfl,_⟩:=h
  rfl
 obtain ⟨a,dx,pP,pW,pB,ps,bs,kP,kW,kB,x,one,other,rfl,R,hx,h1,h2,ne,hl,q⟩:=h
 refine ⟨_,(ae (bG (mR (xr (cy hr) (pv 1) (cz (pv 0) rfl))) (aj (cp)) aY)
  (ae (bF (cZ (k:=1) (pv 0) hr.mo (pY P w) (aq (pv 2) aa)))
  (ae (bF (cZ (k:=1) (pv 0) hr.mo (pY P w) (aq (pv 3) aa)))
  (ae (bG (aU cD (pv 2) (pv 3) (ba _)) (aj (cp)) aY)
  (aj (bG (aU CH (aQ ml rfl aZ bT (aq (cz (pv 0) rfl) aa)) (eZ (v:=.int 60) rfl HH ⟨_,rfl⟩) (ba _)) (aj (cp)) aY)))))),?_⟩
 refine ⟨_,rfl,_,rfl,a,C,dx,_,_,rfl,R.obj,fc.cls,fc.br,rfl,pB,_,rfl,cJ.k (k:=.inr x) R.br,_,rfl,?_⟩
 rw [R.bar x,decide_eq_false hx]
 refine ⟨_,rfl,a,C,dx,_,_,_,rfl,R.obj,rfl,MC,_,rfl,a,dx,pP,pW,pB,ps,bs,kP,kW,kB,one,rfl,R,h1,?_⟩
 refine ⟨_,rfl,a,C,dx,_,_,_,rfl,R.obj,rfl,MC,_,rfl,a,dx,pP,pW,pB,ps,bs,kP,kW,kB,other,rfl,R,h2,?_⟩
 refine ⟨_,rfl,_,rfl,rfl,_,rfl,?_⟩
 refine bI (fun c=>absurd (by simpa [jg] using c) ne) (fun _=> ?_)
 have lk:kB.length=bs.length:=(Paired.length R.rb).symm
 refine ⟨_,rfl,a,C,dx,_,_,rfl,R.obj,fc.cls,fc.br,rfl,pB,kB,rfl,.inl R.br,_,_,rfl,rfl,_,rfl,?_⟩
 refine bI (fun c=> ?_) (fun _=>q)
 have c' :(60:Int)≤(kB.length:Int):=of_decide_eq_true c
 omega
inductive ie (K:Frag)(C:Addr)(vs:List V)(H:Hp)(Q:VK)(E_:XK):Prop where
 | mk (a dx pP pW pB:Addr) (ps:List (Str×Pt)) (bs:List (Str×Str×Str)) (kP kW kB:List (Key×V)) (x one other:Str) (_:vs=[.ref a,.str x,.str one,.str other]) (_:dZ K H C a dx pP pW pB ps bs kP kW kB) (_:x∉bs.map (·.1)) (_:one∈ps.map (·.1)) (_:other∈ps.map (·.1)) (_:one≠other) (_:bs.length < 60) (_:∀(H' :Hp) (Ti :List (Key×V)),bL pB H H' →dZ K H' C a dx pP pW pB ps (bs++[(x,one,other)]) kP kW Ti →Q .cb H'):ie K C vs H Q E_
theorem Mb:aA ["self","name","one","other"] ["self","name","one","other"] (af vF):=sq
theorem Mc {f:Addr}{fd:FuncData}{C:Addr}(F:kZ K "put_bar" "Frame.put_bar" vF f fd)(fc:xH K C)
  (MC:bE P w K mg base (aX P w) 2 C "check_bar" ["self","name","one","other"] (fk K C)):cj P w K mg base (aX P w) 3 f fd ["self","name","one","other"] (ie K C):=by
 refine cH F Mb (fun vs H Q E h=> ?_) (fun bx A outer s H vs Q E hr h=> ?_)
 ·obtain ⟨a,dx,pP,pW,pB,ps,bs,kP,kW,kB,x,one,other,rfl,_⟩:=h
  rfl
 obtain ⟨a,dx,pP,pW,pB,ps,bs,kP,kW,kB,x,one,other,rfl,R,hx,h1,h2,ne,hl,q⟩:=h
 refine ⟨_,(ae (bF (cZ (k:=2) (pv 0) hr.mo (pY P w) (aq (pv 1) (aq (pv 2) (aq (pv 3) aa)))))
  (aj (d6 (cy hr) (cz (pv 0) rfl) (pv 1) (aR (aq (pv 2) (aq (pv 3) aa))) rfl))),?_⟩
 refine ⟨_,rfl,a,C,dx,_,_,_,rfl,R.obj,rfl,MC,_,rfl,_,rfl,_,rfl,a,dx,pP,pW,pB,ps,bs,kP,kW,kB,x,one,other,rfl,R,hx,h1,h2,ne,hl,?_⟩
 refine ⟨_,rfl,_,rfl,(by show 2≤sizeLine;decide),fun t nt=> ?_⟩
 have s:=aD nt (.tup [.str one,.str other])
 have R' :=R.same s
 have lk:kB.length=bs.length:=(Paired.length R.rb).symm
 refine ⟨_,rfl,a,C,dx,_,_,rfl,R'.obj,fc.cls,fc.br,rfl,_,rfl,pB,_,rfl,iR.k (k:=.inr x) R'.br (aar (show kB.length≤1000 by omega) (by decide)),?_⟩
 have e:putK kB (.inr x) (.ref t)=kB++[(.inr x,.ref t)]:=cF _ (bY (by rw [R.sW];exact fun z=>hx (d_.mp z)))
 rw [e]
 refine q _ _ (fun b o n z=> ?_) (R'.F' (.inl ah))
 rw [ak n]
 exact s _ _ z
def fS (p q:aC):Rat×Rat:=(q.sp.1 - p.sp.1,q.sp.2 - p.sp.2)
inductive yb (K:Frag)(C:Addr)(vs:List V)(H:Hp)(Q:VK)(E_:XK):Prop where
 | mk (a:Addr) (pins:List aC) (bars:List a8) (p q:aC) (_:vs=[.ref a,.str p.nm,.str q.nm]) (_:s_ K H C a pins bars) (_:cU pins bars) (_:p∈pins) (_:q∈pins) (_:x9 K H Q (fS p q)):yb K C vs H Q E_
theorem DI {pins:List aC}(h:(pins.map (·.nm)).Nodup):((pins.map fun p=>(p.nm,qa p.sp)).map (·.1)).Nodup:=by
 rw [aaI]
 exact h
theorem DJ {pins:List aC}(h:(pins.map (·.nm)).Nodup):((pins.map fun p=>(p.nm,p.ws)).map (·.1)).Nodup:=by
 rw [aaI]
 exact h
theorem Md {bars:List a8}(h:(bars.map (·.nm)).Nodup):((bars.map fun b=>(b.nm,b.one.nm,b.other.nm)).map (·.1)).Nodup:=by
 rw [aaI]
 exact h
theorem Me:aA ["F","one","other"] ["F","one","other"] (af uU):=sq
theorem Mf {C:Addr}(D:Def K mg "arm_between" uU ["F","one","other"])(MP:bE P w K mg base (aX P w) 2 C "place" ["self","pin"] (jO K C))(Tj:Fn P w K mg base (aX P w) 35 "pair_difference" ["one","other"] (rN K fun a b=>a - b)):Fn P w K mg base (aX P w) 36 "arm_between" ["F","one","other"] (yb K C):=by
 refine D.ok Me (fun vs H Q E h=> ?_) (fun f bx A outer s H vs Q E hr h=> ?_)
 ·obtain ⟨a,pins,bars,p,q,rfl,_⟩:=h
  rfl
 obtain ⟨a,pins,bars,p,q,rfl,R,g,hp,hq,k⟩:=h
 obtain ⟨dx,pP,pW,pB,kP,kW,kB,R,W⟩:=R.ex
 refine ⟨_,(aj (aI (ay Tj hr.mo (pY P w) (aq (cZ (k:=2) (pv 0) hr.mo (pY P w) (aq (pv 2) aa)) (aq (cZ (k:=2) (pv 0) hr.mo (pY P w) (aq (pv 1) aa)) aa))))),?_⟩
 refine ⟨_,rfl,a,C,dx,_,_,_,rfl,R.obj,rfl,MP,_,rfl,a,dx,pP,pW,pB,_,_,kP,kW,kB,q.nm,qa q.sp,rfl,R,DI g.np,aal.mpr ⟨q,hq,rfl⟩,fun v1 h1=> ?_⟩
 refine ⟨_,rfl,a,C,dx,_,_,_,rfl,R.obj,rfl,MP,_,rfl,a,dx,pP,pW,pB,_,_,kP,kW,kB,p.nm,qa p.sp,rfl,R,DI g.np,aal.mpr ⟨p,hp,rfl⟩,fun v2 h2=> ?_⟩
 have z1:=g.sz q hq
 have z2:=g.sz p hp
 exact ⟨v1,v2,q.sp,p.sp,rfl,h1,h2,z1.1.up (by decide),z1.2.1.up (by decide),z2.1.up (by decide),z2.2.1.up (by decide),k⟩
def mv (M:Str→Option (Rat×Rat))(x:Str):Rat×Rat:=(M x).getD (0,0)
def cf (F:Str→Option (Rat×Rat))(pins:List aC):List (Int×Int):=pins.flatMap fun p=>[qr (mv F p.nm).1,qr (mv F p.nm).2]
theorem fT (F:Str→Option (Rat×Rat)):∀pins:List aC,(cf F pins).length=2*pins.length
 | []=>rfl
 | p::ps=>by
  have:=fT F ps
  unfold cf at this ⊢
  rw [aaB,aap,this]
  simp
  omega
theorem vU (F:Str→Option (Rat×Rat))(ps:List aC)(p:aC):cf F (ps++[p])=cf F ps++[qr (mv F p.nm).1,qr (mv F p.nm).2]:=by
 unfold cf
 rw [abc]
 simp
def c9 (x:Str)(w:Rat×Rat):Str→Option (Rat×Rat):=fun y=>if y=x then some w else none
def ck (b:a8):Str→Option (Rat×Rat):=fun y=>if y=b.one.nm then some (fS b.one b.other) else if y=b.other.nm then some (fS b.other b.one) else none
def ig (pins:List aC)(p:aC):List (List (Int×Int)):=p.ws.map fun w=>cf (c9 p.nm w) pins
def b6 (pins:List aC)(bars:List a8):List (List (Int×Int)):=(pins.flatMap fun p=>ig pins p)++bars.map fun b=>cf (ck b) pins
structure eQ (K:Frag)(H:Hp)(r:Addr)(ls:List Addr)(bX:List (List V))(cV:List (List (Int×Int))):Prop where
 gK:h7 H r ls bX
 num:gJ K H bX cV
 nr:r∉ls
theorem eQ.same {H H' :Hp}{r:Addr}{ls:List Addr}{bX:List (List V)}{cV:List (List (Int×Int))}(h:eQ K H r ls bX cV)(s:ar H H'):eQ K H' r ls bX cV:=⟨h.gK.same s,h.num.same s,h.nr⟩
theorem kE {H:Hp}{bX:List (List V)}{cV:List (List (Int×Int))}{us:List V}{qs:List (Int×Int)}(h:gJ K H bX cV)(n:cv K H us qs):gJ K H (bX++[us]) (cV++[qs]):=by
 refine ⟨by simp [h.1],fun i u q' e1 e2=> ?_⟩
 have l:=h.1
 by_cases c:i < bX.length
 ·rw [aaq c] at e1
  rw [aaq (by omega)] at e2
  exact h.2 i u q' e1 e2
 ·rw [aat (by omega)] at e1 e2
  by_cases z:i - bX.length=0
  ·rw [z] at e1
   rw [show i - cV.length=0 by omega] at e2
   cases e1
   cases e2
   exact n
  ·rw [aam (by simp;omega)] at e1
   cases e1
theorem tH {H:Hp}{ls:List Addr}{bX:List (List V)}{l:Addr}{us:List V}(hl:ls.length=bX.length)(h:∀(i:Nat) (l:Addr) (vs:List V),ls[i]? =some l→bX[i]? =some vs→H l=some (.lst vs))(e:H l=some (.lst us)):
  ∀(i:Nat) (l' :Addr) (vs:List V),(ls++[l])[i]? =some l' →(bX++[us])[i]? =some vs→H l' =some (.lst vs):=fun i l' vs e1 e2=>by
 by_cases c:i < ls.length
 ·rw [aaq c] at e1
  rw [aaq (by omega)] at e2
  exact h i l' vs e1 e2
 ·rw [aat (by omega)] at e1 e2
  by_cases z:i - ls.length=0
  ·rw [z] at e1
   rw [show i - bX.length=0 by omega] at e2
   cases e1
   cases e2
   exact e
  ·rw [aam (by simp;omega)] at e1
   cases e1
theorem eQ.push {H:Hp}{r l:Addr}{ls:List Addr}{bX:List (List V)}{cV:List (List (Int×Int))}{us:List V}{qs:List (Int×Int)}(h:eQ K H r ls bX cV)(e:H l=some (.lst us))(ne:l≠r)(n:cv K H us qs):
  eQ K (upd H r (.lst (ls.map V.ref++[.ref l]))) r (ls++[l]) (bX++[us]) (cV++[qs]):=by
 have st:bf H (upd H r (.lst (ls.map V.ref++[.ref l]))):=.list h.gK.1
 have hm:∀(i:Nat) (l' :Addr) (vs:List V),ls[i]? =some l' →bX[i]? =some vs→(upd H r (.lst (ls.map V.ref++[.ref l]))) l' =some (.lst vs):=fun i l' vs e1 e2=>by
  rw [ak (fun z:l' =r=>h.nr (by rw [← z];exact aai e1))]
  exact h.gK.2.2 i l' vs e1 e2
 refine ⟨⟨by rw [ah,aaA];rfl,by simp [h.gK.2.1],tH h.gK.2.1 hm (by rw [ak ne];exact e)⟩,?_,?_⟩
 ·exact kE ⟨h.num.1,fun i vs qs e1 e2=>(h.num.2 i vs qs e1 e2).aL st⟩ (n.aL st)
 ·intro z
  rcases aaH.mp z with z | z
  ·exact h.nr z
  ·exact ne (aaD.mp z).symm
inductive eR (K:Frag)(C:Addr)(vs:List V)(H:Hp)(Q:VK)(E_:XK):Prop where
 | mk (a d:Addr) (pins:List aC) (bars:List a8) (kvs:List (Key×V)) (F:Str→Option (Rat×Rat)) (_:vs=[.ref a,.ref d]) (_:s_ K H C a pins bars) (_:pins.length≤100) (_:H d=some (.dK kvs)) (_:z4 K H kvs F) (_:∀(l:Addr) (us:List V) (H' :Hp),ar H H' →H l=none→H' l=some (.lst us)→cv K H' us (cf F pins)→Q (.ref l) H'):eR K C vs H Q E_
theorem dy (pins:List aC):((pins.map fun p=>(p.nm,qa p.sp)).map (·.1))=pins.map (·.nm):=by rw [aaI];rfl
theorem yd:aA ["F","draws","row","pin"] ["F","draws"] (af uV):=sq
theorem Mg {C aM:Addr}(hM:∀H:Hp,dC K H (.ref aM) (0,0))(HI:mg "NO_MOVE"=some (.ref aM))(D:Def K mg "pair_row" uV ["F","draws"])(MP:bE P w K mg base (aX P w) 1 C "pins" ["self"] (eh K C)):Fn P w K mg base (aX P w) 2 "pair_row" ["F","draws"] (eR K C):=by
 refine D.ok yd (fun vs H Q E h=> ?_) (fun f bx A outer s H vs Q E hr h=> ?_)
 ·obtain ⟨a,d,pins,bars,kvs,F,rfl,_⟩:=h
  rfl
 obtain ⟨a,d,pins,bars,kvs,F,rfl,R,lp,hd,hP,q⟩:=h
 refine ⟨_,(ae (aw (i:=2) yd.nd rfl (aan rfl) (bD aa))
  (ae (bo PassesOwn.never rfl (bN (cS (k:=1) (pv 0) hr.mo (pY P w))) (aG (i:=3) yd.nd rfl (aan rfl)) (aj (bF (fN PySem.F.plainAttrs_list PySem.F.slot_list_extend PySem.F.type_list_extend z7 (pv 2) (aq (xt (cy hr) (pv 1) (pv 3) (eZ (v:=.ref aM) rfl HI rfl) ⟨rfl,rfl,rfl,rfl⟩) aa)))))
  (aj (aI (pv 2))))),?_⟩
 refine ⟨(by show 0≤sizeLine;decide),?_⟩
 intro l nl;generalize eX:upd _ l _=H1;have ⟨s1,el⟩:=nw nl eX;clear eX
 have R1:=R.same s1
 obtain ⟨dx,pP,pW,pB,kP,kW,kB,F1,W1⟩:=R1.ex
 refine ⟨_,rfl,a,C,dx,_,_,_,rfl,F1.obj,rfl,MP,a,dx,pP,pW,pB,_,_,kP,kW,kB,rfl,F1,fun lp H2 s2 qJ lJ=> ?_⟩
 rw [dy] at lJ
 have vV:=s1.trans s2
 have y_:lp≠l:=fun z=>by rw [z,el] at qJ;cases qJ
 refine ⟨lp,rfl,⟨_,aT.of lJ⟩,cC (K:=K) (a:=lp) (xs:=(pins.map (·.nm)).map V.str) (fun i σ H' =>∃(o3:Option V) (us:List V),σ=[some (.ref a),some (.ref d),some (.ref l),o3]∧ar H H' ∧H' lp=some (.lst ((pins.map (·.nm)).map V.str))∧H' l=some (.lst us)∧cv K H' us (cf F (pins.take i))) ⟨none,[],rfl,vV,lJ,s2 _ _ el,⟨rfl,fun i u q e=>by simp at e⟩⟩ (fun i σ H' _ h=>by
   obtain ⟨_,_,_,_,h,_⟩:=h
   exact aT.of h) ?_ ?_⟩
 ·rintro i z σ H4 hi ⟨o3,us,rfl,s4,l4,e4,n4⟩
  rw [Wp,Wp] at hi
  obtain ⟨x,hx,rfl⟩:=aaw.mp hi
  obtain ⟨p,hp,rfl⟩:=aaw.mp hx
  have il:i < pins.length:=(be.mp hp).1
  have d4:=s4 _ _ hd
  have g1:dC K H4 ((bV kvs (.inr p.nm)).getD (.ref aM)) (mv F p.nm):=(hP.same s4).SD (hM H4)
  obtain ⟨b,u1,u2,eb,hb,h1,h2⟩:=g1
  have lu:us.length≤200:=by
   have:=n4.1
   rw [fT,aaG] at this
   omega
  refine ⟨_,rfl,.inl ⟨rfl,_,aT.of e4⟩,_,rfl,d,rfl,.inl ⟨_,.inl d4⟩,_,rfl,_,cJ.k (k:=.inr p.nm) d4,l,b,us,[u1,u2],rfl,by rw [eb],e4,hb,by simp;omega,?_⟩
  have st:bf H4 (upd H4 l (.lst (us++[u1,u2]))):=.list e4
  refine ⟨_,us++[u1,u2],rfl,fun c o z=> ?_,?_,ah,?_⟩
  ·rw [ak (ao z nl)]
   exact s4 _ _ z
  ·rw [ak y_]
   exact l4
  ·rw [take_snoc hp,vU]
   have a1:=cv.snoc (K:=K) (n4.aL st) (dq.aL h1 st)
   have a2:=cv.snoc (K:=K) a1 (dq.aL h2 st)
   simpa using a2
 ·rintro σ H4 ⟨o3,us,rfl,s4,l4,e4,n4⟩
  rw [ir,ir,aaQ] at n4
  exact ⟨_,rfl,q l us H4 s4 nl e4 n4⟩
inductive i8 (K:Frag)(C:Addr)(vs:List V)(H:Hp)(Q:VK)(E_:XK):Prop where
 | mk (a d:Addr) (pins:List aC) (bars:List a8) (kvs:List (Key×V)) (F:Str→Option (Rat×Rat)) (_:vs=[.ref a,.ref d]) (_:s_ K H C a pins bars) (_:pins.length≤100) (_:H d=some (.dK kvs)) (_:z4 K H kvs F) (_:(∀kv∈kvs,∃x∈pins.map (·.nm),kv.1=.inr x)) (_:∀(l:Addr) (us:List V) (H' :Hp),ar H H' →H l=none→H' l=some (.lst us)→cv K H' us (cf F pins)→Q (.ref l) H'):i8 K C vs H Q E_
theorem ye:aA ["F","load","pins","pin"] ["F","load"] (af uW):=sq
theorem Mh {C:Addr}(D:Def K mg "load_row" uW ["F","load"])(MP:bE P w K mg base (aX P w) 1 C "pins" ["self"] (eh K C))(yf:Fn P w K mg base (aX P w) 2 "pair_row" ["F","draws"] (eR K C)):Fn P w K mg base (aX P w) 3 "load_row" ["F","load"] (i8 K C):=by
 refine D.ok ye (fun vs H Q E h=> ?_) (fun f bx A outer s H vs Q E hr h=> ?_)
 ·obtain ⟨a,d,pins,bars,kvs,F,rfl,_⟩:=h
  rfl
 obtain ⟨a,d,pins,bars,kvs,F,rfl,R,lp,hd,hP,hk,q⟩:=h
 refine ⟨_,(ae (aw (i:=2) ye.nd rfl (aan rfl) (cS (k:=1) (pv 0) hr.mo (pY P w)))
  (ae (nH (bo PassesOwn.never rfl (zW (pv 1)) (aG (i:=3) ye.nd rfl (aan rfl)) (aj (bG (aU gU (pv 3) (pv 2) rfl) (aj (cp)) aY))))
  (aj (aI (ay yf hr.mo (pY P w) (aq (pv 0) (aq (pv 1) aa))))))),?_⟩
 obtain ⟨dx,pP,pW,pB,kP,kW,kB,F1,W1⟩:=R.ex
 refine ⟨_,rfl,a,C,dx,_,_,_,rfl,F1.obj,rfl,MP,a,dx,pP,pW,pB,_,_,kP,kW,kB,rfl,F1,fun l H1 s1 nl el=> ?_⟩
 rw [dy] at el
 have DH:=s1 _ _ hd
 refine ⟨_,rfl,d,kvs,rfl,DH,fun o=> ?_⟩
 have ld:l≠d:=fun z=>by rw [z,DH] at el;cases el
 refine xE (d:=d) (o:=o) (kvs:=kvs) (fun t σ H' =>∃(o2:Option V),σ=[some (.ref a),some (.ref d),some (.ref l),o2]∧H' =upd H1 d (.fD o (.dK kvs))) ⟨none,rfl,rfl⟩ (fun t σ H' _ h=>by
   obtain ⟨_,_,rfl⟩:=h
   exact ah) ?_ ?_
 ·rintro t k y σ H6 v9 ⟨o2,rfl,rfl⟩
  obtain ⟨x,hx,ex⟩:=hk _ (aai v9)
  have JH :k=.inr x:=ex
  subst JH
  refine ⟨_,rfl,_,rfl,l,_,rfl,.inl (aT.of (by rw [ak ld];exact el)),rfl,mq _,_,rfl,?_⟩
  refine bI (fun c=> ?_) (fun _=>⟨_,rfl,rfl⟩)
  have c' :(!Ji (.str x) ((pins.map (·.nm)).map V.str))=true:=c
  rw [kj,decide_eq_true hx] at c'
  cases c'
 ·rintro σ H6 ⟨o2,rfl,rfl⟩
  refine ⟨d,o,kvs,ah,fun o' u' z=>(by have z' :H d=some (.fD o' u'):=z;rw [hd] at z';cases z'),?_⟩
  have s2:ar H (upd (upd H1 d (.fD o (.dK kvs))) d (.dK kvs)):=fun b o' e=>by
   by_cases n:b=d
   ·subst n
    rw [hd] at e
    rw [ah]
    exact e
   ·rw [ak n,ak n]
    exact s1 _ _ e
  generalize upd (upd H1 d (.fD o (.dK kvs))) d (.dK kvs)=H2 at s2 ⊢
  refine ⟨_,rfl,_,rfl,a,d,pins,bars,kvs,F,rfl,R.same s2,lp,s2 _ _ hd,hP.same s2,fun l' us H3 s3 n3 e3 nm=> ?_⟩
  exact q l' us H3 (s2.trans s3) (s2.free n3) e3 nm
inductive kF (K:Frag)(C:Addr)(vs:List V)(H:Hp)(Q:VK)(E_:XK):Prop where
 | mk (a:Addr) (pins:List aC) (bars:List a8) (b:a8) (_:vs=[.ref a,.str b.one.nm,.str b.other.nm]) (_:s_ K H C a pins bars) (_:cU pins bars) (_:b.one∈pins) (_:b.other∈pins) (_:b.one.nm≠b.other.nm) (_:∀(l:Addr) (us:List V) (H' :Hp),ar H H' →H l=none→H' l=some (.lst us)→cv K H' us (cf (ck b) pins)→Q (.ref l) H'):kF K C vs H Q E_
theorem HJ (k:Key)(v:V):bW [] [(k,v)]=[(k,v)]:=rfl
theorem HK {k j:Key}(v u:V)(h:k≠j):bW [] [(k,v),(j,u)]=[(k,v),(j,u)]:=by
 show putK [(k,v)] j u=_
 rw [cF]
 ·rfl
 ·rw [bh h]
  rfl
theorem Mi:aA ["F","one","other"] ["F","one","other"] (af uX):=sq
theorem Mj {C:Addr}(D:Def K mg "bar_row" uX ["F","one","other"])(Ml:Fn P w K mg base (aX P w) 36 "arm_between" ["F","one","other"] (yb K C))(yf:Fn P w K mg base (aX P w) 2 "pair_row" ["F","draws"] (eR K C)):Fn P w K mg base (aX P w) 37 "bar_row" ["F","one","other"] (kF K C):=by
 refine D.ok Mi (fun vs H Q E h=> ?_) (fun f bx A outer s H vs Q E hr h=> ?_)
 ·obtain ⟨a,pins,bars,b,rfl,_⟩:=h
  rfl
 obtain ⟨a,pins,bars,b,rfl,R,g,m1,m2,ne,q⟩:=h
 refine ⟨_,(aj (aI (ay yf hr.mo pX (aq (pv 0) (aq (sR (kb (pv 1) (ay Ml hr.mo pX (aq (pv 0) (aq (pv 1) (aq (pv 2) aa)))) (kb (pv 2) (ay Ml hr.mo pX (aq (pv 0) (aq (pv 2) (aq (pv 1) aa)))) sQ)) rfl rfl (aky _ _) (by decide)) aa))))),?_⟩
 refine ⟨_,rfl,fun d nd=> ?_⟩
 have s1:=aD nd (.dK [])
 have e1:(upd H d (.dK [])) d=some (.dK []):=ah
 generalize upd H d (.dK [])=H1 at s1 e1 ⊢
 refine ⟨_,rfl,_,rfl,_,rfl,_,rfl,a,pins,bars,b.one,b.other,rfl,R.same s1,g,m1,m2,fun v1 H2 s2 h2=> ?_⟩
 refine ⟨_,rfl,_,rfl,_,rfl,_,rfl,a,pins,bars,b.other,b.one,rfl,(R.same s1).same s2,g,m2,m1,fun v2 H3 s3 h3=> ?_⟩
 have e3:=s3 _ _ (s2 _ _ e1)
 refine ⟨e3,[(.inr b.one.nm,v1),(.inr b.other.nm,v2)],rfl,(by show 2≤15;decide),?_⟩
 rw [HK _ _ (fun z=>ne (aa9 z))]
 have st:bf H3 (upd H3 d (.dK [(.inr b.one.nm,v1),(.inr b.other.nm,v2)])):=.dict e3
 have e4:(upd H3 d (.dK [(.inr b.one.nm,v1),(.inr b.other.nm,v2)])) d=some (.dK [(.inr b.one.nm,v1),(.inr b.other.nm,v2)]):=ah
 have s4:ar H (upd H3 d (.dK [(.inr b.one.nm,v1),(.inr b.other.nm,v2)])):=fun c o z=>by
  rw [ak (ao z nd)]
  exact s3 _ _ (s2 _ _ (s1 _ _ z))
 generalize upd H3 d (.dK [(.inr b.one.nm,v1),(.inr b.other.nm,v2)])=H4 at st e4 s4 ⊢
 refine ⟨a,d,pins,bars,_,ck b,rfl,R.same s4,aak g.lp (by decide),e4,fun x=> ?_,fun l us H5 s5 n5 e5 nm=>q l us H5 (s4.trans s5) (s4.free n5) e5 nm⟩
 by_cases c1:x=b.one.nm
 ·subst c1
  exact .inr ⟨v1,fS b.one b.other,bH rfl,by unfold ck;rw [if_pos rfl],(h2.same s3).aL st⟩
 ·by_cases c2:x=b.other.nm
  ·subst c2
   exact .inr ⟨v2,fS b.other b.one,by rw [bh (fun z=>c1 (aa9 z).symm),bH rfl],by unfold ck;rw [if_neg c1,if_pos rfl],h3.aL st⟩
  ·exact .inl ⟨by rw [bh (fun z=>c1 (aa9 z).symm),bh (fun z=>c2 (aa9 z).symm)];rfl,by unfold ck;rw [if_neg c1,if_neg c2]⟩
inductive fm (K:Frag)(C:Addr)(vs:List V)(H:Hp)(Q:VK)(E_:XK):Prop where
 | mk (a:Addr) (pins:List aC) (bars:List a8) (_:vs=[.ref a]) (_:s_ K H C a pins bars) (_:cU pins bars) (_:∀(r:Addr) (ls:List Addr) (bX:List (List V)) (H' :Hp),ar H H' →H r=none→eQ K H' r ls bX (b6 pins bars)→Q (.ref r) H'):fm K C vs H Q E_
theorem nY (bars:List a8):((bars.map fun b=>(b.nm,b.one.nm,b.other.nm)).map (·.1))=bars.map (·.nm):=by rw [aaI];rfl
theorem ik (pins:List aC)(h:∀p∈pins,p.ws.length≤2):(pins.flatMap fun p=>p.ws).length≤2*pins.length:=by
 induction pins with
 | nil=>simp
 | cons p ps ih=>
  have h1:=h p aax
  have h2:=ih fun q hq=>h q (aav _ hq)
  rw [aaB,aap,aaP]
  omega
theorem fU (all pins:List aC):(pins.flatMap fun p=>ig all p).length=(pins.flatMap fun p=>p.ws).length:=by
 induction pins with
 | nil=>rfl
 | cons p ps ih=>
  rw [aaB,aaB,aap,aap,ih]
  unfold ig
  rw [ir]
theorem mC (pins:List aC)(bars:List a8):(b6 pins bars).length=(pins.flatMap fun p=>p.ws).length+bars.length:=by
 unfold b6
 rw [aap,fU,ir]
theorem mD:aA ["F","rows","pin","way","bar","two"] ["F"] (af uY):=sq
theorem Mm {C:Addr}(D:Def K mg "draw_rows" uY ["F"])(MP:bE P w K mg base (aX P w) 1 C "pins" ["self"] (eh K C))(MW:bE P w K mg base (aX P w) 2 C "ways" ["self","pin"] (kD K C))(MB:bE P w K mg base (aX P w) 1 C "bars" ["self"] (i7 K C))(ME:bE P w K mg base (aX P w) 1 C "ends" ["self","bar"] (nR K C))
  (yf:Fn P w K mg base (aX P w) 2 "pair_row" ["F","draws"] (eR K C)) (Tn:Fn P w K mg base (aX P w) 37 "bar_row" ["F","one","other"] (kF K C)):Fn P w K mg base (aX P w) 38 "draw_rows" ["F"] (fm K C):=by
 refine D.ok mD (fun vs H Q E h=> ?_) (fun f bx A outer s H vs Q E hr h=> ?_)
 ·obtain ⟨a,pins,bars,rfl,_⟩:=h
  rfl
 obtain ⟨a,pins,bars,rfl,R,g,q⟩:=h
 refine ⟨_,(ae (aw (i:=1) mD.nd rfl (aan rfl) (bD aa))
  (ae (bo PassesOwn.never rfl (bN (cS (k:=1) (pv 0) hr.mo (pY P w))) (aG (i:=2) mD.nd rfl (aan rfl)) (aj (bo PassesOwn.never rfl (bN (cZ (k:=2) (pv 0) hr.mo (pY P w) (aq (pv 2) aa))) (aG (i:=3) mD.nd rfl (aan rfl)) (aj (bF (fN PySem.F.plainAttrs_list PySem.F.slot_list_append PySem.F.type_list_append cg (pv 1) (aq (ay yf hr.mo (pY P w) (aq (pv 0) (aq (sR (kb (pv 2) (pv 3) sQ) rfl rfl (aky _ _) (by decide)) aa))) aa)))))))
  (ae (bo PassesOwn.never rfl (bN (cS (k:=1) (pv 0) hr.mo (pY P w))) (aG (i:=4) mD.nd rfl (aan rfl)) (ae (aw (i:=5) mD.nd rfl (aan rfl) (cZ (k:=1) (pv 0) hr.mo (pY P w) (aq (pv 4) aa)))
   (aj (bF (fN PySem.F.plainAttrs_list PySem.F.slot_list_append PySem.F.type_list_append cg (pv 1) (aq (ay Tn hr.mo (pY P w) (aq (pv 0) (aq (aJ (pv 5)) (aq (aJ (pv 5)) aa)))) aa))))))
  (aj (aI (pv 1)))))),?_⟩
 refine ⟨(by show 0≤sizeLine;decide),?_⟩
 intro r nr;generalize eX:upd _ r _=H1;have ⟨s1,er⟩:=nw nr eX;clear eX
 have big:(40:Nat)≤sizeLine:=by decide
 have wl:=ik pins g.lw
 have gl:=g.lp
 have R0:eQ K H1 r [] [] []:=⟨⟨er,rfl,fun i l vs e=>by simp at e⟩,⟨rfl,fun i vs qs e=>by simp at e⟩,by simp⟩
 have R1:=R.same s1
 obtain ⟨dx,pP,pW,pB,kP,kW,kB,F1,W1⟩:=R1.ex
 refine ⟨_,rfl,a,C,dx,_,_,_,rfl,F1.obj,rfl,MP,a,dx,pP,pW,pB,_,_,kP,kW,kB,rfl,F1,fun lp H2 s2 qJ lJ=> ?_⟩
 rw [dy] at lJ
 have vV:=s1.trans s2
 have y_:lp≠r:=fun z=>by rw [z,er] at qJ;cases qJ
 refine ⟨lp,rfl,⟨_,aT.of lJ⟩,cC (K:=K) (a:=lp) (xs:=(pins.map (·.nm)).map V.str) (fun i σ H' =>∃(o2 o3:Option V) (ls:List Addr) (bX:List (List V)),σ=[some (.ref a),some (.ref r),o2,o3,none,none]∧ar H H' ∧H' lp=some (.lst ((pins.map (·.nm)).map V.str))∧eQ K H' r ls bX ((pins.take i).flatMap fun p=>ig pins p)) ⟨none,none,[],[],rfl,vV,lJ,R0.same s2⟩ (fun i σ H' _ h=>by
   obtain ⟨_,_,_,_,_,_,h,_⟩:=h
   exact aT.of h) ?_ ?_⟩
 ·rintro i z σ H4 hi ⟨o2,o3,ls,bX,rfl,s4,l4,RR⟩
  rw [Wp,Wp] at hi
  obtain ⟨x,hx,rfl⟩:=aaw.mp hi
  obtain ⟨p,hp,rfl⟩:=aaw.mp hx
  have mp:p∈pins:=aai hp
  have R4:=R.same s4
  obtain ⟨dx,pP,pW,pB,kP,kW,kB,F4,W4⟩:=R4.ex
  have To:p.nm∈(pins.map fun p=>(p.nm,qa p.sp)).map (·.1):=by rw [dy];exact aal.mpr ⟨p,mp,rfl⟩
  refine ⟨_,rfl,a,C,dx,_,_,_,rfl,F4.obj,rfl,MW,_,rfl,a,dx,pP,pW,pB,_,_,kP,kW,kB,_,p.nm,p.ws,rfl,F4,W4,DJ g.np,aal.mpr ⟨p,mp,rfl⟩,To,fun m us H5 s5 n5 e5 p5=> ?_⟩
  have lu:us.length=p.ws.length:=Paired.length p5
  have Mn:=s4.trans s5
  have mr:m≠r:=fun z=>by rw [z,RR.gK.1] at n5;cases n5
  refine ⟨m,rfl,⟨_,aT.of e5⟩,cC (K:=K) (a:=m) (xs:=us) (fun j σ H' =>∃(o3:Option V) (ls:List Addr) (bX:List (List V)),σ=[some (.ref a),some (.ref r),some (.str p.nm),o3,none,none]∧ar H H' ∧H' lp=some (.lst ((pins.map (·.nm)).map V.str))∧H' m=some (.lst us)∧gd K H' us p.ws∧eQ K H' r ls bX (((pins.take i).flatMap fun p=>ig pins p)++(p.ws.take j).map fun w=>cf (c9 p.nm w) pins)) ⟨o3,ls,bX,rfl,Mn,s5 _ _ l4,e5,p5,by simpa using RR.same s5⟩ (fun j σ H' _ h=>by
    obtain ⟨_,_,_,_,_,_,h,_⟩:=h
    exact aT.of h) ?_ ?_⟩
  ·rintro j u σ H6 hu ⟨o3,ls,bX,rfl,s6,l6,e6,p6,qm⟩
   obtain ⟨w,ew,hw⟩:=aF p6 hu
   have jl:=(be.mp hu).1
   refine ⟨_,rfl,.inl ⟨rfl,_,aT.of qm.gK.1⟩,_,rfl,fun d nd=> ?_⟩
   have t1:=aD nd (.dK [])
   have d1:(upd H6 d (.dK [])) d=some (.dK []):=ah
   generalize upd H6 d (.dK [])=H7 at t1 d1 ⊢
   refine ⟨_,rfl,_,rfl,d1,[(.inr p.nm,u)],rfl,(by show 1≤15;decide),?_⟩
   rw [HJ]
   have st:bf H7 (upd H7 d (.dK [(.inr p.nm,u)])):=.dict d1
   have d8:(upd H7 d (.dK [(.inr p.nm,u)])) d=some (.dK [(.inr p.nm,u)]):=ah
   have t8:ar H6 (upd H7 d (.dK [(.inr p.nm,u)])):=fun c o z=>by
    rw [ak (ao z nd)]
    exact t1 _ _ z
   have hw8:=(hw.same t1).aL st
   generalize upd H7 d (.dK [(.inr p.nm,u)])=H8 at d8 t8 hw8 ⊢
   have s8:=s6.trans t8
   refine ⟨a,d,pins,bars,_,c9 p.nm w,rfl,R.same s8,aak g.lp (by decide),d8,fun x=> ?_,fun l gH H9 t9 n9 e9 nm=> ?_⟩
   ·by_cases c1:x=p.nm
    ·subst c1
     exact .inr ⟨u,w,bH rfl,by unfold c9;rw [if_pos rfl],hw8⟩
    ·exact .inl ⟨by rw [bh (fun z=>c1 (aa9 z).symm)];rfl,by unfold c9;rw [if_neg c1]⟩
   have Tp:=t8.trans t9
   have we:=qm.same Tp
   have lr:l≠r:=fun z=>by rw [z,t8 _ _ qm.gK.1] at n9;cases n9
   have Rc:ls.length≤14:=by
    have h1:=qm.gK.2.1
    have h2:=qm.num.1
    rw [aap,ir,aaG,fU] at h2
    have h3:((pins.take i).flatMap fun p=>p.ws).length+p.ws.length≤(pins.flatMap fun p=>p.ws).length:=by
     have e:pins=pins.take i++p::pins.drop (i+1):=by
      have lt:=(be.mp hp).1
      have e2:=(be.mp hp).2
      rw [← e2,ah_,abR]
     have e3:=congrArg (fun l:List aC=>(l.flatMap fun p=>p.ws).length) e
     simp only [abc,aaB,aap] at e3
     omega
    omega
   refine ⟨r,_,_,rfl,rfl,we.gK.1,(by rw [ir];omega),?_⟩
   have RN:=we.push e9 lr nm
   have tr:bf H9 (upd H9 r (.lst (ls.map V.ref++[.ref l]))):=.list we.gK.1
   have kk:∀b o,b≠r→H6 b=some o→(upd H9 r (.lst (ls.map V.ref++[.ref l]))) b=some o:=fun b o n e=>by rw [ak n];exact Tp _ _ e
   refine ⟨_,ls++[l],bX++[gH],rfl,fun b o e=> ?_,kk _ _ y_ l6,kk _ _ mr e6,(p6.same Tp).aL tr,?_⟩
   ·exact kk _ _ (ao e nr) (s6 _ _ e)
   ·rw [take_snoc ew,aaA, ← abv]
    exact RN
  ·rintro σ H6 ⟨o3,ls,bX,rfl,s6,l6,e6,p6,qm⟩
   refine ⟨_,_,ls,bX,rfl,s6,l6,?_⟩
   rw [lu,aaQ] at qm
   rw [take_snoc hp,abc]
   simpa [ig] using qm
 ·rintro σ H4 ⟨o2,o3,ls,bX,rfl,s4,l4,RR⟩
  rw [ir,ir,aaQ] at RR
  have R4:=R.same s4
  obtain ⟨dx,pP,pW,pB,kP,kW,kB,F4,W4⟩:=R4.ex
  refine ⟨_,rfl,a,C,dx,_,_,_,rfl,F4.obj,rfl,MB,a,dx,pP,pW,pB,_,_,kP,kW,kB,rfl,F4,fun lb H5 s5 Rg yg=> ?_⟩
  rw [nY] at yg
  have bne:lb≠r:=fun z=>by rw [z,RR.gK.1] at Rg;cases Rg
  refine ⟨lb,rfl,⟨_,aT.of yg⟩,cC (K:=K) (a:=lb) (xs:=(bars.map (·.nm)).map V.str) (fun i σ H' =>∃(o4 o5:Option V) (ls:List Addr) (bX:List (List V)),σ=[some (.ref a),some (.ref r),o2,o3,o4,o5]∧ar H H' ∧H' lb=some (.lst ((bars.map (·.nm)).map V.str))∧eQ K H' r ls bX ((pins.flatMap fun p=>ig pins p)++(bars.take i).map fun b=>cf (ck b) pins)) ⟨none,none,ls,bX,rfl,s4.trans s5,yg,by simpa using RR.same s5⟩ (fun i σ H' _ h=>by
    obtain ⟨_,_,_,_,_,_,h,_⟩:=h
    exact aT.of h) ?_ ?_⟩
  ·rintro i z σ H6 hi ⟨o4,o5,ls,bX,rfl,s6,l6,qm⟩
   rw [Wp,Wp] at hi
   obtain ⟨x,hx,rfl⟩:=aaw.mp hi
   obtain ⟨b,hb,rfl⟩:=aaw.mp hx
   have mb:b∈bars:=aai hb
   have il:=(be.mp hb).1
   have R6:=R.same s6
   obtain ⟨dx,pP,pW,pB,kP,kW,kB,F6,W6⟩:=R6.ex
   refine ⟨_,rfl,a,C,dx,_,_,_,rfl,F6.obj,rfl,ME,_,rfl,a,dx,pP,pW,pB,_,_,kP,kW,kB,b.nm,b.one.nm,b.other.nm,rfl,F6,Md g.nb,aal.mpr ⟨b,mb,rfl⟩,fun p rd=> ?_⟩
   have tp:bQ K H6 p [.str b.one.nm,.str b.other.nm]:=.inl rd
   obtain ⟨m1,m2,m3⟩:=g.ends b mb
   refine ⟨_,rfl,.inl ⟨rfl,_,aT.of qm.gK.1⟩,_,rfl,_,rfl,p,_,_,_,rfl,rfl,tp,g9,_,rfl,p,_,_,_,rfl,rfl,tp,gP,?_⟩
   refine ⟨a,pins,bars,b,rfl,R6,g,m1,m2,m3,fun l gH H9 t9 n9 e9 nm=> ?_⟩
   have we:=qm.same t9
   have lr:l≠r:=fun z=>by rw [z,qm.gK.1] at n9;cases n9
   have Rc:ls.length≤22:=by
    have h1:=qm.gK.2.1
    have h2:=qm.num.1
    rw [aap,ir,aaG,fU] at h2
    have:=g.lb
    omega
   refine ⟨r,_,_,rfl,rfl,we.gK.1,(by rw [ir];omega),?_⟩
   have RN:=we.push e9 lr nm
   have kk:∀c o,c≠r→H6 c=some o→(upd H9 r (.lst (ls.map V.ref++[.ref l]))) c=some o:=fun c o n e=>by rw [ak n];exact t9 _ _ e
   refine ⟨_,_,ls++[l],bX++[gH],rfl,fun c o e=>kk _ _ (ao e nr) (s6 _ _ e),kk _ _ bne l6,?_⟩
   rw [take_snoc hb,aaA, ← abv]
   exact RN
  ·rintro σ H6 ⟨o4,o5,ls,bX,rfl,s6,l6,qm⟩
   rw [ir,ir,aaQ] at qm
   exact ⟨_,rfl,q r ls bX H6 s6 nr qm⟩
theorem yh {xs:List V}{i j:Nat}(h:i≤j)(hj:j≤xs.length):dE xs (some (i:Int)) (some (j:Int))=(xs.drop i).take (j - i):=by
 unfold dE
 rw [HT.jE,HT.jE,abX hj,abX (show i≤xs.length by omega)]
theorem fq {α β:Type}{R:α→β→Prop}:∀{l:List α} {m:List β} (n:Nat),Paired R l m→Paired R (l.drop n) (m.drop n)
 | _,_,0,h=>h
 | _,_,_+1,.nil=>.nil
 | _,_,n+1,.cons _ t=>fq n t
theorem ft {α β:Type}{R:α→β→Prop}:∀{l:List α} {m:List β} (n:Nat),Paired R l m→Paired R (l.take n) (m.take n)
 | _,_,0,_=>.nil
 | _,_,_+1,.nil=>.nil
 | _,_,n+1,.cons h t=>.cons h (ft n t)
theorem ip:∀(more kvs:List (Key×V)),((kvs++more).map (·.1)).Nodup→bW kvs more=kvs++more
 | [],kvs,_=>by simp [bW]
 | p::r,kvs,h=>by
  have e:bW kvs (p::r)=bW (putK kvs p.1 p.2) r:=rfl
  have hn:p.1∉kvs.map (·.1):=fun z=>by
   rw [aaA,aaj,aby] at h
   exact h.2.2 p.1 z p.1 aax rfl
  rw [e,cF _ (bY hn),ip r (kvs++[(p.1,p.2)]) (by rw [abv];exact h),abv]
  rfl
theorem tI {R:V→Rat→Prop}:∀{bars:List a8} {ys:List V} {rs:List Rat},(bars.map (·.nm)).Nodup→bars.length=rs.length→Paired R ys rs→
  ∃T:Str→Rat,bars.map (fun b=>T b.nm)=rs∧(((bars.map fun b=>(aaT b.nm:Key)).zip ys).map (·.1))=bars.map (fun b=>(aaT b.nm:Key))∧∀b∈bars,∃v,bV ((bars.map fun b=>(aaT b.nm:Key)).zip ys) (.inr b.nm)=some v∧R v (T b.nm)
 | [],_,[],_,_,.nil=>⟨fun _=>0,rfl,rfl,by simp⟩
 | _::_,[],_,_,hl,.nil=>by simp at hl
 | b::bs,y::ys,r::rs,nd,hl,.cons h t=>by
  rw [aaj,aaX] at nd
  obtain ⟨T,h1,h2,h3⟩:=tI nd.2 (by simpa using hl) t
  have ne:∀c∈bs,c.nm≠b.nm:=fun c hc z=>nd.1 (z▸aal.mpr ⟨c,hc,rfl⟩)
  obtain ⟨T',t1,t2⟩:∃T' :Str→Rat,T' b.nm=r∧∀x,x≠b.nm→T' x=T x:=⟨fun x=>if x=b.nm then r else T x,if_pos rfl,fun x h=>if_neg h⟩
  refine ⟨T',?_,?_,fun c hc=> ?_⟩
  ·have em:bs.map (fun c=>T' c.nm)=rs:=by
    rw [← h1]
    exact aaR fun c hc=>t2 _ (ne c hc)
   rw [aaj,t1,em]
  ·rw [aaj,aki,aaj,h2]
  ·rw [aaj,aki]
   rcases aaJ.mp hc with e | hc
   ·subst e
    exact ⟨y,bH rfl,by rw [t1];exact h⟩
   ·obtain ⟨v,e1,e2⟩:=h3 c hc
    refine ⟨v,?_,by rw [t2 _ (ne c hc)];exact e2⟩
    rw [bh (fun z=>ne c hc (aa9 z).symm)]
    exact e1
def bq (pins:List aC):Nat:=(pins.flatMap fun p=>p.ws).length
theorem kG (ps:List aC)(p:aC):bq (ps++[p])=bq ps+p.ws.length:=by
 unfold bq
 rw [abc,aap]
 simp
theorem rO {pins:List aC}{i:Nat}{p:aC}(h:pins[i]? =some p):bq (pins.take i)+p.ws.length≤bq pins:=by
 have e:pins=pins.take i++p::pins.drop (i+1):=by
  have lt:=(be.mp h).1
  have e2:=(be.mp h).2
  rw [← e2,ah_,abR]
 have e3:=congrArg (fun l:List aC=>(l.flatMap fun p=>p.ws).length) e
 simp only [abc,aaB,aap] at e3
 unfold bq
 omega
structure Tq (K:Frag)(H H' :Hp)(pins:List aC)(bars:List a8)(dT dU:Addr)(kT kU:List (Key×V))(T:Str→Rat)(U:Str→List Rat)(L:Str→Addr):Prop where
 nT:H dT=none
 nU:H dU=none
 ne:dT≠dU
 hT:H' dT=some (.dK kT)
 hU:H' dU=some (.dK kU)
 yi:kT.map (·.1)=bars.map (fun b=>(aaT b.nm:Key))
 yj:kU.map (·.1)=pins.map (fun p=>(aaT p.nm:Key))
 tT:∀b∈bars,∃v,bV kT (.inr b.nm)=some v∧dq K H' v (T b.nm)
 tU:∀p∈pins,∃vs,bV kU (.inr p.nm)=some (.ref (L p.nm))∧H (L p.nm)=none∧H' (L p.nm)=some (.lst vs)∧Paired (dq K H') vs (U p.nm)
 lU:∀p∈pins,(U p.nm).length=p.ws.length
 inj:∀p∈pins,∀q∈pins,L p.nm=L q.nm→p.nm=q.nm
inductive AO (K:Frag)(C:Addr)(vs:List V)(H:Hp)(Q:VK)(E_:XK):Prop where
 | mk (a nl:Addr) (pins:List aC) (bars:List a8) (us:List V) (rs:List Rat) (_:vs=[.ref a,.ref nl]) (_:s_ K H C a pins bars) (_:cU pins bars) (_:H nl=some (.lst us)) (_:Paired (dq K H) us rs) (_:rs.length=bq pins+bars.length) (_:∀(T:Str→Rat) (U:Str→List Rat) (L:Str→Addr) (p dT dU:Addr) (kT kU:List (Key×V)) (H' :Hp),ar H H' →rs=(pins.flatMap fun p=>U p.nm)++bars.map (fun b=>T b.nm)→H' p=some (.tup [.ref dT,.ref dU])→Tq K H H' pins bars dT dU kT kU T U L→Q (.ref p) H'):AO K C vs H Q E_
theorem rP {ps:List aC}{U W:Str→List Rat}(h:∀p∈ps,U p.nm=W p.nm):(ps.flatMap fun p=>U p.nm)=ps.flatMap fun p=>W p.nm:=by
 induction ps with
 | nil=>rfl
 | cons p ps ih=>
  rw [aaB,aaB,h p aax,ih fun q hq=>h q (aav _ hq)]
theorem kH:aA ["F","numbers","pushes","at","pin","behind","pulls"] ["F","numbers"] (af uZ):=sq
theorem Mo {C:Addr}(D:Def K mg "pulls_and_pushes" uZ ["F","numbers"])(aZ:mg "len"=none)(rQ:mg "dict"=none)(gm:mg "zip"=none)(MP:bE P w K mg base (aX P w) 1 C "pins" ["self"] (eh K C))(MW:bE P w K mg base (aX P w) 2 C "ways" ["self","pin"] (kD K C))(MB:bE P w K mg base (aX P w) 1 C "bars" ["self"] (i7 K C)):
  Fn P w K mg base (aX P w) 3 "pulls_and_pushes" ["F","numbers"] (AO K C):=by
 refine D.ok kH (fun vs H Q E h=> ?_) (fun f bx A outer s H vs Q E hr h=> ?_)
 ·obtain ⟨a,nl,pins,bars,us,rs,rfl,_⟩:=h
  rfl
 obtain ⟨a,nl,pins,bars,us,rs,rfl,R,g,hn,hu,hl,q⟩:=h
 have lu:us.length=rs.length:=Paired.length hu
 have wl:bq pins≤2*pins.length:=ik pins g.lw
 have gl:=g.lp
 have gb:=g.lb
 refine ⟨_,(ae (aw (i:=2) kH.nd rfl (aan rfl) dI)
  (ae (aw (i:=3) kH.nd rfl (aan rfl) ag)
  (ae (bo PassesOwn.never rfl (bN (cS (k:=1) (pv 0) hr.mo (pY P w))) (aG (i:=4) kH.nd rfl (aan rfl)) (ae (aw (i:=5) kH.nd rfl (aan rfl) (aH bO (pv 3) (aQ aE rfl aZ bT (aq (cZ (k:=2) (pv 0) hr.mo (pY P w) (aq (pv 4) aa)) aa))))
   (ae (d6 (cy hr) (pv 2) (pv 4) (cQ fe (pv 1) (dc (pv 3)) (dc (pv 5))) rfl)
   (aj (aw (i:=3) kH.nd rfl (aan rfl) (pv 5))))))
  (ae (aw (i:=6) kH.nd rfl (aan rfl) (xQ rfl rfl rQ rfl gm (aq (cS (k:=1) (pv 0) hr.mo (pY P w)) (aq (cQ fe (pv 1) (dc (pv 3)) d3) aa))))
  (aj (aI (aR (aq (pv 6) (aq (pv 2) aa))))))))),?_⟩
 intro dU nU
 have s1:=aD nU (.dK [])
 have e1:(upd H dU (.dK [])) dU=some (.dK []):=ah
 generalize upd H dU (.dK [])=H1 at s1 e1 ⊢
 have R1:=R.same s1
 obtain ⟨dx,pP,pW,pB,kP,kW,kB,F1,W1⟩:=R1.ex
 refine ⟨_,rfl,a,C,dx,_,_,_,rfl,F1.obj,rfl,MP,a,dx,pP,pW,pB,_,_,kP,kW,kB,rfl,F1,fun lp H2 s2 qJ lJ=> ?_⟩
 rw [dy] at lJ
 have vV:=s1.trans s2
 have y_:lp≠dU:=fun z=>by rw [z,e1] at qJ;cases qJ
 refine ⟨lp,rfl,⟨_,aT.of lJ⟩,cC (K:=K) (a:=lp) (xs:=(pins.map (·.nm)).map V.str) (fun i σ H' =>∃(o4 o5:Option V) (kU:List (Key×V)) (U:Str→List Rat) (L:Str→Addr),σ=[some (.ref a),some (.ref nl),some (.ref dU),some (.int (bq (pins.take i):Int)),o4,o5,none]∧ar H H' ∧H' lp=some (.lst ((pins.map (·.nm)).map V.str))∧H' dU=some (.dK kU)∧kU.map (·.1)=(pins.take i).map (fun p=>(aaT p.nm:Key))∧((pins.take i).flatMap fun p=>U p.nm)=rs.take (bq (pins.take i))∧
   (∀p∈pins.take i,∃vs,bV kU (.inr p.nm)=some (.ref (L p.nm))∧H (L p.nm)=none∧H' (L p.nm)=some (.lst vs)∧Paired (dq K H') vs (U p.nm))∧(∀p∈pins.take i,(U p.nm).length=p.ws.length)∧(∀p∈pins.take i,∀q∈pins.take i,L p.nm=L q.nm→p.nm=q.nm))
   ⟨none,none,[],fun _=>[],fun _=>0,rfl,vV,lJ,s2 _ _ e1,rfl,rfl,by simp,by simp,by simp⟩ (fun i σ H' _ h=>by
   obtain ⟨_,_,_,_,_,_,_,h,_⟩:=h
   exact aT.of h) ?_ ?_⟩
 ·rintro i z σ H4 hi ⟨o4,o5,kU,U,L,rfl,s4,l4,e4,ks,fl,tU,lU,inj⟩
  rw [Wp,Wp] at hi
  obtain ⟨x,hx,rfl⟩:=aaw.mp hi
  obtain ⟨p,hp,rfl⟩:=aaw.mp hx
  have mp:p∈pins:=aai hp
  have il:i < pins.length:=(be.mp hp).1
  have R4:=R.same s4
  obtain ⟨dx,pP,pW,pB,kP,kW,kB,F4,W4⟩:=R4.ex
  have To:p.nm∈(pins.map fun p=>(p.nm,qa p.sp)).map (·.1):=by rw [dy];exact aal.mpr ⟨p,mp,rfl⟩
  refine ⟨_,rfl,_,rfl,a,C,dx,_,_,_,rfl,F4.obj,rfl,MW,_,rfl,a,dx,pP,pW,pB,_,_,kP,kW,kB,_,p.nm,p.ws,rfl,F4,W4,DJ g.np,aal.mpr ⟨p,mp,rfl⟩,To,fun m vs H5 s5 n5 e5 p5=> ?_⟩
  have lv:vs.length=p.ws.length:=Paired.length p5
  refine ⟨m,_,rfl,.inl (aT.of e5),_,_,rfl,rfl,?_⟩
  have tk:=take_snoc hp
  have wn:bq (pins.take (i+1))=bq (pins.take i)+p.ws.length:=by rw [tk,kG]
  have wt:=rO hp
  have eb:(bq (pins.take i):Int)+((vs.length:Nat):Int)=((bq (pins.take (i+1)):Nat):Int):=by rw [wn,lv];omega
  have AQ:=s4.trans s5
  have AH:=AQ _ _ hn
  dsimp only
  rw [eb]
  refine ⟨_,rfl,_,rfl,_,rfl,_,rfl,_,rfl,nl,_,rfl,aT.of AH,?_⟩
  rw [yh (by omega) (by omega)]
  intro m2 n6;generalize eX:upd _ m2 _=H6;have ⟨s6,e6⟩:=nw n6 eX;clear eX
  have DK:=s6 _ _ (s5 _ _ e4)
  have lk:kU.length≤7:=by
   have z:=congrArg abk ks
   rw [ir,ir,aaG] at z
   omega
  refine ⟨_,rfl,_,rfl,dU,_,rfl,iR.k (k:=.inr p.nm) DK (aar (show kU.length≤1000 by omega) (by decide)),?_⟩
  have fresh:(aaT p.nm:Key)∉kU.map (·.1):=by
   rw [ks]
   intro z
   obtain ⟨b',fZ,Lm⟩:=aal.mp z
   exact dO (nm:=aC.nm) g.np hp fZ (aa9 Lm)
  have pk:putK kU (.inr p.nm) (.ref m2)=kU++[(.inr p.nm,.ref m2)]:=cF _ (bY fresh)
  have t6:bf H6 (upd H6 dU (.dK (putK kU (.inr p.nm) (.ref m2)))):=.dict DK
  have qI:=s5.trans s6
  have md:m2≠dU:=fun z=>by rw [z,s5 _ _ e4] at n6;cases n6
  have kk:∀b o,b≠dU→H4 b=some o→(upd H6 dU (.dK (putK kU (.inr p.nm) (.ref m2)))) b=some o:=fun b o n e=>by rw [ak n];exact qI _ _ e
  have ne:∀p' ∈pins.take i,p'.nm≠p.nm:=fun p' iq =>dO (nm:=aC.nm) g.np hp iq
  have nZ :∀p' ∈pins.take (i+1),p' ∈pins.take i∨p' =p:=fun p' iq =>by
   rw [tk] at iq
   rcases aaH.mp iq with h | h
   ·exact .inl h
   ·exact .inr (aaD.mp h)
  have hold:∀p' ∈pins.take i,∃o,H4 (L p'.nm)=some o:=fun p' iq =>by
   obtain ⟨vs,_,_,h,_⟩:=tU p' iq
   exact ⟨_,h⟩
  obtain ⟨U',Tr,Ts⟩:∃U' :Str→List Rat,U' p.nm=(rs.drop (bq (pins.take i))).take p.ws.length∧∀x,x≠p.nm→U' x=U x:=⟨fun x=>if x=p.nm then (rs.drop (bq (pins.take i))).take p.ws.length else U x,if_pos rfl,fun x h=>if_neg h⟩
  obtain ⟨L',GQ,DE⟩:∃L' :Str→Addr,L' p.nm=m2∧∀x,x≠p.nm→L' x=L x:=⟨fun x=>if x=p.nm then m2 else L x,if_pos rfl,fun x h=>if_neg h⟩
  refine ⟨_,rfl,_,_,putK kU (.inr p.nm) (.ref m2),U',L',rfl,fun b o e=> ?_,kk _ _ y_ l4,ah,?_,?_,fun p' iq => ?_,fun p' iq => ?_,fun p' iq q' lC => ?_⟩
  ·rw [ak (ao e nU)]
   exact qI _ _ (s4 _ _ e)
  ·rw [pk,aaA,ks,tk,aaA]
   rfl
  ·rw [tk,abc,kG]
   rw [rP (U:=U') (W:=U) fun p' iq =>Ts _ (ne p' iq),fl]
   simp only [aaB,akz,abW,Tr]
   rw [List.take_add]
  ·rw [pI]
   rcases nZ p' iq with h | h
   ·rw [if_neg (fun z=>ne p' h (aa9 z)),DE _ (ne p' h),Ts _ (ne p' h)]
    obtain ⟨eV,h1,h2,h3,h4⟩:=tU p' h
    exact ⟨eV,h1,h2,kk _ _ (fun z=>by rw [z,e4] at h3;cases h3) h3,Paired.bU h4 fun _ _ z=>(z.same qI).aL t6⟩
   ·subst h
    rw [if_pos rfl,GQ,Tr]
    refine ⟨_,rfl,(s4.trans s5).free n6,by rw [ak md];exact e6,?_⟩
    have a1:=ft (bq (pins.take (i+1)) - bq (pins.take i)) (fq (bq (pins.take i)) hu)
    have a2:bq (pins.take (i+1)) - bq (pins.take i)=p'.ws.length:=by omega
    rw [a2] at a1 ⊢
    exact Paired.bU a1 fun _ _ z=>((z.same s4).same qI).aL t6
  ·rcases nZ p' iq with h | h
   ·rw [Ts _ (ne p' h)]
    exact lU p' h
   ·subst h
    rw [Tr,aaG,abS]
    omega
  ·rcases nZ p' iq with h | h <;> rcases nZ q' lC with h' | h'
   ·rw [DE _ (ne p' h),DE _ (ne q' h')]
    exact inj p' h q' h'
   ·subst h'
    rw [DE _ (ne p' h),GQ]
    intro z
    obtain ⟨o,ho⟩:=hold p' h
    rw [z,s5.free n6] at ho
    cases ho
   ·subst h
    rw [DE _ (ne q' h'),GQ]
    intro z
    obtain ⟨o,ho⟩:=hold q' h'
    rw [← z,s5.free n6] at ho
    cases ho
   ·intro _
    rw [h,h']
 ·rintro σ H4 ⟨o4,o5,kU,U,L,rfl,s4,l4,e4,ks,fl,tU,lU,inj⟩
  rw [ir,ir,aaQ] at ks fl tU lU inj
  have R4:=R.same s4
  obtain ⟨dx,pP,pW,pB,kP,kW,kB,F4,W4⟩:=R4.ex
  refine ⟨_,rfl,a,C,dx,_,_,_,rfl,F4.obj,rfl,MB,a,dx,pP,pW,pB,_,_,kP,kW,kB,rfl,F4,fun lb H5 s5 Rg yg=> ?_⟩
  rw [nY] at yg
  have AQ:=s4.trans s5
  refine ⟨_,rfl,_,rfl,_,rfl,nl,_,rfl,aT.of (AQ _ _ hn),?_⟩
  have hw:bq pins≤us.length:=by omega
  rw [ir,ir,aaQ,mB hw]
  intro m2 n6;generalize eX:upd _ m2 _=H6;have ⟨s6,e6⟩:=nw n6 eX;clear eX
  have hp6:Paired (dq K H6) (us.drop (bq pins)) (rs.drop (bq pins)):=Paired.bU (fq (bq pins) hu) fun _ _ z=>(z.same AQ).same s6
  obtain ⟨T,h1,h2,h3⟩:=tI (R:=dq K H6) g.nb (by rw [abS];omega) hp6
  have eks:(bars.map (·.nm)).map V.str=(bars.map fun b=>(aaT b.nm:Key)).map kV:=by
   rw [aaI,aaI]
   rfl
  rw [eks] at yg
  refine ⟨lb,m2,bars.map fun b=>(aaT b.nm:Key),us.drop (bq pins),rfl,s6 _ _ yg,e6,by rw [ir];omega,fun dT H7 s7 n7 e7=> ?_⟩
  have ndk:(bars.map fun b=>(aaT b.nm:Key)).Nodup:=by
   have:=uM g.nb
   rw [aaI] at this
   exact this
  rw [ip _ [] (by rw [abD,h2];exact ndk),abD] at e7
  refine ⟨_,rfl,_,rfl,(by show 2≤sizeLine;decide),?_⟩
  intro pt n8;generalize eX:upd _ pt _=H8;have ⟨s8,e8⟩:=nw n8 eX;clear eX
  have Rh:=(s5.trans s6).trans (s7.trans s8)
  have Mp:=s4.trans Rh
  have er:rs=(pins.flatMap fun p=>U p.nm)++bars.map (fun b=>T b.nm):=by rw [fl,h1,abR]
  refine q T U L pt dT dU _ kU H8 Mp er e8 ⟨(AQ.trans s6).free n7,nU,(fun z=>by rw [z,s6 _ _ (s5 _ _ e4)] at n7;cases n7),s8 _ _ e7,Rh _ _ e4,h2,ks,fun b hb=> ?_,fun p hp=> ?_,lU,inj⟩
  ·obtain ⟨v,e1,e2⟩:=h3 b hb
   exact ⟨v,e1,(e2.same s7).same s8⟩
  ·obtain ⟨eV,a1,a2,a3,a4⟩:=tU p hp
   exact ⟨eV,a1,a2,Rh _ _ a3,Paired.bU a4 fun _ _ z=>z.same Rh⟩
inductive iu (K:Frag)(C:Addr)(vs:List V)(H:Hp)(Q:VK)(E_:XK):Prop where
 | mk (a nl:Addr) (pins:List aC) (bars:List a8) (us:List V) (rs:List Rat) (_:vs=[.ref a,.ref nl]) (_:s_ K H C a pins bars) (_:cU pins bars) (_:H nl=some (.lst us)) (_:Paired (dq K H) us rs) (_:rs.length=2*pins.length) (_:∀(M:Str→Rat×Rat) (d:Addr) (kM:List (Key×V)) (H' :Hp),ar H H' →rs=(pins.flatMap fun p=>[(M p.nm).1,(M p.nm).2])→H d=none→H' d=some (.dK kM)→kM.map (·.1)=pins.map (fun p=>(aaT p.nm:Key))→(∀p∈pins,∃t v1 v2,bV kM (.inr p.nm)=some (.ref t)∧H' t=some (.tup [v1,v2])∧dq K H' v1 (M p.nm).1∧dq K H' v2 (M p.nm).2)→Q (.ref d) H'):iu K C vs H Q E_
theorem qo {ps:List aC}{U W:Str→Rat×Rat}(h:∀p∈ps,U p.nm=W p.nm):(ps.flatMap fun p=>[(U p.nm).1,(U p.nm).2])=ps.flatMap fun p=>[(W p.nm).1,(W p.nm).2]:=by
 induction ps with
 | nil=>rfl
 | cons p ps ih=>
  rw [aaB,aaB,h p aax,ih fun q hq=>h q (aav _ hq)]
theorem tJ:aA ["F","numbers","motion","at","pin"] ["F","numbers"] (af u0):=sq
theorem Mq {C:Addr}(D:Def K mg "motion_from" u0 ["F","numbers"])(cM:mg "enumerate"=none)(MP:bE P w K mg base (aX P w) 1 C "pins" ["self"] (eh K C)):
  Fn P w K mg base (aX P w) 2 "motion_from" ["F","numbers"] (iu K C):=by
 refine D.ok tJ (fun vs H Q E h=> ?_) (fun f bx A outer s H vs Q E hr h=> ?_)
 ·obtain ⟨a,nl,pins,bars,us,rs,rfl,_⟩:=h
  rfl
 obtain ⟨a,nl,pins,bars,us,rs,rfl,R,g,hn,hu,hl,q⟩:=h
 have lu:us.length=rs.length:=Paired.length hu
 have gl:=g.lp
 refine ⟨_,(ae (aw (i:=2) tJ.nd rfl (aan rfl) dI)
  (ae (bo PassesOwn.never rfl (sT rfl cM (aq (cS (k:=1) (pv 0) hr.mo (pY P w)) aa)) (fJ rfl (bg (aG (i:=3) tJ.nd rfl (aan rfl)) (bg (aG (i:=4) tJ.nd rfl (aan rfl)) c_))) (aj (d6 (cy hr) (pv 2) (pv 4) (aR (aq (aS aK (pv 1) (aH b_ ag (pv 3)) (fun _ _=>rfl)) (aq (aS aK (pv 1) (aH bO (aH b_ ag (pv 3)) ag) (fun _ _=>rfl)) aa))) rfl)))
  (aj (aI (pv 2))))),?_⟩
 intro d nd
 have s1:=aD nd (.dK [])
 have e1:(upd H d (.dK [])) d=some (.dK []):=ah
 generalize upd H d (.dK [])=H1 at s1 e1 ⊢
 have R1:=R.same s1
 obtain ⟨dx,pP,pW,pB,kP,kW,kB,F1,W1⟩:=R1.ex
 refine ⟨_,rfl,a,C,dx,_,_,_,rfl,F1.obj,rfl,MP,a,dx,pP,pW,pB,_,_,kP,kW,kB,rfl,F1,fun lp H2 s2 qJ lJ=> ?_⟩
 rw [dy] at lJ
 have vV:=s1.trans s2
 have y_:lp≠d:=fun z=>by rw [z,e1] at qJ;cases qJ
 refine ⟨lp,rfl,⟨_,aT.of lJ⟩,pT (K:=K) (a:=lp) (xs:=(pins.map (·.nm)).map V.str) (fun i σ H' =>∃(o3 o4:Option V) (kM:List (Key×V)) (M:Str→Rat×Rat),σ=[some (.ref a),some (.ref nl),some (.ref d),o3,o4]∧ar H H' ∧H' lp=some (.lst ((pins.map (·.nm)).map V.str))∧H' d=some (.dK kM)∧kM.map (·.1)=(pins.take i).map (fun p=>(aaT p.nm:Key))∧((pins.take i).flatMap fun p=>[(M p.nm).1,(M p.nm).2])=rs.take (2*i)∧
   (∀p∈pins.take i,∃t v1 v2,bV kM (.inr p.nm)=some (.ref t)∧H' t=some (.tup [v1,v2])∧dq K H' v1 (M p.nm).1∧dq K H' v2 (M p.nm).2))
   ⟨none,none,[],fun _=>(0,0),rfl,vV,lJ,s2 _ _ e1,rfl,rfl,by simp⟩ (fun i σ H' _ h=>by
   obtain ⟨_,_,_,_,_,_,h,_⟩:=h
   exact aT.of h) ?_ ?_⟩
 ·rintro i z σ H4 p9 hi ⟨o3,o4,kM,M,rfl,s4,l4,e4,ks,fl,tM⟩ n9
  rw [Wp,Wp] at hi
  obtain ⟨x,hx,rfl⟩:=aaw.mp hi
  obtain ⟨p,hp,rfl⟩:=aaw.mp hx
  have il:i < pins.length:=(be.mp hp).1
  have t9:=aD n9 (.tup [.int (i:Int),.str p.nm])
  have e9:(upd H4 p9 (.tup [.int (i:Int),.str p.nm])) p9=some (.tup [.int (i:Int),.str p.nm]):=ah
  generalize upd H4 p9 (.tup [.int (i:Int),.str p.nm])=H5 at t9 e9 ⊢
  refine ⟨p9,_,rfl,bQ.of e9,rfl,_,_,rfl,_,_,rfl,rfl,?_⟩
  have AQ:=s4.trans t9
  have AH:=AQ _ _ hn
  have l1:2*i < us.length:=by omega
  have l2:2*i+1 < us.length:=by omega
  have c2:lY 2 (i:Int):=⟨by decide+kernel,aak (intBits_le_64 (by omega) (by omega)) (by decide)⟩
  have a1:dr us (2*(i:Int))=some us[2*i]:=by
   have:=a_ (xs:=us) (j:=2*i) (gE l1)
   rw [show ((2*i:Nat):Int)=2*(i:Int) by omega] at this
   exact this
  have a2:dr us (2*(i:Int)+1)=some us[2*i+1]:=by
   have:=a_ (xs:=us) (j:=2*i+1) (gE l2)
   rw [show ((2*i+1:Nat):Int)=2*(i:Int)+1 by omega] at this
   exact this
  refine ⟨_,rfl,_,rfl,_,_,rfl,rfl,c2,nl,_,_,_,rfl,rfl,aT.of AH,a1,?_⟩
  refine ⟨_,rfl,_,rfl,_,_,rfl,rfl,c2,_,_,rfl,rfl,nl,_,_,_,rfl,rfl,aT.of AH,a2,(by show 2≤sizeLine;decide),?_⟩
  intro t n6;generalize eX:upd _ t _=H6;have ⟨s6,e6⟩:=nw n6 eX;clear eX
  have DK:=s6 _ _ (t9 _ _ e4)
  have lk:kM.length≤7:=by
   have z:=congrArg abk ks
   rw [ir,ir,aaG] at z
   omega
  refine ⟨_,rfl,_,rfl,d,_,rfl,iR.k (k:=.inr p.nm) DK (aar (show kM.length≤1000 by omega) (by decide)),?_⟩
  have fresh:(aaT p.nm:Key)∉kM.map (·.1):=by
   rw [ks]
   intro z
   obtain ⟨b',fZ,Lm⟩:=aal.mp z
   exact dO (nm:=aC.nm) g.np hp fZ (aa9 Lm)
  have pk:putK kM (.inr p.nm) (.ref t)=kM++[(.inr p.nm,.ref t)]:=cF _ (bY fresh)
  have t6:bf H6 (upd H6 d (.dK (putK kM (.inr p.nm) (.ref t)))):=.dict DK
  have qI:=t9.trans s6
  have td:t≠d:=fun z=>by rw [z,t9 _ _ e4] at n6;cases n6
  have kk:∀b o,b≠d→H4 b=some o→(upd H6 d (.dK (putK kM (.inr p.nm) (.ref t)))) b=some o:=fun b o n e=>by rw [ak n];exact qI _ _ e
  have ne:∀p' ∈pins.take i,p'.nm≠p.nm:=fun p' iq =>dO (nm:=aC.nm) g.np hp iq
  have tk:=take_snoc hp
  obtain ⟨r1,Ri,hr1⟩:=aF hu (gE l1)
  obtain ⟨r2,er2,hr2⟩:=aF hu (gE l2)
  obtain ⟨M',hM1,hM2⟩:∃M' :Str→Rat×Rat,M' p.nm=(r1,r2)∧∀x,x≠p.nm→M' x=M x:=⟨fun x=>if x=p.nm then (r1,r2) else M x,if_pos rfl,fun x h=>if_neg h⟩
  refine ⟨_,_,putK kM (.inr p.nm) (.ref t),M',rfl,fun b o e=> ?_,kk _ _ y_ l4,ah,?_,?_,fun p' iq => ?_⟩
  ·rw [ak (ao e nd)]
   exact qI _ _ (s4 _ _ e)
  ·rw [pk,aaA,ks,tk,aaA]
   rfl
  ·rw [tk,abc,qo (U:=M') (W:=M) fun p' iq =>hM2 _ (ne p' iq),fl]
   simp only [aaB,akz,abW,hM1]
   rw [show 2*(i+1)=2*i+1+1 by omega,abx,abx,Ri,er2]
   simp
  ·rw [pI]
   rw [tk] at iq
   rcases aaH.mp iq with h | h
   ·rw [if_neg (fun z=>ne p' h (aa9 z)),hM2 _ (ne p' h)]
    obtain ⟨t',v1,v2,h1,h2,h3,h4⟩:=tM p' h
    exact ⟨t',v1,v2,h1,kk _ _ (fun z=>by rw [z,e4] at h2;cases h2) h2,(h3.same qI).aL t6,(h4.same qI).aL t6⟩
   ·rw [aaD.mp h,if_pos rfl,hM1]
    exact ⟨t,_,_,rfl,by rw [ak td];exact e6,((hr1.same AQ).same s6).aL t6,((hr2.same AQ).same s6).aL t6⟩
 ·rintro σ H4 ⟨o3,o4,kM,M,rfl,s4,l4,e4,ks,fl,tM⟩
  rw [ir,ir] at ks fl tM
  rw [aaQ] at ks fl tM
  rw [← hl,aaQ] at fl
  exact ⟨_,rfl,q M d kM H4 s4 fl.symm nd e4 ks tM⟩
def dt (a b:Rat×Rat):Rat:=a.1*b.1+a.2*b.2
def sP (as bs:List Rat):Rat:=(aba (·*·) as bs).sum
theorem dR (bs:List Rat):sP [] bs=0:=by simp [sP]
theorem bR (a b:Rat)(as bs:List Rat):sP (a::as) (b::bs)=a*b+sP as bs:=by simp [sP]
theorem fV:∀{a c:List Rat} (b d:List Rat),a.length=c.length→sP (a++b) (c++d)=sP a c+sP b d
 | [],[],b,d,_=>by
  rw [abD,abD,dR]
  grind
 | x::a,y::c,b,d,h=>by
  rw [abT,abT,bR,bR,fV b d (by simpa using h)]
  grind
 | [],_::_,_,_,h=>by simp at h
 | _::_,[],_,_,h=>by simp at h
theorem fu:∀(ys cs:List (Int×Int)),fg ys cs=sP (ys.map vl) (cs.map vl)
 | [],_=>by simp [fg,sP]
 | _::_,[]=>by simp [fg,sP]
 | y::ys,c::cs=>by rw [uw,aaj,aaj,bR,fu ys cs]
theorem jP (F:Str→Option (Rat×Rat))(M:Str→Rat×Rat):∀pins:List aC,sP ((cf F pins).map vl) (pins.flatMap fun p=>[(M p.nm).1,(M p.nm).2])=(pins.map fun p=>dt (mv F p.nm) (M p.nm)).sum
 | []=>by simp [cf,sP]
 | p::ps=>by
  have ih:=jP F M ps
  unfold cf at ih ⊢
  rw [aaB,aaB,aaA,fV _ _ (by simp),ih]
  simp only [aaj,aaW,dm,bR,dR,aaO]
  unfold dt
  grind
theorem AR {pins:List aC}(nd:(pins.map (·.nm)).Nodup){p:aC}(hp:p∈pins){f:Str→Rat}(h:∀q∈pins,q.nm≠p.nm→f q.nm=0):(pins.map fun q=>f q.nm).sum=f p.nm:=by
 induction pins with
 | nil=>simp at hp
 | cons q ps ih=>
  rw [aaj,aaX] at nd
  rw [aaj,aaO]
  have zero:∀(l:List aC),(∀r∈l,f r.nm=0)→(l.map fun q=>f q.nm).sum=0:=fun l hl=>by
   induction l with
   | nil=>simp
   | cons r l ihl=>
    rw [aaj,aaO,hl r aax,ihl fun s hs=>hl s (aav _ hs)]
    grind
  by_cases e:q.nm=p.nm
  ·rw [e,zero ps fun r hr=>h r (aav _ hr) fun z=>nd.1 (by rw [e, ← z];exact aal.mpr ⟨r,hr,rfl⟩)]
   grind
  ·rw [h q aax e]
   have iq :p∈ps:=by
    rcases aaJ.mp hp with z | z
    ·exact absurd (by rw [z]) e
    ·exact z
   rw [ih nd.2 iq fun r hr=>h r (aav _ hr)]
   grind
theorem gL (x:Str)(w:Rat×Rat)(y:Str):mv (c9 x w) y=if y=x then w else (0,0):=by
 unfold mv c9
 by_cases e:y=x
 ·rw [if_pos e,if_pos e]
  rfl
 ·rw [if_neg e,if_neg e]
  rfl
theorem iw (m:Rat×Rat):dt (0,0) m=0:=by
 unfold dt
 grind
theorem jQ {pins:List aC}(nd:(pins.map (·.nm)).Nodup){p:aC}(hp:p∈pins)(w:Rat×Rat)(M:Str→Rat×Rat):(pins.map fun q=>dt (mv (c9 p.nm w) q.nm) (M q.nm)).sum=dt w (M p.nm):=by
 rw [AR nd hp (f:=fun x=>dt (mv (c9 p.nm w) x) (M x)) fun q _ e=>by rw [gL,if_neg e];exact iw _]
 rw [gL,if_pos rfl]
theorem sum_add (f g:aC→Rat):∀l:List aC,(l.map fun q=>f q+g q).sum=(l.map f).sum+(l.map g).sum
 | []=>by
  simp only [aaW,abh]
  grind
 | p::l=>by
  rw [aaj,aaO,sum_add f g l,aaj,aaj,aaO,aaO]
  grind
def rR (M:Str→Rat×Rat)(b:a8):Rat:=dt (fS b.one b.other) ((M b.other.nm).1 - (M b.one.nm).1,(M b.other.nm).2 - (M b.one.nm).2)
theorem HL (b:a8)(h:b.one.nm≠b.other.nm)(x:Str)(m:Rat×Rat):dt (mv (ck b) x) m=dt (mv (c9 b.one.nm (fS b.one b.other)) x) m+dt (mv (c9 b.other.nm (fS b.other b.one)) x) m:=by
 rw [gL,gL]
 unfold mv ck
 by_cases c1:x=b.one.nm
 ·rw [if_pos c1,if_pos c1,if_neg (fun z=>h (c1.symm.trans z)),iw]
  show dt (fS b.one b.other) m=_
  grind
 ·rw [if_neg c1,if_neg c1,iw]
  by_cases c2:x=b.other.nm
  ·rw [if_pos c2,if_pos c2]
   show dt (fS b.other b.one) m=_
   grind
  ·rw [if_neg c2,if_neg c2,iw]
   show dt (0,0) m=_
   rw [iw]
   grind
theorem n_ {pins:List aC}(nd:(pins.map (·.nm)).Nodup)(b:a8)(h1:b.one∈pins)(h2:b.other∈pins)(h:b.one.nm≠b.other.nm)(M:Str→Rat×Rat):(pins.map fun q=>dt (mv (ck b) q.nm) (M q.nm)).sum= -(rR M b):=by
 have e:(pins.map fun q=>dt (mv (ck b) q.nm) (M q.nm))=pins.map fun q=>dt (mv (c9 b.one.nm (fS b.one b.other)) q.nm) (M q.nm)+dt (mv (c9 b.other.nm (fS b.other b.one)) q.nm) (M q.nm):=aaR fun q _=>HL b h _ _
 rw [e,sum_add,jQ nd h1,jQ nd h2]
 unfold rR dt fS
 grind
structure yk (pins:List aC)(bars:List a8)(M:Str→Rat×Rat):Prop where
 HM:∀p∈pins,∀w∈p.ws,dt w (M p.nm)=0
 bars:∀b∈bars,rR M b=0
def mE (pins:List aC)(L:Str→Option (Rat×Rat))(M:Str→Rat×Rat):Rat:=(pins.map fun p=>dt (mv L p.nm) (M p.nm)).sum
def bP (bars:List a8)(T:Str→Rat)(U:Str→List Rat)(p:aC)(c:Rat×Rat→Rat):Rat:=sP (U p.nm) (p.ws.map c)+(bars.map fun b=>T b.nm*c (mv (ck b) p.nm)).sum
def eo (pins:List aC)(bars:List a8)(T:Str→Rat)(U:Str→List Rat)(L:Str→Option (Rat×Rat)):Prop:=∀p∈pins,bP bars T U p (·.1)+(mv L p.nm).1=0∧bP bars T U p (·.2)+(mv L p.nm).2=0
theorem iy:∀(as:List Rat) {α:Type} (l:List α),sP as (l.map fun _=>(0:Rat))=0
 | [],_,_=>dR _
 | _::_,_,[]=>by simp [sP]
 | a::as,_,x::l=>by
  rw [aaj,bR,iy as l]
  grind
theorem tK {U:Str→List Rat}{c:Rat×Rat→Rat}(c0:c (0,0)=0)(p:aC):∀(ps:List aC),(ps.map (·.nm)).Nodup→(∀q∈ps,(U q.nm).length=q.ws.length)→(∀q∈ps,q.nm=p.nm→q=p)→
  sP (ps.flatMap fun q=>U q.nm) (ps.flatMap fun q=>q.ws.map fun w=>c (mv (c9 q.nm w) p.nm))=if p.nm∈ps.map (·.nm) then sP (U p.nm) (p.ws.map c) else 0
 | [],_,_,_=>by simp [sP]
 | q::ps,nd,hl,inj=>by
  rw [aaj,aaX] at nd
  have ih:=tK c0 p ps nd.2 (fun r hr=>hl r (aav _ hr)) fun r hr=>inj r (aav _ hr)
  rw [aaB,aaB,fV _ _ (by rw [hl q aax,ir]),ih,aaj]
  by_cases e:q.nm=p.nm
  ·have eq:q=p:=inj q aax e
   subst eq
   have ec:(q.ws.map fun w=>c (mv (c9 q.nm w) q.nm))=q.ws.map c:=aaR fun w _=>by rw [gL,if_pos rfl]
   rw [if_neg nd.1,if_pos aax,ec]
   grind
  ·have ec:(q.ws.map fun w=>c (mv (c9 q.nm w) p.nm))=q.ws.map fun _=>(0:Rat):=aaR fun w _=>by rw [gL,if_neg (fun z=>e z.symm)];exact c0
   rw [ec,iy]
   by_cases hm:p.nm∈ps.map (·.nm)
   ·rw [if_pos hm,if_pos (aav _ hm)]
    grind
   ·rw [if_neg hm,if_neg (fun z=>by
     rcases aaJ.mp z with z | z
     ·exact e z.symm
     ·exact hm z)]
    grind
theorem ym {α:Type}(f g:α→Rat):∀l:List α,sP (l.map f) (l.map g)=(l.map fun x=>f x*g x).sum
 | []=>by simp [sP]
 | x::l=>by rw [aaj,aaj,bR,ym f g l,aaj,aaO]
theorem tN {pins:List aC}{bars:List a8}{T:Str→Rat}{U:Str→List Rat}{L:Str→Option (Rat×Rat)}{c:Rat×Rat→Rat}(c0:c (0,0)=0)(nd:(pins.map (·.nm)).Nodup)(hl:∀q∈pins,(U q.nm).length=q.ws.length){p:aC}(hp:p∈pins)(y:Rat):
  sP ((pins.flatMap fun q=>U q.nm)++bars.map (fun b=>T b.nm)++[y]) (((pins.flatMap fun q=>q.ws.map fun w=>c (mv (c9 q.nm w) p.nm))++bars.map fun b=>c (mv (ck b) p.nm))++[c (mv L p.nm)])=bP bars T U p c+y*c (mv L p.nm):=by
 have l1:(pins.flatMap fun q=>U q.nm).length=(pins.flatMap fun q=>q.ws.map fun w=>c (mv (c9 q.nm w) p.nm)).length:=by
  clear hp nd
  induction pins with
  | nil=>rfl
  | cons q ps ih=>rw [aaB,aaB,aap,aap,ih fun r hr=>hl r (aav _ hr),hl q aax,ir]
 rw [fV _ _ (by rw [aap,aap,l1,ir,ir]),fV _ _ l1,tK c0 p pins nd hl fun q hq e=>GJ (nm:=aC.nm) nd hq hp e,if_pos (aal.mpr ⟨p,hp,rfl⟩),ym,bR,dR]
 unfold bP
 grind
theorem iz (F:Str→Option (Rat×Rat)):∀{pins:List aC} {k:Nat} {p:aC},pins[k]? =some p→vl ((cf F pins).getD (2*k) (0,1))=(mv F p.nm).1∧vl ((cf F pins).getD (2*k+1) (0,1))=(mv F p.nm).2
 | q::ps,0,p,h=>by
  cases h
  unfold cf
  rw [aaB]
  exact ⟨dm _,dm _⟩
 | q::ps,k+1,p,h=>by
  have ih:=iz F (pins:=ps) (k:=k) (p:=p) (by simpa using h)
  unfold cf at ih ⊢
  rw [aaB]
  exact ih
theorem mF (pins:List aC)(bars:List a8)(L:Str→Option (Rat×Rat)){k:Nat}{p:aC}(h:pins[k]? =some p)(j:Nat)(c:Rat×Rat→Rat)(hj:∀F,vl ((cf F pins).getD j (0,1))=c (mv F p.nm)):
  (lI (b6 pins bars++[cf L pins]) j).map vl=((pins.flatMap fun q=>q.ws.map fun w=>c (mv (c9 q.nm w) p.nm))++bars.map fun b=>c (mv (ck b) p.nm))++[c (mv L p.nm)]:=by
 have flat:∀ps:List aC,((ps.flatMap fun q=>ig pins q).map fun qs=>vl (qs.getD j (0,1)))=ps.flatMap fun q=>q.ws.map fun w=>c (mv (c9 q.nm w) p.nm):=fun ps=>by
  induction ps with
  | nil=>rfl
  | cons q ps ih=>
   rw [aaB,aaB,aaA,ih]
   congr 1
   unfold ig
   rw [aaI]
   exact aaR fun w _=>hj _
 unfold lI b6
 rw [aaI,aaA,aaA,aaj,aaW]
 congr 1
 ·congr 1
  ·exact flat pins
  ·rw [aaI]
   exact aaR fun b _=>hj _
 ·rw [← hj]
  rfl
theorem df {k:Nat}(h:1≤k):Sz k 0:=by
 have:=rn (i:=0) (k:=k) (by simpa using Nat.two_pow_pos k) h
 simpa using this
structure Zb (n:Nat)(r:Rat):Prop where
 top:(qr r).1.natAbs≤2^n
 bot:(qr r).2.natAbs≤2^n
def zR (n:Nat):Nat:=bb (50+50*(2*n+1)) (2*n+1)+50*(2*n+1)
theorem DL {T B:Nat}{q:Int×Int}(h:Sm T B q):q=qr (vl q):=mw h.pos h.low
theorem DM {k:Nat}{r:Rat}(h:Sz k r)(h2:k≤50):Sm 50 50 (qr r):=
 ⟨b9 r,km r,abe (aaC (intBits_le_iff.mp h.top) (aaL (by decide) h2)),abe (aaC (intBits_le_iff.mp h.bot) (aaL (by decide) h2))⟩
theorem tO {F:Str→Option (Rat×Rat)}(h:∀x,Sz 50 (mv F x).1∧Sz 50 (mv F x).2)(pins:List aC):∀q∈cf F pins,Sm 50 50 q:=fun q hq=>by
 unfold cf at hq
 obtain ⟨p,_,hq⟩:=aa1.mp hq
 have z:=h p.nm
 rcases aaJ.mp hq with e | hq
 ·rw [e]
  exact DM z.1 (aao _)
 ·rw [aaD.mp hq]
  exact DM z.2 (aao _)
theorem HN {x:Str}{w:Rat×Rat}(h:Sz 50 w.1∧Sz 50 w.2)(y:Str):Sz 50 (mv (c9 x w) y).1∧Sz 50 (mv (c9 x w) y).2:=by
 rw [gL]
 by_cases c:y=x
 ·rw [if_pos c]
  exact h
 ·rw [if_neg c]
  exact ⟨df (by decide),df (by decide)⟩
theorem yn {pins:List aC}{bars:List a8}(g:cU pins bars){b:a8}(hb:b∈bars)(y:Str):Sz 50 (mv (ck b) y).1∧Sz 50 (mv (ck b) y).2:=by
 obtain ⟨m1,m2,_⟩:=g.ends b hb
 have z1:=g.sz _ m1
 have z2:=g.sz _ m2
 unfold mv ck
 by_cases c1:y=b.one.nm
 ·rw [if_pos c1]
  exact ⟨(z2.1.sub z1.1).up (by decide),(z2.2.1.sub z1.2.1).up (by decide)⟩
 ·rw [if_neg c1]
  by_cases c2:y=b.other.nm
  ·rw [if_pos c2]
   exact ⟨(z1.1.sub z2.1).up (by decide),(z1.2.1.sub z2.2.1).up (by decide)⟩
  ·rw [if_neg c2]
   exact ⟨df (by decide),df (by decide)⟩
theorem gM {pins:List aC}{bars:List a8}(g:cU pins bars):∀qs∈b6 pins bars,qs.length=2*pins.length∧∀q∈qs,Sm 50 50 q:=fun qs hq=>by
 unfold b6 at hq
 rcases aaH.mp hq with h | h
 ·obtain ⟨p,hp,h⟩:=aa1.mp h
  unfold ig at h
  obtain ⟨w,hw,rfl⟩:=aal.mp h
  have z:=(g.sz p hp).2.2 w hw
  exact ⟨fT _ _,tO (HN ⟨z.1.up (by decide),z.2.up (by decide)⟩) pins⟩
 ·obtain ⟨b,hb,rfl⟩:=aal.mp h
  exact ⟨fT _ _,tO (yn g hb) pins⟩
theorem yo {n:Nat}(h:n≤7):bb (50+50*(2*n+1)) (2*n+1)≤29000000:=by
 have:n=0∨n=1∨n=2∨n=3∨n=4∨n=5∨n=6∨n=7:=by omega
 rcases this with rfl | rfl | rfl | rfl | rfl | rfl | rfl | rfl <;> decide
theorem fW {H:Hp}{T B:Nat}:∀{us:List V} {qs:List (Int×Int)},cv K H us qs→(∀q∈qs,Sm T B q)→Paired (dq K H) us (qs.map vl)
 | [],[],_,_=>.nil
 | u::us,q::qs,h,hs=>by
  refine .cons ?_ (fW ⟨by simpa using h.1,fun i u q e1 e2=>h.2 (i+1) u q (by simpa using e1) (by simpa using e2)⟩ fun r hr=>hs r (aav _ hr))
  have n:=h.2 0 u q rfl rfl
  show iW K H u (qr (vl q))
  rw [← DL (hs q aax)]
  exact n
 | [],_::_,h,_=>(nomatch h.1)
 | _::_,[],h,_=>(nomatch h.1)
structure MoR (K:Frag)(H H' :Hp)(pins:List aC)(d:Addr)(kM:List (Key×V))(M:Str→Rat×Rat):Prop where
 nM:H d=none
 hM:H' d=some (.dK kM)
 keys:kM.map (·.1)=pins.map (fun p=>(aaT p.nm:Key))
 tM:∀p∈pins,∃t v1 v2,bV kM (.inr p.nm)=some (.ref t)∧H' t=some (.tup [v1,v2])∧dq K H' v1 (M p.nm).1∧dq K H' v2 (M p.nm).2
theorem tQ {m n:Nat}{q:Int×Int}{T B:Nat}(h:Sm T B q)(h1:T≤n)(h2:B≤n):Zb n (vl q):=by
 have e:=DL h
 refine ⟨?_,?_⟩
 ·rw [← e]
  exact aak h.top (aaL (by decide) h1)
 ·rw [← e]
  exact aak h.bot (aaL (by decide) h2)
inductive oa (K:Frag)(vs:List V)(H:Hp)(Q:VK)(E_:XK):Prop where
 | mk (l:Addr) (us:List V) (rs:List Rat) (_:vs=[.ref l]) (_:H l=some (.lst us)) (_:Paired (dq K H) us rs) (_:us.length≤100) (_:∀(l' :Addr) (gH :List V) (H' :Hp),ar H H' →H' l' =some (.lst gH)→Paired (dq K H') gH (rs.map fun r=> -r)→Q (.ref l') H'):oa K vs H Q E_
theorem eW {α:Type}{R:V→α→Prop}:∀{us:List V} {zs:List α},us.length=zs.length→(∀(i:Nat) (u:V),us[i]? =some u→∃z,zs[i]? =some z∧R u z)→Paired R us zs
 | [],[],_,_=>.nil
 | u::us,z::zs,l,h=>by
  obtain ⟨z',e,hz⟩:=h 0 u rfl
  cases e
  exact .cons hz (eW (by simpa using l) fun i u e=>h (i+1) u (by simpa using e))
theorem Mr:aA ["numbers"] ["numbers"] (af u3):=sq
theorem Ms (D:Def K mg "signs_turned" u3 ["numbers"]):Fn P w K mg base (aX P w) 1 "signs_turned" ["numbers"] (oa K):=by
 refine D.ok Mr (fun vs H Q E h=> ?_) (fun f bx A outer s H vs Q E hr h=> ?_)
 ·obtain ⟨l,us,rs,rfl,_⟩:=h
  rfl
 obtain ⟨l,us,rs,rfl,hl,pp,ln,q⟩:=h
 have lu:=Paired.length pp
 refine ⟨_,(aj (aI (de (tn:=["number"]) (fr:=[]) (caps:=[]) rfl ⟨rfl,by decide+kernel,rfl,by decide+kernel,by decide+kernel,rfl,trivial,trivial⟩ (bN (pv 0)) (fun _ _ _ _=>(aG (i:=0) (show (["number"]:List Str).Nodup from by decide+kernel) rfl (aan rfl))) (fun _ _ _ _=>cR) (fun _ _ _ _=>(aR (aq (wM qO (aS (du (K:=K) rfl) (pv 0) ag (fun _ _=>rfl))) (aq (aS (du (K:=K) rfl) (pv 0) ag (fun _ _=>rfl)) aa))))))),?_⟩
 refine ⟨_,rfl,l,rfl,⟨_,aT.of hl⟩,fun D1 n1=> ?_⟩
 refine c6 (cap:=[]) (K:=K) (a:=l) (xs:=us) (fun i v H' =>∃r,rs[i]? =some r∧dq K H' v (-r)) n1 (aar ln (by decide)) (fun H2 s2=>aT.of (s2 _ _ hl)) (fun i v H6 H7 ys e ks ⟨r,h1,h2⟩=>⟨r,h1,h2.aL (bf.ks e ks)⟩) ?_ ?_
 ·intro i u H2 R hu s2 k
  obtain ⟨r,er,hr⟩:=aF pp hu
  obtain ⟨p,rfl,hq⟩:iW K H2 u (qr r):=hr.same s2
  refine ⟨_,rfl,p,_,_,_,rfl,rfl,hq,g9,_,rfl,_,rfl,p,_,_,_,rfl,rfl,hq,gP,(by show 2≤sizeLine;decide),?_⟩
  intro p3 n3;generalize eX:upd _ p3 _=H3;have ⟨s3,e3⟩:=nw n3 eX;clear eX
  refine k _ _ s3 ⟨r,er,p3,rfl,?_⟩
  rw [kr]
  exact bQ.of e3
 ·intro ys H2 ly hy s2 hD
  refine q D1 ys H2 s2 hD (eW (by rw [ly,lu,ir]) fun i v e=> ?_)
  obtain ⟨r,er,hr⟩:=hy i v e
  exact ⟨-r,by rw [Wp,er];rfl,hr⟩
def lK (n t:Nat):List (Int×Int):=(aau n ((0,1):Int×Int)).set t (-1,1)
theorem og {n t i:Nat}{d:Int×Int}(h:(lK n t)[i]? =some d):d=if i=t then (-1,1) else (0,1):=by
 unfold lK at h
 rw [aa3] at h
 by_cases c:t=i
 ·rw [if_pos c,aa2] at h
  rw [if_pos c.symm]
  split at h
  ·exact (aaE h).symm
  ·cases h
 ·rw [if_neg c,aaY] at h
  rw [if_neg (fun z=>c z.symm)]
  split at h
  ·exact (aaE h).symm
  ·cases h
theorem AS:∀{ys:List Rat} {n t:Nat},ys.length=n→t < n→sP ys ((lK n t).map vl)= -(ys.getD t 0):=fun {ys n t}=>by
 have v0:vl ((0,1):Int×Int)=0:=by decide+kernel
 have v1:vl ((-1,1):Int×Int)= -1:=by decide+kernel
 unfold lK
 induction ys generalizing n t with
 | nil=>
  intro h1 h2
  simp at h1
  omega
 | cons y ys ih=>
  intro h1 h2
  obtain ⟨n,rfl⟩:∃m,n=m+1:=⟨n - 1,by omega⟩
  rw [abb]
  match t with
  | 0=>
   rw [akf,aaj,bR,akj,v0,v1]
   have ez:aau n (0:Rat)=(aau n ()).map fun _=>(0:Rat):=by simp
   rw [ez,iy]
   show y* -1+0= -y
   grind
  | t+1=>
   rw [akg,aaj,bR,v0,ih (n:=n) (by simpa using h1) (by omega)]
   show y*0+ -(ys.getD t 0)= -((y::ys).getD (t+1) 0)
   rw [List.getD_cons_succ]
   grind
inductive i9 (K:Frag)(C:Addr)(vs:List V)(H:Hp)(Q:VK)(E_:XK):Prop where
 | mk (a r:Addr) (pins:List aC) (bars:List a8) (ls:List Addr) (bX:List (List V:_)) (cV:List (List (Int×Int))) (t:Nat) (_:vs=[.ref a,.ref r,.int (t:Int)]) (_:s_ K H C a pins bars) (_:cU pins bars) (_:eQ K H r ls bX cV) (_:Shape 50 50 (2*pins.length) cV) (_:cV.length≤40) (_:t < cV.length) (_:(∀(p x:Addr) (us:List V) (xs:List Rat) (H' :Hp),ar H H' →H' p=some (.tup [.str "solved",.ref x])→H' x=some (.lst us)→Paired (dq K H') us xs→xs.length=2*pins.length→(∀r∈xs,Zb (zR pins.length) r)→(∀(i:Nat) (qs:List (Int×Int)),cV[i]? =some qs→sP (qs.map vl) xs=if i=t then -1 else 0)→Q (.ref p) H')) (_:(∀(p y:Addr) (us:List V) (ys:List Rat) (H' :Hp),ar H H' →H' p=some (.tup [.str "paper",.ref y])→H' y=some (.lst us)→Paired (dq K H') us ys→ys.length=cV.length→(∀r∈ys,Zb (zR pins.length) r)→(∀j,j < 2*pins.length→sP ys ((lI cV j).map vl)=0)→ys.getD t 0= -1→Q (.ref p) H')):i9 K C vs H Q E_
theorem DN:aA ["F","rows","at","due"] ["F","rows","at"] (af ve):=sq
theorem Mt {C aN:Addr}(hN:∀H:Hp,bQ K H aN [.int 0,.int 1])(nN:mg "NOUGHT"=some (.ref aN))(D:Def K mg "stretch_of" ve ["F","rows","at"])(aZ:mg "len"=none)(MP:bE P w K mg base (aX P w) 1 C "pins" ["self"] (eh K C))(HP:Fn P w K mg base (aX P w) 37 "solve_rows" ["rows","due","many"] (jN K)):
  Fn P w K mg base (aX P w) 38 "stretch_of" ["F","rows","at"] (i9 K C):=by
 refine D.ok DN (fun vs H Q E h=> ?_) (fun f bx A outer s H vs Q E hr h=> ?_)
 ·obtain ⟨a,r,pins,bars,ls,bX,cV,t,rfl,_⟩:=h
  rfl
 obtain ⟨a,r,pins,bars,ls,bX,cV,t,rfl,R,g,RR,sh,lq,ht,q1,q2⟩:=h
 have gl:=g.lp
 have big:(100:Nat)≤sizeLine:=by decide
 refine ⟨_,(ae (aw (i:=3) DN.nd rfl (aan rfl) (aH q0 (bD (aq (eZ (v:=.ref aN) rfl nN rfl) aa)) (aQ aE rfl aZ bT (aq (pv 1) aa))))
  (ae (qM (aR (aq (wM qO ag) (aq ag aa))) (qL (pv 3) (pv 2) set_list))
  (aj (aI (ay HP hr.mo (pY P w) (aq (pv 1) (aq (pv 3) (aq (aH b_ ag (aQ aE rfl aZ bT (aq (cS (k:=1) (pv 0) hr.mo (pY P w)) aa))) aa)))))))),?_⟩
 refine ⟨(by show 1≤sizeLine;decide),?_⟩
 intro l5 n5;generalize eX:upd _ l5 _=H5;have ⟨s5,e5⟩:=nw n5 eX;clear eX
 have Tt:=RR.same s5
 have AU:ls.length=cV.length:=by rw [RR.gK.2.1,RR.num.1]
 refine ⟨_,rfl,r,_,rfl,.inl (aT.of Tt.gK.1),l5,_,_,rfl,rfl,e5,by omega,(by rw [ir];omega),(by rw [ir];simp;omega),?_⟩
 intro l6 n6;generalize eX:upd _ l6 _=H6;have ⟨s6,e6⟩:=nw n6 eX;clear eX
 have HQ:(aau (((ls.map V.ref).length:Nat):Int).toNat [V.ref aN]).flatten=aau ls.length (V.ref aN):=by simp
 rw [HQ] at e6
 refine ⟨_,rfl,(by show 2≤sizeLine;decide),?_⟩
 intro p7 n7;generalize eX:upd _ p7 _=H7;have ⟨s7,e7⟩:=nw n7 eX;clear eX
 have ix:v7 (aau ls.length (V.ref aN)).length (t:Int)=some t:=by
  rw [aa2]
  unfold v7
  simp
  omega
 refine ⟨_,rfl,_,rfl,l6,_,_,t,rfl,rfl,s7 _ _ e6,ix,?_⟩
 have s57:=s5.trans (s6.trans s7)
 have h8:ar H (upd H7 l6 (.lst ((aau ls.length (V.ref aN)).set t (.ref p7)))):=fun b o z=>by
  rw [ak (fun e=>by rw [e] at z;rw [s5 _ _ z] at n6;cases n6)]
  exact s57 _ _ z
 have e8:(upd H7 l6 (.lst ((aau ls.length (V.ref aN)).set t (.ref p7)))) l6=some (.lst ((aau ls.length (V.ref aN)).set t (.ref p7))):=ah
 have p8:bQ K (upd H7 l6 (.lst ((aau ls.length (V.ref aN)).set t (.ref p7)))) p7 [.int (-1),.int 1]:=bQ.of (by rw [ak (fun e=>by rw [e,s7 _ _ e6] at e7;cases e7)];exact e7)
 generalize upd H7 l6 (.lst ((aau ls.length (V.ref aN)).set t (.ref p7)))=H8 at h8 e8 p8 ⊢
 have R8:=R.same h8
 obtain ⟨dx,pP,pW,pB,kP,kW,kB,F8,W8⟩:=R8.ex
 have c2:lY 2 ((pins.length:Nat):Int):=⟨by decide+kernel,aak (intBits_le_64 (by omega) (by omega)) (by decide)⟩
 refine ⟨_,rfl,_,rfl,_,rfl,a,C,dx,_,_,_,rfl,F8.obj,rfl,MP,a,dx,pP,pW,pB,_,_,kP,kW,kB,rfl,F8,fun lp H9 s9 qJ lJ=> ?_⟩
 rw [dy] at lJ
 refine ⟨lp,_,rfl,.inl (aT.of lJ),_,_,rfl,rfl,(by rw [ir,ir];exact c2),?_⟩
 have em:(2:Int)*((((pins.map (·.nm)).map V.str).length:Nat):Int)=((2*pins.length:Nat):Int):=by rw [ir,ir];omega
 have Mu:=h8.trans s9
 have we:=RR.same Mu
 have Tu:cv K H9 ((aau ls.length (V.ref aN)).set t (.ref p7)) (lK ls.length t):=by
  refine ⟨by simp [lK],fun i u d e1 e2=> ?_⟩
  have ed:=og e2
  rw [aa3] at e1
  by_cases c:t=i
  ·rw [if_pos c,aa2,if_pos (by omega)] at e1
   rw [if_pos c.symm] at ed
   cases e1
   rw [ed]
   exact ⟨p7,rfl,Ty.ar.cO s9 p8⟩
  ·rw [if_neg c,aaY] at e1
   rw [if_neg (fun z=>c z.symm)] at ed
   split at e1
   ·cases e1
    rw [ed]
    exact ⟨aN,rfl,hN _⟩
   ·cases e1
 have Mv:Sm 50 50 ((0,1):Int×Int):=⟨by decide,by decide,by decide+kernel,by decide+kernel⟩
 have ur:Sm 50 50 ((-1,1):Int×Int):=⟨by decide,by decide,by decide+kernel,by decide+kernel⟩
 refine ⟨r,l6,2*pins.length,ls,bX,cV,_,lK ls.length t,50,50,bb (50+50*(2*pins.length+1)) (2*pins.length+1),(by rw [← em];rfl),we.gK,we.num,s9 _ _ e8,Tu,by simp [AU,lK],sh,fun d hd=> ?_,by omega,by omega,by decide,by omega,f9 _ (akI _ _),yo g.lp,?_,?_⟩
 ·obtain ⟨i,ei⟩:=aas hd
  rw [og ei]
  split
  ·exact ur
  ·exact Mv
 ·intro p x gH xs HA sA ep ex nx lx zx hx
  refine q1 p x gH (xs.map vl) HA (Mu.trans sA) ep ex (fW nx zx) (by rw [ir];exact lx) (fun r hr=> ?_) fun i qs e=> ?_
  ·obtain ⟨q,hq,rfl⟩:=aal.mp hr
   exact tQ (m:=0) (zx q hq) (abp _ _) (abp _ _)
  ·have hi:=(be.mp e).1
   have hd:i < (lK ls.length t).length:=by simp [lK];omega
   have h2:=hx i qs _ e (gE hd)
   rw [fu,og (gE hd)] at h2
   rw [h2]
   split
   ·decide+kernel
   ·decide+kernel
 ·intro p y gH ys HA sA ep ey ny ly zy qi DO
  refine q2 p y gH (ys.map vl) HA (Mu.trans sA) ep ey (fW ny zy) (by rw [ir];exact ly) (fun r hr=> ?_) (fun j hj=> ?_) ?_
  ·obtain ⟨q,hq,rfl⟩:=aal.mp hr
   exact tQ (m:=0) (zy q hq) (by unfold zR;omega) (abp _ _)
  ·have:=qi j hj
   rw [fu] at this
   exact this
  ·rw [fu,AS (by rw [ir];omega) (by omega)] at DO
   grind
structure oh (pins:List aC)(bars:List a8)(x:Str)(M:Str→Rat×Rat):Prop where
 HM:∀p∈pins,∀w∈p.ws,dt w (M p.nm)=0
 bars:∀b∈bars,rR M b=if b.nm=x then 1 else 0
theorem yp:∀(ys zs:List Rat),sP (ys.map fun r=> -r) zs= -(sP ys zs)
 | [],_=>by simp [sP]
 | _::_,[]=>by simp [sP]
 | y::ys,z::zs=>by
  rw [aaj,bR,bR,yp ys zs]
  grind
theorem vW (pins:List aC)(bars:List a8){j:Nat}{b:a8}(h:bars[j]? =some b):(b6 pins bars)[bq pins+j]? =some (cf (ck b) pins):=by
 have e:(pins.flatMap fun p=>ig pins p).length=bq pins:=fU pins pins
 unfold b6
 rw [aat (by omega),e,ad_,Wp,h]
 rfl
theorem vX (pins:List aC)(bars:List a8){p:aC}(hp:p∈pins){w:Rat×Rat}(hw:w∈p.ws):∃i,i < bq pins∧(b6 pins bars)[i]? =some (cf (c9 p.nm w) pins):=by
 have e:(pins.flatMap fun p=>ig pins p).length=bq pins:=fU pins pins
 have m:cf (c9 p.nm w) pins∈pins.flatMap fun p=>ig pins p:=aa1.mpr ⟨p,hp,aal.mpr ⟨w,hw,rfl⟩⟩
 obtain ⟨i,ei⟩:=aas m
 have hi:=(be.mp ei).1
 refine ⟨i,by omega,?_⟩
 unfold b6
 rw [aaq hi]
 exact ei
theorem dh {α:Type}{l:List α}(h:l.Nodup){i j:Nat}{x:α}(hi:l[i]? =some x)(hj:l[j]? =some x):i=j:=by
 obtain ⟨i1,i2⟩:=be.mp hi
 obtain ⟨j1,j2⟩:=be.mp hj
 exact (akt h).mp (i2.trans j2.symm)
theorem yq {pins:List aC}{bars:List a8}(g:cU pins bars){j:Nat}{b0:a8}(h0:bars[j]? =some b0){M:Str→Rat×Rat}(h:∀(i:Nat) (qs:List (Int×Int)),(b6 pins bars)[i]? =some qs→sP (qs.map vl) (pins.flatMap fun p=>[(M p.nm).1,(M p.nm).2])=if i=bq pins+j then -1 else 0):oh pins bars b0.nm M:=by
 refine ⟨fun p hp w hw=> ?_,fun b hb=> ?_⟩
 ·obtain ⟨i,hi,ei⟩:=vX pins bars hp hw
  have:=h i _ ei
  rw [jP,jQ g.np hp w M,if_neg (by omega)] at this
  exact this
 ·obtain ⟨k,ek⟩:=aas hb
  have:=h _ _ (vW pins bars ek)
  obtain ⟨m1,m2,m3⟩:=g.ends b hb
  rw [jP,n_ g.np b m1 m2 m3] at this
  by_cases c:b.nm=b0.nm
  ·have ekj:k=j:=dh g.nb (x:=b0.nm) (by rw [Wp,ek, ← c];rfl) (by rw [Wp,h0];rfl)
   rw [if_pos (by omega)] at this
   rw [if_pos c]
   grind
  ·have ekj:k≠j:=fun z=>c (by rw [z,h0] at ek;rw [aaE ek])
   rw [if_neg (by omega)] at this
   rw [if_neg c]
   grind
theorem rS (pins:List aC)(bars:List a8){k:Nat}{p:aC}(h:pins[k]? =some p)(j:Nat)(c:Rat×Rat→Rat)(hj:∀F,vl ((cf F pins).getD j (0,1))=c (mv F p.nm)):
  (lI (b6 pins bars) j).map vl=(pins.flatMap fun q=>q.ws.map fun w=>c (mv (c9 q.nm w) p.nm))++bars.map fun b=>c (mv (ck b) p.nm):=by
 have:=mF pins bars (fun _=>none) h j c hj
 unfold lI at this ⊢
 rw [aaA,aaA] at this
 exact (List.append_inj' this rfl).1
theorem yr {pins:List aC}{bars:List a8}{T:Str→Rat}{U:Str→List Rat}{c:Rat×Rat→Rat}(c0:c (0,0)=0)(nd:(pins.map (·.nm)).Nodup)(hl:∀q∈pins,(U q.nm).length=q.ws.length){p:aC}(hp:p∈pins):
  sP ((pins.flatMap fun q=>U q.nm)++bars.map (fun b=>T b.nm)) ((pins.flatMap fun q=>q.ws.map fun w=>c (mv (c9 q.nm w) p.nm))++bars.map fun b=>c (mv (ck b) p.nm))=bP bars T U p c:=by
 have l1:(pins.flatMap fun q=>U q.nm).length=(pins.flatMap fun q=>q.ws.map fun w=>c (mv (c9 q.nm w) p.nm)).length:=by
  clear hp nd
  induction pins with
  | nil=>rfl
  | cons q ps ih=>rw [aaB,aaB,aap,aap,ih fun r hr=>hl r (aav _ hr),hl q aax,ir]
 have:=tN (L:=fun _=>none) (bars:=bars) (T:=T) c0 nd hl hp 0
 rw [fV _ _ (by rw [aap,aap,l1,ir,ir]),bR,dR] at this
 grind
theorem qp {pins:List aC}{U:Str→List Rat}(hl:∀q∈pins,(U q.nm).length=q.ws.length):(pins.flatMap fun q=>U q.nm).length=bq pins:=by
 unfold bq
 induction pins with
 | nil=>rfl
 | cons q ps ih=>rw [aaB,aaB,aap,aap,ih fun r hr=>hl r (aav _ hr),hl q aax]
def oi (pins:List aC)(bars:List a8)(T:Str→Rat)(U:Str→List Rat):Prop:=∀p∈pins,bP bars T U p (·.1)=0∧bP bars T U p (·.2)=0
theorem vY {pins:List aC}{bars:List a8}(g:cU pins bars){T:Str→Rat}{U:Str→List Rat}(hl:∀q∈pins,(U q.nm).length=q.ws.length)(h:∀j,j < 2*pins.length→sP ((pins.flatMap fun q=>U q.nm)++bars.map (fun b=>T b.nm)) ((lI (b6 pins bars) j).map vl)=0):oi pins bars T U:=fun p hp=>by
 obtain ⟨k,ek⟩:=aas hp
 have hk:=(be.mp ek).1
 have one:∀(j:Nat) (c:Rat×Rat→Rat),j < 2*pins.length→c (0,0)=0→(∀F,vl ((cf F pins).getD j (0,1))=c (mv F p.nm))→bP bars T U p c=0:=fun j c hj c0 hc=>by
  have:=h j hj
  rw [rS pins bars ek j c hc,yr c0 g.np hl hp] at this
  exact this
 exact ⟨one (2*k) (·.1) (by omega) rfl fun F=>(iz F ek).1,one (2*k+1) (·.2) (by omega) rfl fun F=>(iz F ek).2⟩
inductive rT (K:Frag)(C:Addr)(vs:List V)(H:Hp)(Q:VK)(E_:XK):Prop where
 | mk (a:Addr) (pins:List aC) (bars:List a8) (x:Str) (_:vs=[.ref a,.str x]) (_:s_ K H C a pins bars) (_:cU pins bars) (_:x∈bars.map (·.nm)) (_:(∀(M:Str→Rat×Rat) (p dM:Addr) (kM:List (Key×V)) (H' :Hp),ar H H' →H' p=some (.tup [.str "looser",.ref dM])→MoR K H H' pins dM kM M→oh pins bars x M→(∀p∈pins,Zb (zR pins.length) (M p.nm).1∧Zb (zR pins.length) (M p.nm).2)→Q (.ref p) H')) (_:(∀(T:Str→Rat) (U:Str→List Rat) (Lx:Str→Addr) (p dT dU:Addr) (kT kU:List (Key×V)) (H' :Hp),ar H H' →H' p=some (.tup [.str "less",.ref dT,.ref dU])→Tq K H H' pins bars dT dU kT kU T U Lx→oi pins bars T U→T x=1→(∀b∈bars,Zb (zR pins.length) (T b.nm))→(∀p∈pins,∀u∈U p.nm,Zb (zR pins.length) u)→Q (.ref p) H')):rT K C vs H Q E_
theorem Zb.neg {n:Nat}{r:Rat}(h:Zb n r):Zb n (-r):=by
 refine ⟨?_,?_⟩
 ·rw [kr]
  show (-(qr r).1).natAbs≤_
  rw [ab3]
  exact h.top
 ·rw [kr]
  exact h.bot
theorem qt:aA ["F","name","bars","rows","told","forces"] ["F","name"] (af vd):=sq
theorem Mw {C:Addr}(D:Def K mg "would_take" vd ["F","name"])(aZ:mg "len"=none)(MB:bE P w K mg base (aX P w) 1 C "bars" ["self"] (i7 K C))
  (HR:Fn P w K mg base (aX P w) 38 "draw_rows" ["F"] (fm K C)) (Tv:Fn P w K mg base (aX P w) 38 "stretch_of" ["F","rows","at"] (i9 K C)) (Tw:Fn P w K mg base (aX P w) 1 "signs_turned" ["numbers"] (oa K)) (HS:Fn P w K mg base (aX P w) 2 "motion_from" ["F","numbers"] (iu K C)) (HU:Fn P w K mg base (aX P w) 3 "pulls_and_pushes" ["F","numbers"] (AO K C)):
  Fn P w K mg base (aX P w) 39 "would_take" ["F","name"] (rT K C):=by
 refine D.ok qt (fun vs H Q E h=> ?_) (fun f bx A outer s H vs Q E hr h=> ?_)
 ·obtain ⟨a,pins,bars,x,rfl,_⟩:=h
  rfl
 obtain ⟨a,pins,bars,x,rfl,R,g,hx,q1,q2⟩:=h
 have gl:=g.lp
 have gb:=g.lb
 have wl:bq pins≤2*pins.length:=ik pins g.lw
 have ql:(b6 pins bars).length=bq pins+bars.length:=mC pins bars
 refine ⟨_,(ae (aw (i:=2) qt.nd rfl (aan rfl) (cS (k:=1) (pv 0) hr.mo (pY P w)))
  (ae (bG (aU gU (pv 1) (pv 2) rfl) (aj (cp)) aY)
  (ae (aw (i:=3) qt.nd rfl (aan rfl) (ay HR hr.mo (pY P w) (aq (pv 0) aa)))
  (ae (aw (i:=4) qt.nd rfl (aan rfl) (ay Tv hr.mo (pY P w) (aq (pv 0) (aq (pv 3) (aq (aH bO (aH cu (aQ aE rfl aZ bT (aq (pv 3) aa)) (aQ aE rfl aZ bT (aq (pv 2) aa))) (fN PySem.F.plainAttrs_list PySem.F.slot_list_index PySem.F.type_list_index xR (pv 2) (aq (pv 1) aa))) aa)))))
  (ae (bG (aU cD (aJ (pv 4)) cI (ba _)) (aj (aI (aR (aq cI (aq (ay HS hr.mo (pY P w) (aq (pv 0) (aq (aJ (pv 4)) aa))) aa))))) aY)
  (ae (aw (i:=5) qt.nd rfl (aan rfl) (ay HU hr.mo (pY P w) (aq (pv 0) (aq (ay Tw hr.mo (pY P w) (aq (aJ (pv 4)) aa)) aa))))
  (aj (aI (aR (aq cI (aq (aJ (pv 5)) (aq (aJ (pv 5)) aa)))))))))))),?_⟩
 obtain ⟨dx,pP,pW,pB,kP,kW,kB,F1,W1⟩:=R.ex
 refine ⟨_,rfl,a,C,dx,_,_,_,rfl,F1.obj,rfl,MB,a,dx,pP,pW,pB,_,_,kP,kW,kB,rfl,F1,fun lb H1 s1 Rg yg=> ?_⟩
 rw [nY] at yg
 refine ⟨_,rfl,_,rfl,lb,_,rfl,.inl (aT.of yg),rfl,mq _,_,rfl,?_⟩
 refine bI (fun c=> ?_) (fun c=> ?_)
 ·have c' :(!Ji (.str x) ((bars.map (·.nm)).map V.str))=true:=c
  have nx:x∉bars.map (·.nm):=fun z=>by
   rw [kj,decide_eq_true z] at c'
   cases c'
  exact absurd hx nx
 obtain ⟨j,ej⟩:=aas hx
 have hj:j < bars.length:=by
  have:=(be.mp ej).1
  rw [ir] at this
  exact this
 obtain ⟨b0,eb⟩:∃b0,bars[j]? =some b0:=⟨_,gE hj⟩
 have xb:x=b0.nm:=by
  rw [Wp,eb] at ej
  exact (aaE ej).symm
 have first:∀i,i < j→(bars.map (·.nm))[i]? ≠some x:=fun i hi e=>by
  have:=dh g.nb e ej
  omega
 refine ⟨_,rfl,a,pins,bars,rfl,R.same s1,g,fun r ls bX H2 s2 nr RR=> ?_⟩
 have AU:ls.length=(b6 pins bars).length:=by rw [RR.gK.2.1,RR.num.1]
 have HV:=s2 _ _ yg
 have et:((ls.map V.ref).length:Int) - (((bars.map (·.nm)).map V.str).length:Int)+(j:Int)=((bq pins+j:Nat):Int):=by
  rw [ir,ir,ir]
  omega
 refine ⟨_,rfl,_,rfl,_,rfl,r,_,rfl,.inl (aT.of RR.gK.1),_,rfl,lb,_,rfl,.inl (aT.of HV),_,_,rfl,rfl,_,rfl,.inl ⟨rfl,_,aT.of HV⟩,_,rfl,lb,_,x,j,rfl,rfl,HV,(by rw [ir];omega),ej,first,_,_,rfl,rfl,?_⟩
 rw [et]
 have vV:=s1.trans s2
 refine ⟨a,r,pins,bars,ls,bX,b6 pins bars,bq pins+j,rfl,R.same vV,g,RR,fun qs hq=>gM g qs hq,by omega,by omega,?_,?_⟩
 ·intro p y us xs HA sA ep ex nx lx zx Le
  refine ⟨_,rfl,p,_,_,_,rfl,rfl,bQ.of ep,rfl,rfl,_,rfl,?_⟩
  refine bI (fun _=> ?_) (fun c=>absurd (by simp [jg]) c)
  have yt:=vV.trans sA
  refine ⟨_,rfl,_,rfl,p,_,_,_,rfl,rfl,bQ.of ep,rfl,a,y,pins,bars,us,xs,rfl,R.same yt,g,ex,nx,lx,fun M dM kM HB sB eM nM hM ks tM=>⟨(by show 2≤sizeLine;decide),?_⟩⟩
  intro pt nC;generalize eX:upd _ pt _=HC;have ⟨sC,eC⟩:=nw nC eX;clear eX
  rw [eM] at Le zx
  refine q1 M pt dM kM HC (yt.trans (sB.trans sC)) eC ⟨yt.free nM,sC _ _ hM,ks,fun p hp=> ?_⟩ (by rw [xb];exact yq g eb Le) fun p hp=> ?_
  ·obtain ⟨t,v1,v2,h1,h2,h3,h4⟩:=tM p hp
   exact ⟨t,v1,v2,h1,sC _ _ h2,h3.same sC,h4.same sC⟩
  ·exact ⟨zx _ (aa1.mpr ⟨p,hp,aax⟩),zx _ (aa1.mpr ⟨p,hp,aav _ aax⟩)⟩
 ·intro p y us ys HA sA ep ey ny ly zy qi DO
  refine ⟨_,rfl,p,_,_,_,rfl,rfl,bQ.of ep,rfl,rfl,_,rfl,?_⟩
  refine bI (fun c=>absurd c (by simp [jg];decide+kernel)) (fun _=> ?_)
  have yt:=vV.trans sA
  have lus:us.length=ys.length:=Paired.length ny
  refine ⟨_,rfl,_,rfl,p,_,_,_,rfl,rfl,bQ.of ep,rfl,y,us,ys,rfl,ey,ny,by omega,fun l9 Tc HB sB eB pB=> ?_⟩
  have yu:=yt.trans sB
  refine ⟨a,l9,pins,bars,Tc,_,rfl,R.same yu,g,eB,pB,by rw [ir,ly,ql],fun T U Lx pf dT dU kT kU HC sC er Mx PR=> ?_⟩
  refine ⟨_,rfl,pf,_,_,_,rfl,rfl,bQ.of Mx,rfl,_,rfl,pf,_,_,_,rfl,rfl,bQ.of Mx,rfl,(by show 3≤sizeLine;decide),?_⟩
  intro pt nD;generalize eX:upd _ pt _=HD;have ⟨sD,eD⟩:=nw nD eX;clear eX
  have sx:=yu.trans (sC.trans sD)
  have mem:∀r∈(pins.flatMap fun p=>U p.nm)++bars.map (fun b=>T b.nm),Zb (zR pins.length) r:=fun r hr=>by
   rw [← er] at hr
   obtain ⟨z,hz,rfl⟩:=aal.mp hr
   exact (zy z hz).neg
  have col:∀k,k < 2*pins.length→sP ((pins.flatMap fun q=>U q.nm)++bars.map (fun b=>T b.nm)) ((lI (b6 pins bars) k).map vl)=0:=fun k hk=>by
   rw [← er,yp,qi k hk]
   grind
  have tx:T x=1:=by
   have e1:((pins.flatMap fun q=>U q.nm)++bars.map (fun b=>T b.nm)).getD (bq pins+j) 0=T x:=by
    rw [aaz,aat (by rw [qp PR.lU];omega),qp PR.lU,ad_,Wp,eb,xb]
    rfl
   rw [← er,aaz,Wp] at e1
   rw [aaz] at DO
   have hl:bq pins+j < ys.length:=by omega
   rw [gE hl] at DO e1
   have h1:ys[bq pins+j]= -1:=DO
   have h2: -ys[bq pins+j]=T x:=e1
   rw [← h2,h1]
   grind
  refine q2 T U Lx pt dT dU kT kU HD sx eD ⟨yu.free PR.nT,yu.free PR.nU,PR.ne,sD _ _ PR.hT,sD _ _ PR.hU,PR.yi,PR.yj,fun b hb=> ?_,fun p hp=> ?_,PR.lU,PR.inj⟩ (vY g PR.lU col) tx (fun b hb=>mem _ (aaM _ (aal.mpr ⟨b,hb,rfl⟩))) fun p hp u hu=>mem _ (abi _ (aa1.mpr ⟨p,hp,hu⟩))
  ·obtain ⟨v,h1,h2⟩:=PR.tT b hb
   exact ⟨v,h1,h2.same sD⟩
  ·obtain ⟨vs,h1,h2,h3,h4⟩:=PR.tU p hp
   exact ⟨vs,h1,yu.free h2,sD _ _ h3,Paired.bU h4 fun _ _ z=>z.same sD⟩
def zL (n:Nat):Nat:=bb (600+600*(2*n+1)) (2*n+1)+600*(2*n+1)
theorem yv {n:Nat}(h:n≤5):bb (600+600*(2*n+1)) (2*n+1)≤29000000:=by
 have:n=0∨n=1∨n=2∨n=3∨n=4∨n=5:=by omega
 rcases this with rfl | rfl | rfl | rfl | rfl | rfl <;> decide
def mvL (M:Str→Option (Rat×Rat)):Prop:=∀x,Sz 600 (mv M x).1∧Sz 600 (mv M x).2
theorem Tx {T B T' B' :Nat}{q:Int×Int}(h:Sm T B q)(h1:T≤T')(h2:B≤B'):Sm T' B' q:=⟨h.pos,h.low,aak h.top (aaL (by decide) h1),aak h.bot (aaL (by decide) h2)⟩
theorem yw {r:Rat}(h:Sz 600 r):Sm 600 600 (qr r):=
 ⟨b9 r,km r,abe (intBits_le_iff.mp h.top),abe (intBits_le_iff.mp h.bot)⟩
theorem yx {F:Str→Option (Rat×Rat)}(h:∀x,Sz 600 (mv F x).1∧Sz 600 (mv F x).2)(pins:List aC):∀q∈cf F pins,Sm 600 600 q:=fun q hq=>by
 unfold cf at hq
 obtain ⟨p,_,hq⟩:=aa1.mp hq
 have z:=h p.nm
 rcases aaJ.mp hq with e | hq
 ·rw [e]
  exact yw z.1
 ·rw [aaD.mp hq]
  exact yw z.2
inductive rV (K:Frag)(C:Addr)(vs:List V)(H:Hp)(Q:VK)(E_:XK):Prop where
 | mk (a d:Addr) (pins:List aC) (bars:List a8) (kvs:List (Key×V)) (L:Str→Option (Rat×Rat)) (_:vs=[.ref a,.ref d]) (_:s_ K H C a pins bars) (_:cU pins bars) (_:pins.length≤5) (_:H d=some (.dK kvs)) (_:z4 K H kvs L) (_:mvL L) (_:(∀kv∈kvs,∃x∈pins.map (·.nm),kv.1=.inr x)) (_:(∀(M:Str→Rat×Rat) (p dM:Addr) (kM:List (Key×V)) (H' :Hp),ar H H' →H' p=some (.tup [.str "moves",.ref dM])→MoR K H H' pins dM kM M→yk pins bars M→mE pins L M=1→(∀p∈pins,Zb (zL pins.length) (M p.nm).1∧Zb (zL pins.length) (M p.nm).2)→Q (.ref p) H')) (_:(∀(T:Str→Rat) (U:Str→List Rat) (Lx:Str→Addr) (p dT dU:Addr) (kT kU:List (Key×V)) (H' :Hp),ar H H' →H' p=some (.tup [.str "rest",.ref dT,.ref dU])→Tq K H H' pins bars dT dU kT kU T U Lx→eo pins bars T U L→(∀b∈bars,Zb (zL pins.length) (T b.nm))→(∀p∈pins,∀u∈U p.nm,Zb (zL pins.length) u)→Q (.ref p) H')):rV K C vs H Q E_
theorem mG:aA ["F","load","drawn","rows","due","told","forces"] ["F","load"] (af vf):=sq
theorem My {C aN aO:Addr}(hN:∀H:Hp,bQ K H aN [.int 0,.int 1])(nN:mg "NOUGHT"=some (.ref aN))(hO:∀H:Hp,bQ K H aO [.int 1,.int 1])(HW:mg "ONE"=some (.ref aO))(D:Def K mg "rest_of" vf ["F","load"])(aZ:mg "len"=none)(MP:bE P w K mg base (aX P w) 1 C "pins" ["self"] (eh K C))
  (HR:Fn P w K mg base (aX P w) 38 "draw_rows" ["F"] (fm K C)) (Tz:Fn P w K mg base (aX P w) 3 "load_row" ["F","load"] (i8 K C)) (HP:Fn P w K mg base (aX P w) 37 "solve_rows" ["rows","due","many"] (jN K)) (HS:Fn P w K mg base (aX P w) 2 "motion_from" ["F","numbers"] (iu K C)) (HU:Fn P w K mg base (aX P w) 3 "pulls_and_pushes" ["F","numbers"] (AO K C)):
  Fn P w K mg base (aX P w) 39 "rest_of" ["F","load"] (rV K C):=by
 refine D.ok mG (fun vs H Q E h=> ?_) (fun f bx A outer s H vs Q E hr h=> ?_)
 ·obtain ⟨a,d,pins,bars,kvs,L,rfl,_⟩:=h
  rfl
 obtain ⟨a,d,pins,bars,kvs,L,rfl,R,g,lp5,hd,hP,zl,hk,q1,q2⟩:=h
 have gl:=g.lp
 have gb:=g.lb
 have big:(100:Nat)≤sizeLine:=by decide
 have wl:bq pins≤2*pins.length:=ik pins g.lw
 have ql:=mC pins bars
 have S_:pins.length≤100:=by omega
 refine ⟨_,(ae (aw (i:=2) mG.nd rfl (aan rfl) (ay HR hr.mo (pY P w) (aq (pv 0) aa)))
  (ae (aw (i:=3) mG.nd rfl (aan rfl) (aH gy (pv 2) (bD (aq (ay Tz hr.mo (pY P w) (aq (pv 0) (aq (pv 1) aa))) aa))))
  (ae (aw (i:=4) mG.nd rfl (aan rfl) (aH gy (aH q0 (bD (aq (eZ (v:=.ref aN) rfl nN rfl) aa)) (aQ aE rfl aZ bT (aq (pv 2) aa))) (bD (aq (eZ (v:=.ref aO) rfl HW rfl) aa))))
  (ae (aw (i:=5) mG.nd rfl (aan rfl) (ay HP hr.mo (pY P w) (aq (pv 3) (aq (pv 4) (aq (aH b_ ag (aQ aE rfl aZ bT (aq (cS (k:=1) (pv 0) hr.mo (pY P w)) aa))) aa)))))
  (ae (bG (aU cD (aJ (pv 5)) cI (ba _)) (aj (aI (aR (aq cI (aq (ay HS hr.mo (pY P w) (aq (pv 0) (aq (aJ (pv 5)) aa))) aa))))) aY)
  (ae (aw (i:=6) mG.nd rfl (aan rfl) (ay HU hr.mo (pY P w) (aq (pv 0) (aq (cQ fe (aJ (pv 5)) d3 (dc (aQ aE rfl aZ bT (aq (pv 2) aa)))) aa))))
  (aj (aI (aR (aq cI (aq (aJ (pv 6)) (aq (aJ (pv 6)) aa)))))))))))),?_⟩
 refine ⟨_,rfl,a,pins,bars,rfl,R,g,fun r ls bX H1 s1 nr RR=> ?_⟩
 refine ⟨_,rfl,_,rfl,_,rfl,a,d,pins,bars,kvs,L,rfl,R.same s1,S_,s1 _ _ hd,hP.same s1,hk,fun l us H2 s2 nl el nm=>⟨(by show 1≤sizeLine;decide),?_⟩⟩
 intro l1 n3;generalize eX:upd _ l1 _=H3;have ⟨s3,e3⟩:=nw n3 eX;clear eX
 have TB:=RR.same (s2.trans s3)
 have AU:ls.length=(b6 pins bars).length:=by rw [RR.gK.2.1,RR.num.1]
 have lq:(b6 pins bars).length≤22:=by
  have:(b6 pins bars).length=bq pins+bars.length:=ql
  omega
 refine ⟨r,l1,_,_,rfl,rfl,TB.gK.1,e3,(by rw [ir];show ls.length+1≤sizeLine;omega),?_⟩
 intro r2 n4;generalize eX:upd _ r2 _=H4;have ⟨s4,e4⟩:=nw n4 eX;clear eX
 have Mz:=s3.trans s4
 refine ⟨(by show 1≤sizeLine;decide),?_⟩
 intro l5 n5;generalize eX:upd _ l5 _=H5;have ⟨s5,e5⟩:=nw n5 eX;clear eX
 have Tt:=(TB.same s4).same s5
 refine ⟨_,rfl,r,_,rfl,.inl (aT.of Tt.gK.1),l5,_,_,rfl,rfl,e5,by omega,(by rw [ir];omega),(by rw [ir];simp;omega),?_⟩
 intro l6 n6;generalize eX:upd _ l6 _=H6;have ⟨s6,e6⟩:=nw n6 eX;clear eX
 refine ⟨(by show 1≤sizeLine;decide),?_⟩
 intro l7 n7;generalize eX:upd _ l7 _=H7;have ⟨s7,e7⟩:=nw n7 eX;clear eX
 have HQ:(aau (((ls.map V.ref).length:Nat):Int).toNat [V.ref aN]).flatten=aau ls.length (V.ref aN):=by simp
 rw [HQ] at e6
 refine ⟨l6,l7,_,_,rfl,rfl,s7 _ _ e6,e7,(by rw [aa2];show ls.length+1≤sizeLine;omega),?_⟩
 intro l8 n8;generalize eX:upd _ l8 _=H8;have ⟨s8,e8⟩:=nw n8 eX;clear eX
 have Jx:=(s5.trans s6).trans (s7.trans s8)
 have s28:=Mz.trans Jx
 have s18:=s2.trans s28
 have Mp:=s1.trans s18
 have R8:=R.same Mp
 obtain ⟨dx,pP,pW,pB,kP,kW,kB,F8,W8⟩:=R8.ex
 have c2:lY 2 ((pins.length:Nat):Int):=⟨by decide+kernel,aak (intBits_le_64 (by omega) (by omega)) (by decide)⟩
 refine ⟨_,rfl,_,rfl,_,rfl,a,C,dx,_,_,_,rfl,F8.obj,rfl,MP,a,dx,pP,pW,pB,_,_,kP,kW,kB,rfl,F8,fun lp H9 s9 qJ lJ=> ?_⟩
 rw [dy] at lJ
 refine ⟨lp,_,rfl,.inl (aT.of lJ),_,_,rfl,rfl,(by rw [ir,ir];exact c2),?_⟩
 have s89:=s8.trans s9
 have we:eQ K H9 r2 (ls++[l]) (bX++[us]) (b6 pins bars++[cf L pins]):=by
  have Jy:=s28.trans s9
  have RRx:=(RR.same s2).same Jy
  refine ⟨⟨?_,by simp [RR.gK.2.1],tH RR.gK.2.1 RRx.gK.2.2 (Jy _ _ el)⟩,kE RRx.num (nm.same Jy),fun z=> ?_⟩
  ·rw [(Jx.trans s9) _ _ e4,aaA]
   rfl
  ·rcases aaH.mp z with z | z
   ·obtain ⟨i,ei⟩:=aas z
    have hi:=(be.mp ei).1
    have:=TB.gK.2.2 i r2 _ ei (gE (by rw [← RR.gK.2.1];exact hi))
    rw [this] at n4
    cases n4
   ·rw [aaD.mp z,s3 _ _ el] at n4
    cases n4
 have em:(2:Int)*((((pins.map (·.nm)).map V.str).length:Nat):Int)=((2*pins.length:Nat):Int):=by rw [ir,ir];omega
 have Tu:cv K H9 (aau ls.length (V.ref aN)++[V.ref aO]) (aau ls.length (0,1)++[(1,1)]):=by
  refine cv.snoc ⟨by simp,fun i u q e1 e2=> ?_⟩ ⟨aO,rfl,hO _⟩
  rw [aaY] at e1 e2
  split at e1
  ·rename_i c
   rw [if_pos c] at e2
   cases e1
   cases e2
   exact ⟨aN,rfl,hN _⟩
  ·cases e1
 have sh:Shape 600 600 (2*pins.length) (b6 pins bars++[cf L pins]):=fun qs hq=>by
  rcases aaH.mp hq with h | h
  ·exact ⟨(gM g qs h).1,fun q hq=>Tx ((gM g qs h).2 q hq) (by decide) (by decide)⟩
  ·rw [aaD.mp h]
   exact ⟨fT _ _,yx (fun x=>⟨(zl x).1,(zl x).2⟩) pins⟩
 have Mv:Sm 600 600 ((0,1):Int×Int):=⟨by decide,by decide,by decide+kernel,by decide+kernel⟩
 have ur:Sm 600 600 ((1,1):Int×Int):=⟨by decide,by decide,by decide+kernel,by decide+kernel⟩
 have e89:=s9 _ _ e8
 refine ⟨r2,l8,2*pins.length,ls++[l],bX++[us],b6 pins bars++[cf L pins],_,aau ls.length (0,1)++[(1,1)],600,600,bb (600+600*(2*pins.length+1)) (2*pins.length+1),(by rw [← em];rfl),we.gK,we.num,e89,Tu,by simp [AU],sh,fun q hq=> ?_,by omega,by simp;omega,by decide,by omega,f9 _ (akI _ _),yv lp5,?_,?_⟩
 ·rcases aaH.mp hq with h | h
  ·rw [(List.mem_replicate.mp h).2]
   exact Mv
  ·rw [aaD.mp h]
   exact ur
 ·intro p x gH xs HA sA ep ex nx lx zx hx
  refine ⟨_,rfl,p,_,_,_,rfl,rfl,bQ.of ep,rfl,rfl,_,rfl,?_⟩
  refine bI (fun _=> ?_) (fun c=>absurd (by simp [jg]) c)
  have yt:=(Mp.trans s9).trans sA
  have DF :=fW nx zx
  refine ⟨_,rfl,_,rfl,p,_,_,_,rfl,rfl,bQ.of ep,rfl,a,x,pins,bars,gH,xs.map vl,rfl,R.same yt,g,ex,DF,by rw [ir];exact lx,fun M dM kM HB sB eM nM hM ks tM=>⟨(by show 2≤sizeLine;decide),?_⟩⟩
  intro pt nC;generalize eX:upd _ pt _=HC;have ⟨sC,eC⟩:=nw nC eX;clear eX
  have sBC:=yt.trans (sB.trans sC)
  have row:∀(i:Nat) (F:Str→Option (Rat×Rat)) (dd:Int×Int),(b6 pins bars++[cf L pins])[i]? =some (cf F pins)→(aau ls.length ((0,1):Int×Int)++[(1,1)])[i]? =some dd→(pins.map fun p=>dt (mv F p.nm) (M p.nm)).sum=vl dd:=fun i F dd h1 h2=>by
   have:=hx i _ dd h1 h2
   rw [fu,eM,jP] at this
   exact this
  have v0:vl ((0,1):Int×Int)=0:=by decide+kernel
  have v1:vl ((1,1):Int×Int)=1:=by decide+kernel
  have draw:∀F,cf F pins∈b6 pins bars→(pins.map fun p=>dt (mv F p.nm) (M p.nm)).sum=0:=fun F hF=>by
   obtain ⟨i,ei⟩:=aas hF
   have hi:=(be.mp ei).1
   rw [← v0]
   refine row i F (0,1) (by rw [aaq hi];exact ei) ?_
   rw [aaq (by rw [aa2,AU];exact hi),aaY,if_pos (by rw [AU];exact hi)]
  refine q1 M pt dM kM HC sBC eC ⟨(yt).free nM,sC _ _ hM,ks,fun p hp=> ?_⟩ ⟨fun p hp w hw=> ?_,fun b hb=> ?_⟩ ?_ fun p hp=> ?_
  ·obtain ⟨t,v1,v2,h1,h2,h3,h4⟩:=tM p hp
   exact ⟨t,v1,v2,h1,sC _ _ h2,h3.same sC,h4.same sC⟩
  ·rw [← jQ g.np hp w M]
   refine draw _ ?_
   unfold b6 ig
   exact abi _ (aa1.mpr ⟨p,hp,aal.mpr ⟨w,hw,rfl⟩⟩)
  ·obtain ⟨m1,m2,m3⟩:=g.ends b hb
   have:=draw (ck b) (by unfold b6;exact aaM _ (aal.mpr ⟨b,hb,rfl⟩))
   rw [n_ g.np b m1 m2 m3] at this
   grind
  ·unfold mE
   rw [← v1]
   refine row (b6 pins bars).length L (1,1) (by simp) ?_
   rw [← AU]
   simp
  ·have mem:∀r∈xs.map vl,Zb (zL pins.length) r:=fun r hr=>by
    obtain ⟨q,hq,rfl⟩:=aal.mp hr
    exact tQ (m:=0) (zx q hq) (abp _ _) (abp _ _)
   rw [eM] at mem
   exact ⟨mem _ (aa1.mpr ⟨p,hp,aax⟩),mem _ (aa1.mpr ⟨p,hp,aav _ aax⟩)⟩
 ·intro p y gH ys HA sA ep ey ny ly zy qi DO
  refine ⟨_,rfl,p,_,_,_,rfl,rfl,bQ.of ep,rfl,rfl,_,rfl,?_⟩
  refine bI (fun c=>absurd c (by simp [jg];decide+kernel)) (fun _=> ?_)
  have yt:=(Mp.trans s9).trans sA
  have e0A:=(s18.trans s9).trans sA
  have py:=fW ny zy
  have lys:ys.length=ls.length+1:=by rw [ly,AU];simp
  have lus:gH.length=ls.length+1:=by rw [ny.1,lys]
  have rA:HA r=some (.lst (ls.map V.ref)):=e0A _ _ RR.gK.1
  refine ⟨_,rfl,_,rfl,p,_,_,_,rfl,rfl,bQ.of ep,rfl,_,rfl,r,_,rfl,.inl (aT.of rA),_,rfl,y,_,rfl,aT.of ey,?_⟩
  rw [ir,jM (show ls.length≤gH.length by omega)]
  intro l9 nB;generalize eX:upd _ l9 _=HB;have ⟨sB,eB⟩:=nw nB eX;clear eX
  have pyB:Paired (dq K HB) (gH.take ls.length) ((ys.map vl).take ls.length):=Paired.bU (ft ls.length py) fun _ _ z=>z.same sB
  have yu:=yt.trans sB
  refine ⟨a,l9,pins,bars,_,_,rfl,R.same yu,g,eB,pyB,?_,fun T U Lx pf dT dU kT kU HC sC er Mx PR=> ?_⟩
  ·rw [aaG,ir,lys,AU,ql]
   unfold bq
   omega
  refine ⟨_,rfl,pf,_,_,_,rfl,rfl,bQ.of Mx,rfl,_,rfl,pf,_,_,_,rfl,rfl,bQ.of Mx,rfl,(by show 3≤sizeLine;decide),?_⟩
  intro pt nD;generalize eX:upd _ pt _=HD;have ⟨sD,eD⟩:=nw nD eX;clear eX
  have sx:=yu.trans (sC.trans sD)
  obtain ⟨yl,eyl⟩:∃yl,(ys.map vl)=(ys.map vl).take ls.length++[yl]:=by
   have hl:ls.length < (ys.map vl).length:=by rw [ir];omega
   refine ⟨(ys.map vl)[ls.length],?_⟩
   have:=abx (l:=ys.map vl) (i:=ls.length)
   rw [gE hl,abg (by rw [ir];omega)] at this
   exact this
  have v0:vl ((0,1):Int×Int)=0:=by decide+kernel
  have v1:vl ((1,1):Int×Int)=1:=by decide+kernel
  have ly1:yl=1:=by
   rw [fu,eyl,aaA,fV _ _ (by rw [aaG,ir,ir,aa2];omega),akj,v0] at DO
   have ez:aau ls.length (0:Rat)=(aau ls.length ()).map fun _=>(0:Rat):=by simp
   rw [ez,iy,aaj,aaW,bR,dR,v1] at DO
   grind
  have rest:eo pins bars T U L:=fun p hp=>by
   obtain ⟨k,ek⟩:=aas hp
   have hk:=(be.mp ek).1
   have one:∀(j:Nat) (c:Rat×Rat→Rat),j < 2*pins.length→c (0,0)=0→(∀F,vl ((cf F pins).getD j (0,1))=c (mv F p.nm))→bP bars T U p c+c (mv L p.nm)=0:=fun j c hj c0 hc=>by
    have:=qi j hj
    rw [fu,mF pins bars L ek j c hc,eyl,er,ly1,tN c0 g.np PR.lU hp] at this
    grind
   exact ⟨one (2*k) (·.1) (by omega) rfl fun F=>(iz F ek).1,one (2*k+1) (·.2) (by omega) rfl fun F=>(iz F ek).2⟩
  have mem:∀r∈(ys.map vl).take ls.length,Zb (zL pins.length) r:=fun r hr=>by
   obtain ⟨q,hq,rfl⟩:=aal.mp (aj_ hr)
   exact tQ (m:=0) (zy q hq) (by unfold zL;omega) (abp _ _)
  rw [er] at mem
  refine q2 T U Lx pt dT dU kT kU HD sx eD ⟨yu.free PR.nT,yu.free PR.nU,PR.ne,sD _ _ PR.hT,sD _ _ PR.hU,PR.yi,PR.yj,fun b hb=> ?_,fun p hp=> ?_,PR.lU,PR.inj⟩ rest (fun b hb=>mem _ (aaM _ (aal.mpr ⟨b,hb,rfl⟩))) fun p hp u hu=>mem _ (abi _ (aa1.mpr ⟨p,hp,hu⟩))
  ·obtain ⟨v,h1,h2⟩:=PR.tT b hb
   exact ⟨v,h1,h2.same sD⟩
  ·obtain ⟨vs,h1,h2,h3,h4⟩:=PR.tU p hp
   exact ⟨vs,h1,yu.free h2,sD _ _ h3,Paired.bU h4 fun _ _ z=>z.same sD⟩
theorem kI {α β:Type}(f:α→β→Rat)(bs:List β):∀as:List α,(as.map fun a=>(bs.map fun b=>f a b).sum).sum=(bs.map fun b=>(as.map fun a=>f a b).sum).sum
 | []=>by
  induction bs with
  | nil=>rfl
  | cons b bs ih=>
   rw [aaj,aaO, ← ih]
   simp only [aaW,abh]
   grind
 | a::as=>by
  rw [aaj,aaO,kI f bs as]
  clear kI
  induction bs with
  | nil=>
   simp only [aaW,abh]
   grind
  | cons b bs ih=>
   simp only [aaj,aaO] at ih ⊢
   grind
theorem oj {α:Type}(t:Rat)(f:α→Rat):∀l:List α,(l.map fun a=>t*f a).sum=t*(l.map f).sum
 | []=>by
  simp only [aaW,abh]
  grind
 | a::l=>by
  rw [aaj,aaO,aaj,aaO,oj t f l]
  grind
theorem sum_neg {α:Type}(f:α→Rat):∀l:List α,(l.map fun a=> -(f a)).sum= -(l.map f).sum
 | []=>by
  simp only [aaW,abh]
  grind
 | a::l=>by
  rw [aaj,aaO,aaj,aaO,sum_neg f l]
  grind
theorem DP (m:Rat×Rat):∀(us:List Rat) (ws:List (Rat×Rat)),sP us (ws.map (·.1))*m.1+sP us (ws.map (·.2))*m.2=sP us (ws.map fun w=>dt w m)
 | [],_=>by
  simp only [dR]
  grind
 | _::_,[]=>by
  simp [sP]
  grind
 | u::us,w::ws=>by
  have ih:=DP m us ws
  simp only [aaj,bR]
  unfold dt at ih ⊢
  grind
theorem tR (T:Str→Rat)(p:aC)(m:Rat×Rat):∀bars:List a8,(bars.map fun b=>T b.nm*(mv (ck b) p.nm).1).sum*m.1+(bars.map fun b=>T b.nm*(mv (ck b) p.nm).2).sum*m.2=(bars.map fun b=>T b.nm*dt (mv (ck b) p.nm) m).sum
 | []=>by
  simp only [aaW,abh]
  grind
 | b::bars=>by
  have ih:=tR T p m bars
  simp only [aaj,aaO]
  unfold dt at ih ⊢
  grind
theorem AV {ws:List (Rat×Rat)}{m:Rat×Rat}(us:List Rat)(h:∀w∈ws,dt w m=0):sP us (ws.map fun w=>dt w m)=0:=by
 have:(ws.map fun w=>dt w m)=ws.map fun _=>(0:Rat):=aaR h
 rw [this]
 exact iy us ws
theorem MA {pins:List aC}{bars:List a8}(g:cU pins bars){T:Str→Rat}{U:Str→List Rat}{L:Str→Option (Rat×Rat)}(h:eo pins bars T U L){M:Str→Rat×Rat}(hw:∀p∈pins,∀w∈p.ws,dt w (M p.nm)=0):mE pins L M=(bars.map fun b=>T b.nm*rR M b).sum:=by
 have e1:∀p∈pins,dt (mv L p.nm) (M p.nm)= -((bars.map fun b=>T b.nm*dt (mv (ck b) p.nm) (M p.nm)).sum):=fun p hp=>by
  obtain ⟨r1,r2⟩:=h p hp
  unfold bP at r1 r2
  have a:=DP (M p.nm) (U p.nm) p.ws
  rw [AV _ (hw p hp)] at a
  have b:=tR T p (M p.nm) bars
  rw [← b]
  unfold dt
  grind
 unfold mE
 rw [aaR e1,sum_neg,kI (fun (p:aC) (b:a8)=>T b.nm*dt (mv (ck b) p.nm) (M p.nm)) bars pins]
 have e2:∀b∈bars,(pins.map fun p=>T b.nm*dt (mv (ck b) p.nm) (M p.nm)).sum= -(T b.nm*rR M b):=fun b hb=>by
  obtain ⟨m1,m2,m3⟩:=g.ends b hb
  rw [oj (T b.nm) (fun p:aC=>dt (mv (ck b) p.nm) (M p.nm)) pins,n_ g.np b m1 m2 m3]
  grind
 rw [aaR e2,sum_neg]
 grind
theorem yy {bars:List a8}(nd:(bars.map (·.nm)).Nodup){x:Str}(hx:x∈bars.map (·.nm))(T:Str→Rat):(bars.map fun b=>T b.nm*(if b.nm=x then (1:Rat) else 0)).sum=T x:=by
 have zero:∀l:List a8,x∉l.map (·.nm)→(l.map fun b=>T b.nm*(if b.nm=x then (1:Rat) else 0)).sum=0:=fun l hl=>by
  induction l with
  | nil=>rfl
  | cons b l ih=>
   rw [aaj,aaJ] at hl
   rw [aaj,aaO,ih (fun z=>hl (.inr z)),if_neg (fun z=>hl (.inl z.symm))]
   grind
 induction bars with
 | nil=>simp at hx
 | cons b bars ih=>
  rw [aaj,aaX] at nd
  rw [aaj,aaO]
  by_cases c:b.nm=x
  ·rw [if_pos c,zero bars (by rw [← c];exact nd.1),c]
   grind
  ·rw [if_neg c,ih nd.2 (by
    rcases aaJ.mp hx with z | z
    ·exact absurd z.symm c
    ·exact z)]
   grind
theorem mH {pins:List aC}{bars:List a8}(g:cU pins bars){T:Str→Rat}{U:Str→List Rat}{L:Str→Option (Rat×Rat)}(h:eo pins bars T U L){M:Str→Rat×Rat}{x:Str}(tk:oh pins bars x M)(hx:x∈bars.map (·.nm)):mE pins L M=T x:=by
 rw [MA g h tk.HM,aaR (fun b hb=>by rw [tk.bars b hb]),yy g.nb hx]
theorem yz {pins:List aC}{bars:List a8}(g:cU pins bars){T:Str→Rat}{U:Str→List Rat}{L:Str→Option (Rat×Rat)}(h:eo pins bars T U L){M:Str→Rat×Rat}(mo:yk pins bars M)(w:mE pins L M=1):False:=by
 have e:=MA g h mo.HM
 have:(bars.map fun b=>T b.nm*rR M b)=bars.map fun b=>0*T b.nm:=aaR fun b hb=>by
  rw [mo.bars b hb]
  grind
 rw [this,oj 0 (fun b:a8=>T b.nm)] at e
 grind
def cell (ns:List Int)(k:Int):Int:=if k < (ns.length:Int) then (ns[k.toNat]?).getD 0 else ((((k+5)*(k+5)*48271).fmod 2147483647)*(((k+5)*(k+5)*48271).fmod 2147483647)).fmod 2147483629
theorem jR {x m:Int}(h:0 < m):0≤x.fmod m∧x.fmod m < m:=⟨abq x h,ab2 x h⟩
inductive i_ (K:Frag)(vs:List V)(H:Hp)(Q:VK)(E_:XK):Prop where
 | mk (a:Addr) (ns:List Int) (k:Int) (_:vs=[.ref a,.int k]) (_:aT K H a (ns.map V.int)) (_:0≤k) (_:k≤1000) (_:Q (.int (cell ns k)) H):i_ K vs H Q E_
theorem cell_in {ns:List Int}{k:Int}(h0:0≤k)(h:k < (ns.length:Int)):dr (ns.map V.int) k=some (.int (cell ns k)):=by
 have hk:k.toNat < ns.length:=by omega
 have ek:k=((k.toNat:Nat):Int):=by omega
 have q:dr (ns.map V.int) ((k.toNat:Nat):Int)=some (.int (cell ns k)):=a_ (by
  unfold cell
  rw [if_pos h,Wp,gE hk]
  rfl)
 rw [← ek] at q
 exact q
theorem gN {i:Int}{k:Nat}(h:i.natAbs < 2^k):intBits i≤k:=intBits_le_iff.mpr h
theorem DQ:aA ["_law_script","_law_k","_law_part"] ["_law_script","_law_k"] (af vg):=sq
theorem MD (D:Def K mg "_law_cell_at" vg ["_law_script","_law_k"])(aZ:mg "len"=none):Fn P w K mg base CX 1 "_law_cell_at" ["_law_script","_law_k"] (i_ K):=by
 refine D.ok DQ (fun vs H Q E h=> ?_) (fun f bx A outer s H vs Q E hr h=> ?_)
 ·obtain ⟨a,ns,k,rfl,_⟩:=h
  rfl
 obtain ⟨a,ns,k,rfl,hS,h0,h1,q⟩:=h
 refine ⟨_,(ae (bG (aU oT (pv 1) (aQ aE rfl aZ bT (aq (pv 0) aa)) (ba _)) (aj (aI (aS aK (pv 0) (pv 1) (fun _ _=>rfl)))) aY)
  (ae (aw (i:=2) DQ.nd rfl (aan rfl) (aH d5 (aH b_ (aH b_ (aH bO (pv 1) ag) (aH bO (pv 1) ag)) ag) ag))
  (aj (aI (aH d5 (aH b_ (pv 2) (pv 2)) ag))))),?_⟩
 have hl:(ns.map V.int).length=ns.length:=ir _
 refine ⟨_,rfl,_,rfl,a,_,rfl,.inl hS,_,_,rfl,rfl,_,rfl,?_⟩
 refine bI (fun c=> ?_) (fun c=> ?_)
 ·have c' :k < (((ns.map V.int).length:Nat):Int):=of_decide_eq_true c
  rw [hl] at c'
  exact ⟨_,rfl,_,rfl,a,_,k,_,rfl,rfl,hS,cell_in h0 c',q⟩
 ·have c' :¬ k < (((ns.map V.int).length:Nat):Int):=of_decide_eq_false (abN.mpr c)
  rw [hl] at c'
  have b5:intBits (k+5)≤11:=gN (by show _ < 2048;omega)
  have e1:=jR (x:=(k+5)*(k+5)*48271) (m:=2147483647) (by decide)
  have bp:intBits (((k+5)*(k+5)*48271).fmod 2147483647)≤31:=gN (by show _ < 2147483648;omega)
  refine ⟨_,rfl,_,_,rfl,rfl,_,rfl,_,_,rfl,rfl,_,_,rfl,rfl,⟨aak b5 (by decide),aak b5 (by decide)⟩,?_⟩
  refine ⟨_,_,rfl,rfl,⟨aak (intBits_mul_le b5 b5) (by decide),by decide+kernel⟩,_,_,rfl,rfl,nz (by decide),?_⟩
  refine ⟨_,rfl,_,rfl,_,_,rfl,rfl,⟨aak bp (by decide),aak bp (by decide)⟩,_,_,rfl,rfl,nz (by decide),?_⟩
  have e:cell ns k=((((k+5)*(k+5)*48271).fmod 2147483647)*(((k+5)*(k+5)*48271).fmod 2147483647)).fmod 2147483629:=by
   unfold cell
   rw [if_neg c']
  rw [e] at q
  exact q
def field (c p m:Int):Int:=(((c.fmod p+11)*48271).fmod p).fmod m
theorem aV {c p m:Int}(h:0 < m):0≤field c p m∧field c p m < m:=jR h
inductive dz (vs:List V)(H:Hp)(Q:VK)(E_:XK):Prop where
 | mk (c p m:Int) (_:vs=[.int c,.int p,.int m]) (_:0 < p) (_:p≤2000000) (_:0 < m) (_:Q (.int (field c p m)) H):dz vs H Q E_
theorem MF:aA ["_law_cell","_law_prime","_law_many"] ["_law_cell","_law_prime","_law_many"] (af vh):=sq
theorem MG (D:Def K mg "_law_field" vh ["_law_cell","_law_prime","_law_many"]):Fn P w K mg base CX 1 "_law_field" ["_law_cell","_law_prime","_law_many"] dz:=by
 refine D.ok MF (fun vs H Q E h=> ?_) (fun f bx A outer s H vs Q E hr h=> ?_)
 ·obtain ⟨c,p,m,rfl,_⟩:=h
  rfl
 obtain ⟨c,p,m,rfl,hp,Kw,hm,q⟩:=h
 refine ⟨_,(aj (aI (aH d5 (aH d5 (aH b_ (aH bO (aH d5 (pv 0) (pv 1)) ag) ag) (pv 1)) (pv 2)))),?_⟩
 have e1:=jR (x:=c) hp
 refine ⟨_,rfl,_,rfl,_,_,rfl,rfl,nz (by omega),_,_,rfl,rfl,_,_,rfl,rfl,⟨aak (gN (k:=22) (by show _ < 4194304;omega)) (by decide),by decide+kernel⟩,?_⟩
 exact ⟨_,rfl,_,_,rfl,rfl,nz (by omega),_,rfl,_,_,rfl,rfl,nz (by omega),q⟩
inductive cG (vs:List V)(H:Hp)(Q:VK)(E_:XK):Prop where
 | mk (t b:Int) (_:vs=[.int t,.int b]) (_:0 < b) (_:gives H Q (low t b)):cG vs H Q E_
theorem tS:aA ["_law_top","_law_bottom","_law_one","_law_other"] ["_law_top","_law_bottom"] (af vi):=sq
theorem MI (ht:P.given.tree=none)(D:Def K mg "_law_lowest" vi ["_law_top","_law_bottom"])(my:mg "abs"=none):Fn P w K mg base (aX P w) 33 "_law_lowest" ["_law_top","_law_bottom"] cG:=by
 refine D.ok tS (fun vs H Q E h=> ?_) (fun f bx A outer s H vs Q E hr h=> ?_)
 ·obtain ⟨t,b,rfl,_⟩:=h
  rfl
 obtain ⟨t,b,rfl,hb,q⟩:=h
 refine ⟨_,(ae (aw (i:=2) tS.nd rfl (aan rfl) (aQ oU rfl my CQ (aq (pv 0) aa)))
  (ae (aw (i:=3) tS.nd rfl (aan rfl) (pv 1))
  (ae (jT PassesOwn.never (aU oR (pv 3) ag (ba _)) (aj (EU (i:=2) (j:=3) rfl tS.nd rfl rfl (by decide) rfl rfl (aq (pv 3) (aq (aH d5 (pv 2) (pv 3)) aa)) rfl)))
  (aj (aI (aR (aq (aH (dJ ht (Ty.b7.py hr (by decide)) rfl rfl rfl rfl rfl) (pv 0) (pv 2)) (aq (aH (dJ ht (Ty.b7.py hr (by decide)) rfl rfl rfl rfl rfl) (pv 1) (pv 2)) aa)))))))),?_⟩
 refine ⟨_,rfl,t,rfl,?_⟩
 refine ⟨_,rfl,?_⟩
 refine oQ (fun σ H' =>∃x y:Int,σ=[some (.int t),some (.int b),some (.int x),some (.int y)]∧H' =H∧0≤x∧0≤y∧aa0 x y=aa0 t b) (fun σ _=>match σ with | [_,_,_,some (.int y)]=>y.natAbs | _=>0) ⟨_,b,rfl,rfl,?_,by omega,?_⟩ ?_ ?_
 ·split <;> omega
 ·split
  ·exact Int.neg_gcd
  ·rfl
 ·rintro σ H' ⟨x,y,rfl,rfl,hx,hy,g⟩
  refine ⟨_,rfl,rfl,_,rfl,?_⟩
  refine bI (fun c=> ?_) (fun c=> ?_)
  ·have qi:y≠0:=by
    intro z
    subst z
    simp at c
   refine ⟨_,rfl,_,rfl,_,rfl,_,_,rfl,rfl,qi,_,_,rfl,?_⟩
   exact ⟨⟨_,_,rfl,rfl,hy,abq _ (by omega),by rw [oZ];exact g⟩,lW qi⟩
  ·have qi:y=0:=by
    have:=abN.mpr c
    simp at this
    exact this
   subst qi
   have e:x=sg t b:=by
    rw [ake] at g
    unfold sg
    rw [if_neg (by omega)]
    unfold gz
    rw [← g]
    omega
   subst e
   have hbn:b≠0:=by omega
   have c:=jZ (t:=t) hbn
   refine ⟨_,rfl,_,rfl,_,_,rfl,rfl,c,_,rfl,_,rfl,_,_,rfl,rfl,c,(by show 2≤sizeLine;decide),fun p hp=> ?_⟩
   exact q p _ (aD hp _) ah
 ·rintro σ H' Q1 Q2 h ⟨v,e1,e2,k,ek,z⟩
  exact ⟨v,e1,e2,k,ek,h _ _ z⟩
structure Ns (n:Nat)(q:Int×Int):Prop where
 top:q.1.natAbs≤2^n
 bot:q.2.natAbs≤2^n
theorem Ns.up {m n:Nat}{q:Int×Int}(h:Ns m q)(l:m≤n):Ns n q:=⟨aak h.top (aaL (by decide) l),aak h.bot (aaL (by decide) l)⟩
def dY (K:Frag)(H:Hp)(v:V)(n:Nat)(r:Rat):Prop:=∃q:Int×Int,iW K H v q∧0 < q.2∧vl q=r∧Ns n q
theorem dY.same {H H' :Hp}{v:V}{n:Nat}{r:Rat}(h:dY K H v n r)(s:ar H H'):dY K H' v n r:=by
 obtain ⟨q,h1,h2⟩:=h
 exact ⟨q,h1.same s,h2⟩
theorem dY.aL {H H' :Hp}{v:V}{n:Nat}{r:Rat}(h:dY K H v n r)(s:bf H H'):dY K H' v n r:=by
 obtain ⟨q,h1,h2⟩:=h
 exact ⟨q,h1.aL s,h2⟩
theorem dY.up {H:Hp}{v:V}{m n:Nat}{r:Rat}(h:dY K H v m r)(l:m≤n):dY K H v n r:=by
 obtain ⟨q,h1,h2,h3,h4⟩:=h
 exact ⟨q,h1,h2,h3,h4.up l⟩
theorem dS {H:Hp}{v:V}{n:Nat}{r:Rat}(h:dq K H v r)(z:Zb n r):dY K H v n r:=⟨qr r,h,b9 r,dm r,⟨z.top,z.bot⟩⟩
theorem mI {k n:Nat}{r:Rat}(h:Sz k r)(l:k≤n):Zb n r:=⟨abe (aaC (intBits_le_iff.mp h.top) (aaL (by decide) l)),abe (aaC (intBits_le_iff.mp h.bot) (aaL (by decide) l))⟩
theorem AW {q:Int×Int}(h:0 < q.2):q.1=0 ↔ vl q=0:=by
 unfold vl
 have z:((q.2:Int):Rat)≠0:=cL (aaV h)
 constructor
 ·intro e
  rw [e]
  have:((0:Int):Rat)=0:=by rfl
  rw [this]
  grind
 ·intro e
  apply Classical.byContradiction
  intro n
  have y:((q.1:Int):Rat)≠0:=cL n
  exact (by grind:¬ ((q.1:Int):Rat) / ((q.2:Int):Rat)=0) e
def dW (x y:Int×Int):Int×Int:=(x.1*y.2+y.1*x.2,x.2*y.2)
def gf (x y:Int×Int):Int×Int:=(x.1*y.1,x.2*y.2)
theorem dj {a b:Int}{m n:Nat}(h1:a.natAbs≤2^m)(h2:b.natAbs≤2^n):(a*b).natAbs≤2^(m+n):=by
 rw [ab4,akC]
 exact aj8 h1 h2
theorem AX {x y:Int×Int}{m n:Nat}(hx:0 < x.2)(hy:0 < y.2)(zx:Ns m x)(zy:Ns n y):0 < (dW x y).2∧vl (dW x y)=vl x+vl y∧Ns (m+n+1) (dW x y):=by
 refine ⟨abm hx hy,?_,?_,?_⟩
 ·unfold vl dW
  have z1:((x.2:Int):Rat)≠0:=cL (aaV hx)
  have z2:((y.2:Int):Rat)≠0:=cL (aaV hy)
  push_cast
  grind
 ·have h1:=dj zx.top zy.bot
  have h2:=dj zy.top zx.bot
  rw [af_ n m] at h2
  have h3:=ab8 (x.1*y.2) (y.1*x.2)
  show (x.1*y.2+y.1*x.2).natAbs≤2^(m+n+1)
  rw [ab0]
  omega
 ·exact aak (dj zx.bot zy.bot) (aaL (by decide) (by omega))
theorem AY {x y:Int×Int}{m n:Nat}(hx:0 < x.2)(hy:0 < y.2)(zx:Ns m x)(zy:Ns n y):0 < (gf x y).2∧vl (gf x y)=vl x*vl y∧Ns (m+n) (gf x y):=by
 refine ⟨abm hx hy,?_,dj zx.top zy.top,dj zx.bot zy.bot⟩
 unfold vl gf
 have z1:((x.2:Int):Rat)≠0:=cL (aaV hx)
 have z2:((y.2:Int):Rat)≠0:=cL (aaV hy)
 push_cast
 grind
inductive bJ (K:Frag)(f:Int×Int→Int×Int→Int×Int)(vs:List V)(H:Hp)(Q:VK)(E_:XK):Prop where
 | mk (u v:V) (x y:Int×Int) (m n:Nat) (_:vs=[u,v]) (_:iW K H u x) (_:iW K H v y) (_:Ns m x) (_:Ns n y) (_:m+n≤130000000) (_:gives H Q (f x y)):bJ K f vs H Q E_
theorem fw {H:Hp}{u v:V}{m n:Nat}{x y:Rat}{Q:VK}{E:XK}(h1:dY K H u m x)(h2:dY K H v n y)(l:m+n≤130000000)(k:∀(p:Addr) (H' :Hp),ar H H' →dY K H' (.ref p) (m+n+1) (x+y)→Q (.ref p) H'):bJ K dW [u,v] H Q E:=by
 obtain ⟨q1,a1,a2,a3,a4⟩:=h1
 obtain ⟨q2,b1,b2,b3,b4⟩:=h2
 obtain ⟨c1,c2,c3⟩:=AX a2 b2 a4 b4
 exact ⟨u,v,q1,q2,m,n,rfl,a1,b1,a4,b4,l,fun p H' s e=>k p H' s ⟨dW q1 q2,⟨p,rfl,bQ.of e⟩,c1,by rw [c2,a3,b3],c3⟩⟩
theorem f_ {H:Hp}{u v:V}{m n:Nat}{x y:Rat}{Q:VK}{E:XK}(h1:dY K H u m x)(h2:dY K H v n y)(l:m+n≤130000000)(k:∀(p:Addr) (H' :Hp),ar H H' →dY K H' (.ref p) (m+n) (x*y)→Q (.ref p) H'):bJ K gf [u,v] H Q E:=by
 obtain ⟨q1,a1,a2,a3,a4⟩:=h1
 obtain ⟨q2,b1,b2,b3,b4⟩:=h2
 obtain ⟨c1,c2,c3⟩:=AY a2 b2 a4 b4
 exact ⟨u,v,q1,q2,m,n,rfl,a1,b1,a4,b4,l,fun p H' s e=>k p H' s ⟨gf q1 q2,⟨p,rfl,bQ.of e⟩,c1,by rw [c2,a3,b3],c3⟩⟩
inductive fB (K:Frag)(vs:List V)(H:Hp)(Q:VK)(E_:XK):Prop where
 | mk (u:V) (x:Int×Int) (_:vs=[u]) (_:iW K H u x) (_:gives H Q (0 - x.1,x.2)):fB K vs H Q E_
theorem qu {H:Hp}{u:V}{m:Nat}{x:Rat}{Q:VK}{E:XK}(h1:dY K H u m x)(k:∀(p:Addr) (H' :Hp),ar H H' →dY K H' (.ref p) m (-x)→Q (.ref p) H'):fB K [u] H Q E:=by
 obtain ⟨q1,a1,a2,a3,a4⟩:=h1
 refine ⟨u,q1,rfl,a1,fun p H' s e=>k p H' s ⟨(0 - q1.1,q1.2),⟨p,rfl,bQ.of e⟩,a2,?_,?_,a4.bot⟩⟩
 ·rw [← a3]
  unfold vl
  push_cast
  grind
 ·have:=a4.top
  show (0 - q1.1).natAbs≤2^m
  omega
theorem MJ:aA ["_law_one","_law_other"] ["_law_one","_law_other"] (af vj):=sq
theorem MK (D:Def K mg "_law_sum" vj ["_law_one","_law_other"]):Fn P w K mg base (aX P w) 1 "_law_sum" ["_law_one","_law_other"] (bJ K dW):=by
 refine D.ok MJ (fun vs H Q E h=> ?_) (fun f bx A outer s H vs Q E hr h=> ?_)
 ·obtain ⟨u,v,x,y,m,n,rfl,_⟩:=h
  rfl
 obtain ⟨u,v,x,y,m,n,rfl,⟨p1,rfl,h1⟩,⟨p2,rfl,h2⟩,zx,zy,l,q⟩:=h
 refine ⟨_,(aj (aI (aR (aq (aH bO (aH d7 (aJ (pv 0)) (aJ (pv 1))) (aH d7 (aJ (pv 1)) (aJ (pv 0)))) (aq (aH d7 (aJ (pv 0)) (aJ (pv 1))) aa))))),?_⟩
 refine ⟨_,rfl,p1,_,_,_,rfl,rfl,h1,g9,_,rfl,p2,_,_,_,rfl,rfl,h2,gP,_,_,rfl,rfl,di zx.top zy.bot (by omega),?_⟩
 refine ⟨_,rfl,p2,_,_,_,rfl,rfl,h2,g9,_,rfl,p1,_,_,_,rfl,rfl,h1,gP,_,_,rfl,rfl,di zy.top zx.bot (by omega),?_⟩
 refine ⟨_,_,rfl,rfl,?_⟩
 refine ⟨_,rfl,p1,_,_,_,rfl,rfl,h1,gP,_,rfl,p2,_,_,_,rfl,rfl,h2,gP,_,_,rfl,rfl,di zx.bot zy.bot (by omega),(by show 2≤sizeLine;decide),?_⟩
 intro p3 n3;generalize eX:upd _ p3 _=H3;have ⟨s3,e3⟩:=nw n3 eX;clear eX
 exact q p3 H3 s3 e3
theorem MM:aA ["_law_one","_law_other"] ["_law_one","_law_other"] (af vk):=sq
theorem MO (D:Def K mg "_law_times" vk ["_law_one","_law_other"]):Fn P w K mg base (aX P w) 1 "_law_times" ["_law_one","_law_other"] (bJ K gf):=by
 refine D.ok MM (fun vs H Q E h=> ?_) (fun f bx A outer s H vs Q E hr h=> ?_)
 ·obtain ⟨u,v,x,y,m,n,rfl,_⟩:=h
  rfl
 obtain ⟨u,v,x,y,m,n,rfl,⟨p1,rfl,h1⟩,⟨p2,rfl,h2⟩,zx,zy,l,q⟩:=h
 refine ⟨_,(aj (aI (aR (aq (aH d7 (aJ (pv 0)) (aJ (pv 1))) (aq (aH d7 (aJ (pv 0)) (aJ (pv 1))) aa))))),?_⟩
 refine ⟨_,rfl,p1,_,_,_,rfl,rfl,h1,g9,_,rfl,p2,_,_,_,rfl,rfl,h2,g9,_,_,rfl,rfl,di zx.top zy.top (by omega),?_⟩
 refine ⟨_,rfl,p1,_,_,_,rfl,rfl,h1,gP,_,rfl,p2,_,_,_,rfl,rfl,h2,gP,_,_,rfl,rfl,di zx.bot zy.bot (by omega),(by show 2≤sizeLine;decide),?_⟩
 intro p3 n3;generalize eX:upd _ p3 _=H3;have ⟨s3,e3⟩:=nw n3 eX;clear eX
 exact q p3 H3 s3 e3
theorem MQ:aA ["_law_one"] ["_law_one"] (af vm):=sq
theorem MR (D:Def K mg "_law_turned" vm ["_law_one"]):Fn P w K mg base (aX P w) 1 "_law_turned" ["_law_one"] (fB K):=by
 refine D.ok MQ (fun vs H Q E h=> ?_) (fun f bx A outer s H vs Q E hr h=> ?_)
 ·obtain ⟨u,x,rfl,_⟩:=h
  rfl
 obtain ⟨u,x,rfl,⟨p1,rfl,h1⟩,q⟩:=h
 refine ⟨_,(aj (aI (aR (aq (aH cu ag (aJ (pv 0))) (aq (aJ (pv 0)) aa))))),?_⟩
 refine ⟨_,rfl,p1,_,_,_,rfl,rfl,h1,g9,_,_,rfl,rfl,_,rfl,p1,_,_,_,rfl,rfl,h1,gP,(by show 2≤sizeLine;decide),?_⟩
 intro p3 n3;generalize eX:upd _ p3 _=H3;have ⟨s3,e3⟩:=nw n3 eX;clear eX
 exact q p3 H3 s3 e3
def nameOf (st a k:Int):Str:=if st=0 then Txt.mul "p" (k+1) else if st=1 then Txt.mul "p" a++⟨#[(dr (Str.ofString "bcdefghijklm").cps.toList k).getD 0]⟩++Txt.mul "p" (5 - a) else Txt.slice "12345" none (some a)++(toString k:String)
theorem qv:∀st:Fin 3,∀a:Fin 6,∀k:Fin 12,∀j:Fin 12,k≠j→nameOf (st.val:Int) (a.val:Int) (k.val:Int)≠nameOf (st.val:Int) (a.val:Int) (j.val:Int):=by decide+kernel
theorem HX:∀n:Fin 20,MulOk "p" (n.val:Int):=by
 intro n
 unfold MulOk
 revert n
 decide+kernel
theorem HY:∀k:Fin 12,dr (Str.ofString "bcdefghijklm").cps.toList (k.val:Int)=some ((dr (Str.ofString "bcdefghijklm").cps.toList (k.val:Int)).getD 0):=by decide+kernel
theorem yA:∀a:Fin 6,∀k:Fin 12,(Txt.mul "p" (a.val:Int)).length+(⟨#[(dr (Str.ofString "bcdefghijklm").cps.toList (k.val:Int)).getD 0]⟩:Str).length≤1000∧
  (Txt.mul "p" (a.val:Int)++(⟨#[(dr (Str.ofString "bcdefghijklm").cps.toList (k.val:Int)).getD 0]⟩:Str)).length+(Txt.mul "p" (5 - (a.val:Int))).length≤1000∧(Txt.slice "12345" none (some (a.val:Int))).length+(Str.ofString (toString (k.val:Int))).length≤1000:=by decide+kernel
inductive om (vs:List V)(H:Hp)(Q:VK)(E_:XK):Prop where
 | mk (c k:Int) (_:vs=[.int c,.int k]) (_:0≤k) (_:k < 12) (_:Q (.str (nameOf (field c 3001 3) (field c 4001 6) k)) H):om vs H Q E_
theorem yB:aA ["_law_cell","_law_k","_law_style","_law_at"] ["_law_cell","_law_k"] (af rG):=sq
theorem MS (hM:ph CX)(D:Def K mg "_law_name" rG ["_law_cell","_law_k"])(yC:mg "str"=none)(cB:Fn P w K mg base CX 1 "_law_field" ["_law_cell","_law_prime","_law_many"] dz):Fn P w K mg base CX 2 "_law_name" ["_law_cell","_law_k"] om:=by
 refine D.ok yB (fun vs H Q E h=> ?_) (fun f bx A outer s H vs Q E hr h=> ?_)
 ·obtain ⟨c,k,rfl,_⟩:=h
  rfl
 obtain ⟨c,k,rfl,h0,h12,q⟩:=h
 have px:=pj (X:=jy CX P w K mg base ["_law_cell","_law_k","_law_style","_law_at"] "_law_name" (af rG) f bx A outer s H E) hM
 refine ⟨_,(ae (aw (i:=2) yB.nd rfl (aan rfl) (ay cB hr.mo px (aq (pv 0) (aq ag (aq ag aa)))))
  (ae (aw (i:=3) yB.nd rfl (aan rfl) (ay cB hr.mo px (aq (pv 0) (aq ag (aq ag aa)))))
  (ae (bG (aU cD (pv 2) ag (ba _)) (aj (aI (aH ng cI (aH bO (pv 1) ag)))) aY)
  (ae (bG (aU cD (pv 2) ag (ba _)) (aj (aI (aH gv (aH gv (aH ng cI (pv 3)) (aS FD cI (pv 1) (fun _ _=>rfl))) (aH ng cI (aH cu ag (pv 3)))))) aY)
  (aj (aI (aH gv (cQ FO cI d3 (dc (pv 3))) (dA mU rfl yC Ki (aq (pv 1) aa))))))))),?_⟩
 have i1:=aV (c:=c) (p:=3001) (m:=3) (by decide)
 have i2:=aV (c:=c) (p:=4001) (m:=6) (by decide)
 refine ⟨_,rfl,_,_,_,rfl,by decide,by decide,by decide,?_⟩
 refine ⟨_,rfl,_,_,_,rfl,by decide,by decide,by decide,?_⟩
 generalize field c 3001 3=st at i1 q ⊢
 generalize field c 4001 6=a at i2 q ⊢
 obtain ⟨kn,rfl⟩:∃n:Nat,k=(n:Int):=⟨k.toNat,by omega⟩
 obtain ⟨an,rfl⟩:∃n:Nat,a=(n:Int):=⟨a.toNat,by omega⟩
 have mk:∀i:Int,0≤i→i < 20→MulOk "p" i:=fun i a b=>by
  have:=HX ⟨i.toNat,by omega⟩
  rwa [show ((⟨i.toNat,by omega⟩:Fin 20).val:Int)=i by show ((i.toNat:Nat):Int)=i;omega] at this
 refine ⟨_,rfl,rfl,_,rfl,?_⟩
 refine bI (fun z=> ?_) (fun z=> ?_)
 ·have z' :st=0:=by simpa [jg] using z
  subst z'
  refine ⟨_,rfl,_,_,rfl,rfl,_,_,rfl,rfl,mk _ (by omega) (by omega),?_⟩
  exact q
 have z' :¬ st=0:=by simpa [jg] using z
 have nl:=yA ⟨an,by omega⟩ ⟨kn,by omega⟩
 refine ⟨_,rfl,rfl,_,rfl,?_⟩
 refine bI (fun z3=> ?_) (fun z3=> ?_)
 ·have TC :st=1:=by simpa [jg] using z3
  subst TC
  refine ⟨_,rfl,_,_,rfl,rfl,mk _ (by omega) (by omega),_,rfl,_,_,_,rfl,rfl,(by decide+kernel),HY ⟨kn,by omega⟩,?_⟩
  refine ⟨_,_,rfl,rfl,aak nl.1 (by decide),_,rfl,_,_,rfl,rfl,_,_,rfl,rfl,mk _ (by omega) (by omega),_,_,rfl,rfl,aak nl.2.1 (by decide),?_⟩
  exact q
 ·have TC :¬ st=1:=by simpa [jg] using z3
  refine ⟨_,rfl,_,rfl,_,rfl,(by decide+kernel),?_⟩
  have lg:(kn:Int).natAbs.log2 < 1920:=aar (Nat.log2_le_self _) (by show kn < 1920;omega)
  refine ⟨_,rfl,_,rfl,lg,_,_,rfl,rfl,aak nl.2.2 (by decide),?_⟩
  have e:nameOf st (an:Int) (kn:Int)=Txt.slice "12345" none (some (an:Int))++Str.ofString (toString (kn:Int)):=by
   unfold nameOf
   rw [if_neg z',if_neg TC]
  rw [e] at q
  exact q
def gO (ws:List (Rat×Rat)):Prop:=ws=[]∨(∃x y:Rat,ws=[(x,y)]∧¬ (x=0∧y=0)∧Sz 22 x∧Sz 22 y)∨ws=[(1,0),(0,1)]
theorem rW {K:Frag}{H:Hp}{p:Addr}(i:Int)(h:H p=some (.tup [.int i,.int 1])):dq K H (.ref p) (i:Rat):=⟨p,rfl,by rw [kq];exact bQ.of h⟩
theorem gs {K:Frag}{H:Hp}{p:Addr}{r:Rat}(h:H p=some (.tup [.int (qr r).1,.int (qr r).2])):dq K H (.ref p) r:=⟨p,rfl,bQ.of h⟩
theorem mJ {K:Frag}{H:Hp}{p:Addr}{u v:V}{r s:Rat}(h:H p=some (.tup [u,v]))(h1:dq K H u r)(h2:dq K H v s):dC K H (.ref p) (r,s):=⟨p,u,v,rfl,bQ.of h,h1,h2⟩
theorem iA {k:Nat}{i:Int}(h:i.natAbs < 1048576)(hk:20≤k):Sz k (i:Rat):=rn (aaC h (show 2^20≤2^k from aaL (by decide) hk)) (by omega)
theorem f' {t b:Int}(h:0 < b)(h1:t.natAbs < 1048576)(h2:b < 1048576):Sz 20 ((t:Rat) / (b:Rat)):=rm (aaV h) (intBits_le_iff.mpr (by show _ < 1048576;omega)) (intBits_le_iff.mpr (by show _ < 1048576;omega))
theorem yD {i:Int}(h:i≤500002):(i:Rat)≤500002:=by
 have:=abP.mpr h
 simpa using this
theorem tV {t b:Int}(hb:0 < b)(h:t≤500002):(t:Rat) / (b:Rat)≤500002:=by
 have fZ :(0:Rat) < (b:Rat):=by
  have:=Rat.intCast_lt_intCast.mpr hb
  simpa using this
 have h1:t≤500002*b:=by
  have:(500002:Int)*1≤500002*b:=Int.mul_le_mul_of_nonneg_left (by omega) (by decide)
  omega
 have h2:(t:Rat)≤500002*(b:Rat):=by
  have:=abP.mpr h1
  simpa using this
 have e:(t:Rat) / (b:Rat)*(b:Rat)=(t:Rat):=by
  have C':(b:Rat)≠0:=by grind
  grind
 generalize (t:Rat) / (b:Rat)=z at e
 by_cases c:z≤500002
 ·exact c
 ·have c' :500002 < z:=by grind
  have:=Rat.mul_lt_mul_of_pos_right c' fZ
  grind
inductive oq (K:Frag)(vs:List V)(H:Hp)(Q:VK)(E_:XK):Prop where
 | mk (c k:Int) (_:vs=[.int c,.int k]) (_:∀(p:Addr) (x y:Rat) (H' :Hp),ar H H' →Sz 20 x→Sz 20 y→x≤500002→dC K H' (.ref p) (x,y)→Q (.ref p) H'):oq K vs H Q E_
theorem yE:aA ["_law_cell","_law_kind","_law_x"] ["_law_cell","_law_kind"] (af vn):=sq
theorem MT (D:Def K mg "_law_spot" vn ["_law_cell","_law_kind"])(cB:Fn P w K mg base (aX P w) 1 "_law_field" ["_law_cell","_law_prime","_law_many"] dz)(lL:Fn P w K mg base (aX P w) 33 "_law_lowest" ["_law_top","_law_bottom"] cG):Fn P w K mg base (aX P w) 34 "_law_spot" ["_law_cell","_law_kind"] (oq K):=by
 refine D.ok yE (fun vs H Q E h=> ?_) (fun f bx A outer s H vs Q E hr h=> ?_)
 ·obtain ⟨c,k,rfl,_⟩:=h
  rfl
 obtain ⟨c,k,rfl,q⟩:=h
 have L2:2≤sizeLine:=by decide
 refine ⟨_,(ae (bG (aU cD (pv 1) ag (ba _)) (aj (aI (aR (aq (aR (aq (ay cB hr.mo pX (aq (pv 0) (aq ag (aq ag aa)))) (aq ag aa))) (aq (aR (aq (ay cB hr.mo pX (aq (pv 0) (aq ag (aq ag aa)))) (aq ag aa))) aa))))) aY)
  (ae (bG (aU cD (pv 1) ag (ba _)) (ae (aw (i:=2) yE.nd rfl (aan rfl) (ay lL hr.mo pX (aq (aH cu (ay cB hr.mo pX (aq (pv 0) (aq ag (aq ag aa)))) ag) (aq (aH bO ag (ay cB hr.mo pX (aq (pv 0) (aq ag (aq ag aa))))) aa))))
   (aj (aI (aR (aq (pv 2) (aq (ay lL hr.mo pX (aq (aH cu (ay cB hr.mo pX (aq (pv 0) (aq ag (aq ag aa)))) ag) (aq (aH bO ag (ay cB hr.mo pX (aq (pv 0) (aq ag (aq ag aa))))) aa))) aa)))))) aY)
  (ae (aw (i:=2) yE.nd rfl (aan rfl) (ay lL hr.mo pX (aq (aH cu (ay cB hr.mo pX (aq (pv 0) (aq ag (aq ag aa)))) ag) (aq (aH bO ag (ay cB hr.mo pX (aq (pv 0) (aq ag (aq ag aa))))) aa))))
  (aj (aI (aR (aq (pv 2) (aq (ay lL hr.mo pX (aq (aH cu (ay cB hr.mo pX (aq (pv 0) (aq ag (aq ag aa)))) ag) (aq (aH bO ag (ay cB hr.mo pX (aq (pv 0) (aq ag (aq ag aa))))) aa))) aa)))))))),?_⟩
 refine ⟨_,rfl,rfl,_,rfl,?_⟩
 refine bI (fun _=> ?_) (fun _=> ?_)
 ·have i1:=aV (c:=c) (p:=1009) (m:=4) (by decide)
  have i2:=aV (c:=c) (p:=2003) (m:=4) (by decide)
  refine ⟨_,rfl,_,_,_,rfl,by decide,by decide,by decide,L2,?_⟩
  intro p1 n1;generalize eX:upd _ p1 _=H1;have ⟨s1,e1⟩:=nw n1 eX;clear eX
  refine ⟨_,rfl,_,_,_,rfl,by decide,by decide,by decide,L2,?_⟩
  intro p2 n2;generalize eX:upd _ p2 _=H2;have ⟨s2,e2⟩:=nw n2 eX;clear eX
  refine ⟨L2,?_⟩
  intro p3 n3;generalize eX:upd _ p3 _=H3;have ⟨s3,e3⟩:=nw n3 eX;clear eX
  exact q p3 _ _ H3 ((s1.trans s2).trans s3) (iA (by omega) (by decide)) (iA (by omega) (by decide)) (yD (by omega)) (mJ e3 (((rW _ e1).same s2).same s3) ((rW _ e2).same s3))
 refine ⟨_,rfl,rfl,_,rfl,?_⟩
 refine bI (fun _=> ?_) (fun _=> ?_)
 ·have i1:=aV (c:=c) (p:=1009) (m:=13) (by decide)
  have i2:=aV (c:=c) (p:=3001) (m:=3) (by decide)
  have i3:=aV (c:=c) (p:=2003) (m:=13) (by decide)
  have i4:=aV (c:=c) (p:=4001) (m:=2) (by decide)
  refine ⟨_,rfl,_,_,_,rfl,by decide,by decide,by decide,_,_,rfl,rfl,_,rfl,_,_,_,rfl,by decide,by decide,by decide,_,_,rfl,rfl,_,_,rfl,by omega,fun p1 H1 s1 e1=> ?_⟩
  rw [dN (by omega)] at e1
  refine ⟨_,rfl,_,rfl,_,_,_,rfl,by decide,by decide,by decide,_,_,rfl,rfl,_,rfl,_,_,_,rfl,by decide,by decide,by decide,_,_,rfl,rfl,_,_,rfl,by omega,fun p2 H2 s2 e2=>⟨L2,?_⟩⟩
  rw [dN (by omega)] at e2
  intro p3 n3;generalize eX:upd _ p3 _=H3;have ⟨s3,e3⟩:=nw n3 eX;clear eX
  exact q p3 _ _ H3 ((s1.trans s2).trans s3) (f' (by omega) (by omega) (by omega)) (f' (by omega) (by omega) (by omega)) (tV (by omega) (by omega)) (mJ e3 (((gs e1).same s2).same s3) ((gs e2).same s3))
 ·have i1:=aV (c:=c) (p:=1000003) (m:=1000003) (by decide)
  have i2:=aV (c:=c) (p:=3001) (m:=997) (by decide)
  have i3:=aV (c:=c) (p:=1000033) (m:=1000003) (by decide)
  have i4:=aV (c:=c) (p:=4001) (m:=997) (by decide)
  refine ⟨_,rfl,_,_,_,rfl,by decide,by decide,by decide,_,_,rfl,rfl,_,rfl,_,_,_,rfl,by decide,by decide,by decide,_,_,rfl,rfl,_,_,rfl,by omega,fun p1 H1 s1 e1=> ?_⟩
  rw [dN (by omega)] at e1
  refine ⟨_,rfl,_,rfl,_,_,_,rfl,by decide,by decide,by decide,_,_,rfl,rfl,_,rfl,_,_,_,rfl,by decide,by decide,by decide,_,_,rfl,rfl,_,_,rfl,by omega,fun p2 H2 s2 e2=>⟨L2,?_⟩⟩
  rw [dN (by omega)] at e2
  intro p3 n3;generalize eX:upd _ p3 _=H3;have ⟨s3,e3⟩:=nw n3 eX;clear eX
  exact q p3 _ _ H3 ((s1.trans s2).trans s3) (f' (by omega) (by omega) (by omega)) (f' (by omega) (by omega) (by omega)) (tV (by omega) (by omega)) (mJ e3 (((gs e1).same s2).same s3) ((gs e2).same s3))
inductive ot (K:Frag)(vs:List V)(H:Hp)(Q:VK)(E_:XK):Prop where
 | mk (c:Int) (_:vs=[.int c]) (_:∀(l:Addr) (us:List V) (ws:List (Rat×Rat)) (H' :Hp),gO ws→ar H H' →H l=none→H' l=some (.lst us)→gd K H' us ws→Q (.ref l) H'):ot K vs H Q E_
theorem AZ {r:Rat}:(qr r).1=0 ↔ r=0:=⟨nS,fun e=>by rw [e,cN]⟩
theorem qw:aA ["_law_cell","_law_kind","_law_x","_law_y"] ["_law_cell"] (af vo):=sq
theorem MU (D:Def K mg "_law_ways" vo ["_law_cell"])(cB:Fn P w K mg base (aX P w) 1 "_law_field" ["_law_cell","_law_prime","_law_many"] dz)(lL:Fn P w K mg base (aX P w) 33 "_law_lowest" ["_law_top","_law_bottom"] cG):Fn P w K mg base (aX P w) 34 "_law_ways" ["_law_cell"] (ot K):=by
 refine D.ok qw (fun vs H Q E h=> ?_) (fun f bx A outer s H vs Q E hr h=> ?_)
 ·obtain ⟨c,rfl,_⟩:=h
  rfl
 obtain ⟨c,rfl,q⟩:=h
 have L0:0≤sizeLine:=by decide
 have L1:1≤sizeLine:=by decide
 have L2:2≤sizeLine:=by decide
 refine ⟨_,(ae (aw (i:=1) qw.nd rfl (aan rfl) (ay cB hr.mo pX (aq (pv 0) (aq ag (aq ag aa)))))
  (ae (bG (aU oT (pv 1) ag (ba _)) (aj (aI (bD aa))) aY)
  (ae (bG (aU oT (pv 1) ag (ba _)) (aj (aI (bD (aq (aR (aq (aR (aq ag (aq ag aa))) (aq (aR (aq ag (aq ag aa))) aa))) (aq (aR (aq (aR (aq ag (aq ag aa))) (aq (aR (aq ag (aq ag aa))) aa))) aa))))) aY)
  (ae (aw (i:=2) qw.nd rfl (aan rfl) (ay lL hr.mo pX (aq (aH cu (ay cB hr.mo pX (aq (pv 0) (aq ag (aq ag aa)))) ag) (aq (aH bO ag (ay cB hr.mo pX (aq (pv 0) (aq ag (aq ag aa))))) aa))))
  (ae (aw (i:=3) qw.nd rfl (aan rfl) (ay lL hr.mo pX (aq (aH cu (ay cB hr.mo pX (aq (pv 0) (aq ag (aq ag aa)))) ag) (aq (aH bO ag (ay cB hr.mo pX (aq (pv 0) (aq ag (aq ag aa))))) aa))))
  (ae (bG (PW.pt (wz (aU cD (aJ (pv 2)) ag (ba _)) (sk (aU cD (aJ (pv 3)) ag (ba _))))) (aj (aw (i:=3) qw.nd rfl (aan rfl) (aR (aq ag (aq ag aa))))) aY)
  (aj (aI (bD (aq (aR (aq (pv 2) (aq (pv 3) aa))) aa)))))))))),?_⟩
 refine ⟨_,rfl,_,_,_,rfl,by decide,by decide,by decide,?_⟩
 refine ⟨_,rfl,_,_,rfl,rfl,_,rfl,?_⟩
 refine bI (fun _=> ?_) (fun _=> ?_)
 ·refine ⟨L0,?_⟩
  intro l nl;generalize eX:upd _ l _=H1;have ⟨s1,e1⟩:=nw nl eX;clear eX
  exact q l [] [] H1 (.inl rfl) s1 nl e1 .nil
 refine ⟨_,rfl,_,_,rfl,rfl,_,rfl,?_⟩
 refine bI (fun _=> ?_) (fun _=> ?_)
 ·refine ⟨L2,?_⟩
  intro p1 n1;generalize eX:upd _ p1 _=H1;have ⟨s1,e1⟩:=nw n1 eX;clear eX
  refine ⟨L2,?_⟩
  intro p2 n2;generalize eX:upd _ p2 _=H2;have ⟨s2,e2⟩:=nw n2 eX;clear eX
  refine ⟨L2,?_⟩
  intro p3 n3;generalize eX:upd _ p3 _=H3;have ⟨s3,e3⟩:=nw n3 eX;clear eX
  refine ⟨L2,?_⟩
  intro p4 n4;generalize eX:upd _ p4 _=H4;have ⟨s4,e4⟩:=nw n4 eX;clear eX
  refine ⟨L2,?_⟩
  intro p5 n5;generalize eX:upd _ p5 _=H5;have ⟨s5,e5⟩:=nw n5 eX;clear eX
  refine ⟨L2,?_⟩
  intro p6 n6;generalize eX:upd _ p6 _=H6;have ⟨s6,e6⟩:=nw n6 eX;clear eX
  refine ⟨L2,?_⟩
  intro p7 n7;generalize eX:upd _ p7 _=H7;have ⟨s7,e7⟩:=nw n7 eX;clear eX
  have sh:=s1.trans (s2.trans (s3.trans (s4.trans (s5.trans s6))))
  have w1:dC K H7 (.ref p3) (1,0):=tG nX cN (s7 _ _ (s6 _ _ (s5 _ _ (s4 _ _ e3)))) (s7 _ _ (s6 _ _ (s5 _ _ (s4 _ _ (s3 _ _ (s2 _ _ e1)))))) (s7 _ _ (s6 _ _ (s5 _ _ (s4 _ _ (s3 _ _ e2)))))
  have w2:dC K H7 (.ref p6) (0,1):=tG cN nX (s7 _ _ e6) (s7 _ _ (s6 _ _ (s5 _ _ e4))) (s7 _ _ (s6 _ _ e5))
  exact q p7 _ [(1,0),(0,1)] _ (.inr (.inr rfl)) (sh.trans s7) (sh.free n7) e7 (.cons w1 (.cons w2 .nil))
 have i1:=aV (c:=c) (p:=6007) (m:=7) (by decide)
 have i2:=aV (c:=c) (p:=7001) (m:=3) (by decide)
 have i3:=aV (c:=c) (p:=8009) (m:=7) (by decide)
 have i4:=aV (c:=c) (p:=9001) (m:=2) (by decide)
 refine ⟨_,rfl,_,_,_,rfl,by decide,by decide,by decide,_,_,rfl,rfl,_,rfl,_,_,_,rfl,by decide,by decide,by decide,_,_,rfl,rfl,_,_,rfl,by omega,fun p1 H1 s1 e1=> ?_⟩
 rw [dN (by omega)] at e1
 refine ⟨_,rfl,_,_,_,rfl,by decide,by decide,by decide,_,_,rfl,rfl,_,rfl,_,_,_,rfl,by decide,by decide,by decide,_,_,rfl,rfl,_,_,rfl,by omega,fun p2 H2 s2 e2=> ?_⟩
 rw [dN (by omega)] at e2
 have z1:=f' (t:=field c 6007 7 - 3) (b:=1+field c 7001 3) (by omega) (by omega) (by omega)
 have z2:=f' (t:=field c 8009 7 - 3) (b:=1+field c 9001 2) (by omega) (by omega) (by omega)
 generalize ((field c 6007 7 - 3:Int):Rat) / ((1+field c 7001 3:Int):Rat)=x at e1 z1 ⊢
 generalize ((field c 8009 7 - 3:Int):Rat) / ((1+field c 9001 2:Int):Rat)=y at e2 z2 ⊢
 have uq :=s2 _ _ e1
 have v_:=s1.trans s2
 have fin:∀(v:V) (y' :Rat) (H3:Hp),ar H2 H3→dq K H3 v y' →Sz 22 y' →¬ (x=0∧y' =0)→∀(p:Addr) (l:Addr) (H5:Hp),ar H3 H5→H3 l=none→H5 p=some (.tup [.ref p1,v])→H5 l=some (.lst [.ref p])→Q (.ref l) H5:=fun v y' H3 s3 hv zy hn p l H5 s5 nl ep el=>
  q l [.ref p] [(x,y')] H5 (.inr (.inl ⟨x,y',rfl,hn,z1.up (by decide),zy⟩)) (v_.trans (s3.trans s5)) ((v_.trans s3).free nl) el (.cons (mJ ep (((gs uq).same s3).same s5) (hv.same s5)) .nil)
 refine ⟨_,rfl,p1,_,_,_,rfl,rfl,bQ.of uq,g9,rfl,_,rfl,?_⟩
 refine bI (fun c1=> ?_) (fun c1=> ?_)
 ·have c1' :x=0:=AZ.mp (by simpa using of_decide_eq_true c1)
  refine ⟨_,rfl,p2,_,_,_,rfl,rfl,bQ.of e2,g9,rfl,_,rfl,?_⟩
  refine bI (fun c2=> ?_) (fun c2=> ?_)
  ·refine ⟨L2,?_⟩
   intro p3 n3;generalize eX:upd _ p3 _=H3;have ⟨s3,e3⟩:=nw n3 eX;clear eX
   refine ⟨_,rfl,_,rfl,L2,?_⟩
   intro p4 n4;generalize eX:upd _ p4 _=H4;have ⟨s4,e4⟩:=nw n4 eX;clear eX
   refine ⟨L1,?_⟩
   intro l5 n5;generalize eX:upd _ l5 _=H5;have ⟨s5,e5⟩:=nw n5 eX;clear eX
   exact fin (.ref p3) 1 H3 s3 (rW 1 e3) (iA (i:=1) (by decide) (by decide)) (fun z=>absurd z.2 (by decide)) p4 l5 H5 (s4.trans s5) (s4.free n5) (s5 _ _ e4) e5
  ·have c2' :¬ y=0:=fun z=>c2 (by rw [z,cN];decide)
   refine ⟨_,rfl,_,rfl,L2,?_⟩
   intro p4 n4;generalize eX:upd _ p4 _=H4;have ⟨s4,e4⟩:=nw n4 eX;clear eX
   refine ⟨L1,?_⟩
   intro l5 n5;generalize eX:upd _ l5 _=H5;have ⟨s5,e5⟩:=nw n5 eX;clear eX
   exact fin (.ref p2) y H2 (ar.refl _) (gs e2) (z2.up (by decide)) (fun z=>c2' z.2) p4 l5 H5 (s4.trans s5) (s4.free n5) (s5 _ _ e4) e5
 ·have c1' :¬ x=0:=fun z=>c1 (by rw [z,cN];decide)
  refine Kf ?_
  refine ⟨_,rfl,_,rfl,L2,?_⟩
  intro p4 n4;generalize eX:upd _ p4 _=H4;have ⟨s4,e4⟩:=nw n4 eX;clear eX
  refine ⟨L1,?_⟩
  intro l5 n5;generalize eX:upd _ l5 _=H5;have ⟨s5,e5⟩:=nw n5 eX;clear eX
  exact fin (.ref p2) y H2 (ar.refl _) (gs e2) (z2.up (by decide)) (fun z=>c1' z.1) p4 l5 H5 (s4.trans s5) (s4.free n5) (s5 _ _ e4) e5
inductive iB (K:Frag)(H:Hp)(d:Addr)(v:V)(p:aC):Prop where
 | mk (a l:Addr) (s:V) (us:List V) (_:v=.ref a) (_:bQ K H a [.str p.nm,s,.ref l]) (_:dC K H s p.sp) (_:H l=some (.lst us)) (_:gd K H us p.ws) (_:l≠d):iB K H d v p
inductive ja (K:Frag)(H:Hp)(v:V)(p:aC):Prop where
 | mk (a l:Addr) (s:V) (us:List V) (_:v=.ref a) (_:bQ K H a [.str p.nm,s,.ref l]) (_:dC K H s p.sp) (_:H l=some (.lst us)) (_:gd K H us p.ws):ja K H v p
inductive kJ (K:Frag)(H:Hp)(pins:List aC)(v:V)(b:a8):Prop where
 | mk (a:Addr) (i j:Nat) (_:v=.ref a) (_:bQ K H a [.str b.nm,.int (i:Int),.int (j:Int)]) (_:pins[i]? =some b.one) (_:pins[j]? =some b.other):kJ K H pins v b
section
variable {K:Frag}{H H' :Hp}{v:V}{p:aC}{d:Addr}
theorem iB.same (h:iB K H d v p)(s:ar H H'):iB K H' d v p:=by
 obtain ⟨a,l,sv,us,e,h1,h2,h3,h4,h5⟩:=h
 exact ⟨a,l,sv,us,e,Ty.ar.cO s h1,h2.same s,s _ _ h3,h4.same s,h5⟩
theorem iB.upd {xs:List V}{o:HO}(h:iB K H d v p)(e:H d=some (.lst xs)):iB K (L2.upd H d o) d v p:=by
 obtain ⟨a,l,sv,us,ev,h1,h2,h3,h4,h5⟩:=h
 have t:bf H (L2.upd H d o):=.list e
 exact ⟨a,l,sv,us,ev,t.cO h1,h2.aL t,by rw [ak h5];exact h3,h4.aL t,h5⟩
theorem iB.r (h:iB K H d v p):ja K H v p:=by
 obtain ⟨a,l,sv,us,e,h1,h2,h3,h4,_⟩:=h
 exact ⟨a,l,sv,us,e,h1,h2,h3,h4⟩
theorem ja.same (h:ja K H v p)(s:ar H H'):ja K H' v p:=by
 obtain ⟨a,l,sv,us,e,h1,h2,h3,h4⟩:=h
 exact ⟨a,l,sv,us,e,Ty.ar.cO s h1,h2.same s,s _ _ h3,h4.same s⟩
theorem kJ.same {pins:List aC}{b:a8}(h:kJ K H pins v b)(s:ar H H'):kJ K H' pins v b:=by
 obtain ⟨a,i,j,e,h1,h2,h3⟩:=h
 exact ⟨a,i,j,e,Ty.ar.cO s h1,h2,h3⟩
end
structure iC (pins:List aC):Prop where
 np:(pins.map (·.nm)).Nodup
 ns:(pins.map (·.sp)).Nodup
 sz:∀p∈pins,Sz 24 p.sp.1∧Sz 24 p.sp.2
 ws:∀p∈pins,gO p.ws
theorem gO.sz {ws:List (Rat×Rat)}(h:gO ws):∀w∈ws,Sz 22 w.1∧Sz 22 w.2:=fun w hw=>by
 rcases h with rfl | ⟨x,y,rfl,_,h1,h2⟩ | rfl
 ·cases hw
 ·have:w=(x,y):=by simpa using hw
  rw [this]
  exact ⟨h1,h2⟩
 ·have e1:Sz 22 (1:Rat):=iA (k:=22) (i:=1) (by decide) (by decide)
  have e0:Sz 22 (0:Rat):=df (by decide)
  have:w=(1,0)∨w=(0,1):=by simpa using hw
  rcases this with rfl | rfl
  ·exact ⟨e1,e0⟩
  ·exact ⟨e0,e1⟩
theorem gO.len {ws:List (Rat×Rat)}(h:gO ws):ws.length≤2:=by
 rcases h with rfl | ⟨x,y,rfl,_⟩ | rfl <;> simp
theorem iC.snoc {pins:List aC}{p:aC}(g:iC pins)(h1:p.nm∉pins.map (·.nm))(h2:p.sp∉pins.map (·.sp))(h3:Sz 24 p.sp.1∧Sz 24 p.sp.2)(h4:gO p.ws):iC (pins++[p]):=by
 refine ⟨?_,?_,fun q hq=> ?_,fun q hq=> ?_⟩
 ·rw [aaA,aby]
  refine ⟨g.np,by simp,fun a ha b hb e=>h1 ?_⟩
  have:b=p.nm:=by simpa using hb
  rw [← this, ← e]
  exact ha
 ·rw [aaA,aby]
  refine ⟨g.ns,by simp,fun a ha b hb e=>h2 ?_⟩
  have:b=p.sp:=by simpa using hb
  rw [← this, ← e]
  exact ha
 ·rcases aaH.mp hq with z | z
  ·exact g.sz q z
  ·rw [aaD.mp z]
   exact h3
 ·rcases aaH.mp hq with z | z
  ·exact g.ws q z
  ·rw [aaD.mp z]
   exact h4
structure kK (pins:List aC)(bars:List a8):Prop where
 nb:(bars.map (·.nm)).Nodup
 ends:∀b∈bars,b.one∈pins∧b.other∈pins∧b.one.nm≠b.other.nm
theorem cw {α β:Type}{F:α→β→Prop}:∀{l₁:List α} {l₂:List β} {a:α} {b:β},Paired F l₁ l₂→F a b→Paired F (l₁++[a]) (l₂++[b])
 | _,_,_,_,.nil,h=>.cons h .nil
 | _,_,_,_,.cons h t,h' =>.cons h (cw t h')
theorem kL {t u:TS}{D:Ends}{σ:L2.St}{H:Hp}(inv:L2.St→Hp→Prop)(h1:∀N:L2.St→Hp→Prop,(∀σ' H',inv σ' H' →N σ' H')→t {D with nx:=N} σ H)(h2:∀σ' H',inv σ' H' →u D σ' H'):JN t u D σ H:=h1 _ h2
theorem MV {pins:List aC}{bars:List a8}(g:iC pins)(b:kK pins bars)(lp:pins.length≤7)(lb:bars.length≤8):cU pins bars:=
 ⟨g.np,b.nb,b.ends,fun p hp=>⟨(g.sz p hp).1,(g.sz p hp).2,(g.ws p hp).sz⟩,lp,lb,fun p hp=>(g.ws p hp).len⟩
theorem MX:bootBuiltins "min"=some (.builtin "min"):=by decide+kernel
def cnt (pins:List aC)(x:Rat):Nat:=(pins.filter fun p=>decide (x≤p.sp.1)).length
theorem yF (x:Rat):∀pins:List aC,cnt pins (x+1)≤cnt pins x
 | []=>aao _
 | p::ps=>by
  have ih:=yF x ps
  unfold cnt at ih ⊢
  rw [abU,abU]
  by_cases c:x+1≤p.sp.1
  ·have c2:x≤p.sp.1:=by grind
   rw [if_pos (decide_eq_true c),if_pos (decide_eq_true c2)]
   simpa using ih
  ·rw [if_neg (by simpa using c)]
   split
   ·rw [aaP]
    omega
   ·exact ih
theorem yG {x:Rat}:∀{pins:List aC},(∃p∈pins,p.sp.1=x)→cnt pins (x+1) < cnt pins x
 | [],⟨p,h,_⟩=>by simp at h
 | p::ps,⟨q,hq,e⟩=>by
  unfold cnt
  rw [abU,abU]
  by_cases c0:p.sp.1=x
  ·have c:¬ x+1≤p.sp.1:=by grind
   have c2:x≤p.sp.1:=by grind
   rw [if_neg (by simpa using c),if_pos (decide_eq_true c2),aaP]
   have:=yF x ps
   unfold cnt at this
   omega
  ·have lC :q∈ps:=by
    rcases aaJ.mp hq with z | z
    ·exact absurd (by rw [← z];exact e) c0
    ·exact z
   have ih:=yG (pins:=ps) ⟨q,lC,e⟩
   unfold cnt at ih
   by_cases c:x+1≤p.sp.1
   ·have c2:x≤p.sp.1:=by grind
    rw [if_pos (decide_eq_true c),if_pos (decide_eq_true c2)]
    simpa using ih
   ·rw [if_neg (by simpa using c)]
    split
    ·rw [aaP]
     omega
    ·exact ih
theorem A_ (pins:List aC)(x:Rat):cnt pins x≤pins.length:=List.length_filter_le _ _
theorem BA (r:Rat):dW (qr r) (1,1)=qr (r+1):=by
 have e:dW (qr r) (1,1)=((qr r).1+(qr r).2,(qr r).2):=by
  unfold dW
  simp
 have g:aa0 ((qr r).1+(qr r).2) (qr r).2=1:=by
  have:=km r
  rw [← this]
  simp
 rw [e,mw (q:=((qr r).1+(qr r).2,(qr r).2)) (b9 r) g]
 congr 1
 have z:=p_ (r:=r)
 have v:=dm r
 unfold vl at v ⊢
 push_cast
 grind
theorem MY {k:Nat}{r:Rat}(h:Sz k r):Ns k (qr r):=⟨abe (intBits_le_iff.mp h.top),abe (intBits_le_iff.mp h.bot)⟩
theorem BB:∀i:Fin 10,∃N:Fin 6,dr [V.int 0,.int 1,.int 2,.int 2,.int 3,.int 3,.int 3,.int 4,.int 4,.int 5] (i.val:Int)=some (.int (N.val:Int)):=by decide+kernel
theorem vZ:∀st:Fin 3,∀a:Fin 6,∀k:Fin 12,1≤(nameOf (st.val:Int) (a.val:Int) (k.val:Int)).length∧(nameOf (st.val:Int) (a.val:Int) (k.val:Int)).length≤40:=by decide+kernel
inductive ou (K:Frag)(vs:List V)(H:Hp)(Q:VK)(E_:XK):Prop where
 | mk (sA:Addr) (ns:List Int) (_:vs=[.ref sA]) (_:aT K H sA (ns.map V.int)) (_:∀(l:Addr) (us:List V) (pins:List aC) (H' :Hp),ar H H' →H l=none→H' l=some (.lst us)→Paired (ja K H') us pins→iC pins→pins.length≤5→(∀p∈pins,(1≤p.nm.length∧p.nm.length≤40)∧p.sp.1≤500010)→Q (.ref l) H'):ou K vs H Q E_
theorem iD:aA ["_law_script","_law_cell","_law_many","_law_kind","_law_pins_here","_law_k","_law_spot_here"] ["_law_script"] (af vp):=sq
theorem MZ (D:Def K mg "_law_pins" vp ["_law_script"])(a9:mg "range"=none)(yH:mg "min"=none)(jC:Fn P w K mg base (aX P w) 1 "_law_cell_at" ["_law_script","_law_k"] (i_ K))(cB:Fn P w K mg base (aX P w) 1 "_law_field" ["_law_cell","_law_prime","_law_many"] dz)
  (TF:Fn P w K mg base (aX P w) 34 "_law_spot" ["_law_cell","_law_kind"] (oq K)) (TH:Fn P w K mg base (aX P w) 34 "_law_ways" ["_law_cell"] (ot K)) (HZ:Fn P w K mg base (aX P w) 2 "_law_name" ["_law_cell","_law_k"] om) (jb:Fn P w K mg base (aX P w) 1 "_law_sum" ["_law_one","_law_other"] (bJ K dW)):
  Fn P w K mg base (aX P w) 35 "_law_pins" ["_law_script"] (ou K):=by
 refine D.ok iD (fun vs H Q E h=> ?_) (fun f bx A outer s H vs Q E hr h=> ?_)
 ·obtain ⟨sA,ns,rfl,_⟩:=h
  rfl
 obtain ⟨sA,ns,rfl,hS,q⟩:=h
 have L2:2≤sizeLine:=by decide
 have L3:3≤sizeLine:=by decide
 refine ⟨_,(ae (aw (i:=1) iD.nd rfl (aan rfl) (ay jC hr.mo pX (aq (pv 0) (aq ag aa))))
  (ae (aw (i:=2) iD.nd rfl (aan rfl) (aS aK (bD (aq ag (aq ag (aq ag (aq ag (aq ag (aq ag (aq ag (aq ag (aq ag (aq ag aa))))))))))) (ay cB hr.mo pX (aq (pv 1) (aq ag (aq ag aa)))) (fun _ _=>rfl)))
  (ae (aw (i:=3) iD.nd rfl (aan rfl) (ay cB hr.mo pX (aq (pv 1) (aq ag (aq ag aa)))))
  (ae (bG (aU cD (pv 3) ag (ba _)) (aj (aw (i:=2) iD.nd rfl (aan rfl) (aQ (ua rfl) rfl yH MX (aq (pv 2) (aq ag aa))))) aY)
  (ae (aw (i:=4) iD.nd rfl (aan rfl) (bD aa))
  (ae (bo PassesOwn.never rfl (bu rfl a9 (aq (pv 2) aa)) (aG (i:=5) iD.nd rfl (aan rfl)) (ae (aw (i:=6) iD.nd rfl (aan rfl) (ay TF hr.mo pX (aq (ay jC hr.mo pX (aq (pv 0) (aq (aH bO ag (pv 5)) aa))) (aq (pv 3) aa))))
   (ae (jT PassesOwn.never (aU (zZ hr.units) (pv 6) (de (tn:=["_law_pin"]) (fr:=[]) (caps:=[]) rfl ⟨rfl,by decide+kernel,rfl,by decide+kernel,by decide+kernel,rfl,trivial,trivial⟩ (bN (pv 4)) (fun _ _ _ _=>(aG (i:=0) (show (["_law_pin"]:List Str).Nodup from by decide+kernel) rfl (aan rfl))) (fun _ _ _ _=>cR) (fun _ _ _ _=>(aS (du (K:=K) rfl) (pv 0) ag (fun _ _=>rfl)))) rfl) (aj (aw (i:=6) iD.nd rfl (aan rfl) (aR (aq (ay jb hr.mo pX (aq (aJ (pv 6)) (aq (aR (aq ag (aq ag aa))) aa))) (aq (aJ (pv 6)) aa))))))
   (aj (bF (fN PySem.F.plainAttrs_list PySem.F.slot_list_append PySem.F.type_list_append cg (pv 4) (aq (aR (aq (ay HZ hr.mo pX (aq (pv 1) (aq (pv 5) aa))) (aq (pv 6) (aq (ay TH hr.mo pX (aq (ay jC hr.mo pX (aq (pv 0) (aq (aH bO ag (pv 5)) aa))) aa)) aa)))) aa)))))))
  (aj (aI (pv 4))))))))),?_⟩
 refine ⟨_,rfl,sA,ns,0,rfl,hS,by decide,by decide,?_⟩
 generalize cell ns 0=c0
 refine ⟨(by show 10≤sizeLine;decide),?_⟩
 intro t0 nt0;generalize eX:upd _ t0 _=H0;have ⟨st0,et0⟩:=nw nt0 eX;clear eX
 have i1:=aV (c:=c0) (p:=1009) (m:=10) (by decide)
 refine ⟨_,rfl,_,_,_,rfl,by decide,by decide,by decide,?_⟩
 generalize field c0 1009 10=fi at i1 ⊢
 obtain ⟨fn,rfl⟩:∃n:Nat,fi=(n:Int):=⟨fi.toNat,by omega⟩
 obtain ⟨N,eN⟩:=BB ⟨fn,by omega⟩
 refine ⟨t0,_,_,_,rfl,rfl,aT.of et0,eN,?_⟩
 refine ⟨_,rfl,_,_,_,rfl,by decide,by decide,by decide,?_⟩
 generalize field c0 2003 3=kind
 dsimp only
 refine kL (fun σ' H' =>∃N:Nat,N≤5∧σ' =[some (.ref sA),some (.int c0),some (.int (N:Int)),some (.int kind),none,none,none]∧H' =H0) (fun Nx H_=> ?_) ?_
 ·refine ⟨_,rfl,rfl,_,rfl,?_⟩
  refine bI (fun _=> ?_) (fun _=> ?_)
  ·have hN:=N.isLt
   refine ⟨_,rfl,_,_,rfl,?_⟩
   refine H_ _ _ ⟨min N.val 4,by omega,?_,rfl⟩
   have:(if (4:Int) < (N.val:Int) then (4:Int) else (N.val:Int))=((min N.val 4:Nat):Int):=by
    split <;> omega
   rw [this]
   rfl
  ·exact H_ _ _ ⟨N.val,by have:=N.isLt;omega,rfl,rfl⟩
 rintro σ' H' ⟨N,hN,rfl,rfl⟩
 refine ⟨(by show 0≤sizeLine;decide),?_⟩
 intro lp np;generalize eX:upd _ lp _=H1;have ⟨sp,ep⟩:=nw np eX;clear eX
 have Mv:=st0.trans sp
 have qJ:H lp=none:=st0.free np
 refine ⟨_,rfl,(N:Int),rfl,by omega,by omega,bz (lo:=0) (n:=N) (fun i σ H' =>∃(o5 o6:Option V) (us:List V) (pins:List aC),σ=[some (.ref sA),some (.int c0),some (.int (N:Int)),some (.int kind),some (.ref lp),o5,o6]∧ar H H' ∧H' lp=some (.lst us)∧Paired (iB K H' lp) us pins∧iC pins∧pins.length=i∧∀p∈pins,∃j,j < i∧p.nm=nameOf (field c0 3001 3) (field c0 4001 6) (j:Int)∧p.sp.1≤500010) ⟨none,none,[],[],rfl,Mv,ep,.nil,⟨by simp,by simp,by simp,by simp⟩,rfl,by simp⟩ ?_ ?_⟩
 ·rintro i σ H2 hi ⟨o5,o6,us,pins,rfl,s2,e2,pp,gp,lpi,nm⟩
  have ei:(0:Int)+(i:Int)=(i:Int):=aaS _
  rw [ei]
  have lu:us.length=pins.length:=Paired.length pp
  refine ⟨_,rfl,_,rfl,_,_,rfl,rfl,sA,ns,_,rfl,s2.seq hS,by omega,by omega,_,rfl,?_⟩
  refine ⟨_,_,rfl,fun p3 x0 y0 H3 s3 zx zy xb h3=> ?_⟩
  have S5:=s2.trans s3
  have h30:dC K H3 (.ref p3) (x0+((0:Nat):Rat),y0):=by
   have e:x0+((0:Nat):Rat)=x0:=by
    have:((0:Nat):Rat)=0:=by rfl
    rw [this]
    grind
   rw [e]
   exact h3
  dsimp only
  refine kL (fun σ' H' =>∃(sv:V) (x:Rat),σ' =[some (.ref sA),some (.int c0),some (.int (N:Int)),some (.int kind),some (.ref lp),some (.int (i:Int)),some sv]∧ar H3 H' ∧dC K H' sv (x,y0)∧(Sz 24 x∧x≤500010)∧(x,y0)∉pins.map (·.sp)) (fun Nx H_=> ?_) ?_
  ·refine ⟨fun m σ H' =>∃(sv:V) (j:Nat),σ=[some (.ref sA),some (.int c0),some (.int (N:Int)),some (.int kind),some (.ref lp),some (.int (i:Int)),some sv]∧ar H3 H' ∧dC K H' sv (x0+(j:Rat),y0)∧m=cnt pins (x0+(j:Rat))∧j+cnt pins (x0+(j:Rat))≤pins.length,⟨_,_,0,rfl,ar.refl _,h30,rfl,by have:=A_ pins (x0+((0:Nat):Rat));omega⟩,?_⟩
   rintro m σ H4 ⟨sv,j,rfl,s4,h4,rfl,hj⟩
   have e4:=(s3.trans s4) _ _ e2
   have TJ:Paired (iB K H4 lp) us pins:=Paired.bU pp fun _ _ z=>z.same (s3.trans s4)
   have zj:Sz 24 (x0+(j:Rat)):=(zx.add (rn (i:=(j:Int)) (k:=3) (show _ < 8 by omega) (by decide))).up (by decide)
   refine ⟨_,rfl,_,rfl,lp,rfl,⟨_,aT.of e4⟩,fun D1 n1=> ?_⟩
   refine c6 (cap:=[]) (K:=K) (a:=lp) (xs:=us) (fun i v H=>∃p,pins[i]? =some p∧dC K H v p.sp) n1 (by rw [lu];exact aar (show pins.length≤1000 by omega) (by decide)) (fun H2 s2=>aT.of (s2 _ _ e4)) (fun _ _ _ _ _ h0 ks h=>by
     obtain ⟨p,h1,h2⟩:=h
     refine ⟨p,h1,h2.aL fun b xs r=> ?_⟩
     rcases r with r | ⟨o',r⟩
     ·exact .inl (ks _ _ (fun e=>by rw [e,h0] at r;cases r) r)
     ·exact .inr ⟨o',ks _ _ (fun e=>by rw [e,h0] at r;cases r) r⟩) ?_ ?_
   ·intro jj u H6 R hu s6 k
    obtain ⟨p,oG,hp⟩:=aF TJ hu
    obtain ⟨a,l,sv,gH,rfl,h1,h2,_⟩:=hp
    exact ⟨_,rfl,a,_,_,_,rfl,rfl,Ty.ar.cO s6 h1,rfl,k _ _ (ar.refl _) ⟨p,oG,h2.same s6⟩⟩
   intro ys H6 hy gF s6 hD
   have pq:gd K H6 ys (pins.map (·.sp)):=iS (by rw [ir,hy,lu]) fun j u q' uq Rj =>by
    obtain ⟨p,h1,h2⟩:=gF j u uq
    rw [Wp,h1] at Rj
    cases Rj
    exact h2
   have h6:=h4.same s6
   refine ⟨(x0+(j:Rat),y0),D1,ys,_,rfl,aT.of hD,h6,pq,_,rfl,?_⟩
   refine bI (fun cc=> ?_) (fun cc=> ?_)
   ·have mem:(x0+(j:Rat),y0)∈pins.map (·.sp):=by simpa using cc
    obtain ⟨p,hp,oG⟩:=aal.mp mem
    have lt:=yG (x:=x0+(j:Rat)) ⟨p,hp,by rw [oG]⟩
    have ej:x0+(j:Rat)+1=x0+((j+1:Nat):Rat):=by
     push_cast
     grind
    rw [ej] at lt
    refine ⟨fun σ' H' =>∃(sv:V),σ' =[some (.ref sA),some (.int c0),some (.int (N:Int)),some (.int kind),some (.ref lp),some (.int (i:Int)),some sv]∧ar H3 H' ∧dC K H' sv (x0+((j+1:Nat):Rat),y0),fun σ' H' ⟨sv',h1,h2,h3⟩=>⟨_,lt,sv',j+1,h1,h2,h3,rfl,by omega⟩,?_⟩
    obtain ⟨sa,u1,u2,rfl,BC,TK,Jh⟩:=h6
    refine ⟨_,rfl,sa,_,_,_,rfl,rfl,BC,g9,L2,?_⟩
    intro p7 n7;generalize eX:upd _ p7 _=H7;have ⟨s7,e7⟩:=nw n7 eX;clear eX
    refine ⟨u1,.ref p7,qr (x0+(j:Rat)),(1,1),24,1,rfl,TK.same s7,⟨p7,rfl,bQ.of e7⟩,MY zj,⟨by decide,by decide⟩,by decide,fun p8 H8 s8 e8=> ?_⟩
    rw [BA,ej] at e8
    refine ⟨_,rfl,sa,_,_,_,rfl,rfl,Ty.ar.cO (s7.trans s8) BC,gP,L2,?_⟩
    intro p9 n9;generalize eX:upd _ p9 _=H9;have ⟨s9,e9⟩:=nw n9 eX;clear eX
    have s69:=(s7.trans s8).trans s9
    exact ⟨.ref p9,rfl,(s4.trans s6).trans s69,mJ e9 ((gs e8).same s9) (Jh.same s69)⟩
   ·have fresh:(x0+(j:Rat),y0)∉pins.map (·.sp):=by simpa using cc
    exact H_ _ _ ⟨sv,x0+(j:Rat),rfl,s4.trans s6,h6,⟨zj,(by have K0 :((j:Int):Rat)≤((5:Int):Rat):=abP.mpr (by omega);have e1:((j:Int):Rat)=(j:Rat):=rfl;have e2:((5:Int):Rat)=5:=rfl;rw [e1,e2] at K0;grind)⟩,fresh⟩
  rintro σ' H4 ⟨sv,x,rfl,s4,h4,⟨zx',xb'⟩,fresh⟩
  have Mz:=s3.trans s4
  have rX:=s2.trans Mz
  have e4:=Mz _ _ e2
  have TJ:Paired (iB K H4 lp) us pins:=Paired.bU pp fun _ _ z=>z.same Mz
  refine ⟨_,rfl,.inl ⟨rfl,_,aT.of e4⟩,_,rfl,_,rfl,_,_,rfl,by omega,by omega,_,rfl,?_⟩
  refine ⟨_,rfl,_,rfl,_,_,rfl,rfl,sA,ns,_,rfl,rX.seq hS,by omega,by omega,?_⟩
  refine ⟨_,rfl,fun l8 us8 ws H8 wk s8 n8 e8 p8=>⟨L3,?_⟩⟩
  intro p9 n9;generalize eX:upd _ p9 _=H9;have ⟨s9,e9⟩:=nw n9 eX;clear eX
  have Rk:=s8.trans s9
  have TL:=Rk _ _ e4
  have pp9:Paired (iB K H9 lp) us pins:=Paired.bU TJ fun _ _ z=>z.same Rk
  refine ⟨lp,_,_,rfl,rfl,TL,(by rw [lu];exact aar (show pins.length≤1000 by omega) (by decide)),?_⟩
  have qF:iB K H9 lp (.ref p9) ⟨nameOf (field c0 3001 3) (field c0 4001 6) (i:Int),(x,y0),ws⟩:=⟨p9,l8,sv,us8,rfl,bQ.of e9,h4.same Rk,s9 _ _ e8,p8.same s9,fun z=>by rw [z,e4] at n8;cases n8⟩
  refine ⟨_,_,_,pins++[⟨nameOf (field c0 3001 3) (field c0 4001 6) (i:Int),(x,y0),ws⟩],rfl,fun b o z=> ?_,ah,cw (Paired.bU pp9 fun _ _ z=>z.upd TL) (qF.upd TL),gp.snoc (fun z=> ?_) fresh ⟨zx',zy.up (by decide)⟩ wk,by simp [lpi],fun p hp=> ?_⟩
  ·rw [ak (ao z qJ)]
   exact Rk _ _ (rX _ _ z)
  ·obtain ⟨p,hp,oG⟩:=aal.mp z
   obtain ⟨j,hj,ej,_⟩:=nm p hp
   have i3:=aV (c:=c0) (p:=3001) (m:=3) (by decide)
   have i4:=aV (c:=c0) (p:=4001) (m:=6) (by decide)
   have:=qv ⟨(field c0 3001 3).toNat,by omega⟩ ⟨(field c0 4001 6).toNat,by omega⟩ ⟨j,by omega⟩ ⟨i,by omega⟩ (fun z=>by
    have:=congrArg Fin.val z
    simp at this
    omega)
   refine this ?_
   show nameOf (((field c0 3001 3).toNat:Nat):Int) (((field c0 4001 6).toNat:Nat):Int) (j:Int)=nameOf (((field c0 3001 3).toNat:Nat):Int) (((field c0 4001 6).toNat:Nat):Int) (i:Int)
   rw [show (((field c0 3001 3).toNat:Nat):Int)=field c0 3001 3 by omega,show (((field c0 4001 6).toNat:Nat):Int)=field c0 4001 6 by omega, ← ej]
   exact oG
  ·rcases aaH.mp hp with z | z
   ·obtain ⟨j,hj,ej,eb⟩:=nm p z
    exact ⟨j,by omega,ej,eb⟩
   ·rw [aaD.mp z]
    exact ⟨i,by omega,rfl,xb'⟩
 ·rintro σ H2 ⟨o5,o6,us,pins,rfl,s2,e2,pp,gp,lpi,nm⟩
  refine ⟨_,rfl,q lp us pins H2 s2 qJ e2 (Paired.bU pp fun _ _ z=>z.r) gp (by omega) fun p hp=> ?_⟩
  obtain ⟨j,hj,ej,eb⟩:=nm p hp
  refine ⟨?_,eb⟩
  rw [ej]
  have f1:=aV (c:=c0) (p:=3001) (m:=3) (by decide)
  have f2:=aV (c:=c0) (p:=4001) (m:=6) (by decide)
  obtain ⟨u,hu⟩:∃n:Nat,field c0 3001 3=(n:Int):=⟨(field c0 3001 3).toNat,by omega⟩
  obtain ⟨v,hv⟩:∃n:Nat,field c0 4001 6=(n:Int):=⟨(field c0 4001 6).toNat,by omega⟩
  rw [hu,hv]
  exact vZ ⟨u,by omega⟩ ⟨v,by omega⟩ ⟨j,by omega⟩
inductive ow (K:Frag)(vs:List V)(H:Hp)(Q:VK)(E_:XK):Prop where
 | mk (sA pA:Addr) (ns:List Int) (us:List V) (pins:List aC) (_:vs=[.ref sA,.ref pA]) (_:aT K H sA (ns.map V.int)) (_:H pA=some (.lst us)) (_:us.length=pins.length) (_:(pins.map (·.nm)).Nodup) (_:pins.length≤6) (_:∀(l:Addr) (eV :List V) (bars:List a8) (H' :Hp),ar H H' →H l=none→H' l=some (.lst eV)→Paired (kJ K H' pins) eV bars→kK pins bars→bars.length≤7→Q (.ref l) H'):ow K vs H Q E_
theorem kK.snoc {pins:List aC}{bars:List a8}{b:a8}(g:kK pins bars)(h1:b.nm∉bars.map (·.nm))(h2:b.one∈pins∧b.other∈pins∧b.one.nm≠b.other.nm):kK pins (bars++[b]):=by
 refine ⟨?_,fun q hq=> ?_⟩
 ·rw [aaA,aby]
  refine ⟨g.nb,by simp,fun a ha c hc e=>h1 ?_⟩
  have:c=b.nm:=by simpa using hc
  rw [← this, ← e]
  exact ha
 ·rcases aaH.mp hq with z | z
  ·exact g.ends q z
  ·rw [aaD.mp z]
   exact h2
theorem jq:aA ["_law_script","_law_pins_here","_law_cell","_law_many","_law_bars_here","_law_k","_law_one","_law_step"] ["_law_script","_law_pins_here"] (af vq):=sq
theorem M0 (D:Def K mg "_law_bars" vq ["_law_script","_law_pins_here"])(a9:mg "range"=none)(aZ:mg "len"=none)(jC:Fn P w K mg base (aX P w) 1 "_law_cell_at" ["_law_script","_law_k"] (i_ K))(cB:Fn P w K mg base (aX P w) 1 "_law_field" ["_law_cell","_law_prime","_law_many"] dz)(HZ:Fn P w K mg base (aX P w) 2 "_law_name" ["_law_cell","_law_k"] om):
  Fn P w K mg base (aX P w) 3 "_law_bars" ["_law_script","_law_pins_here"] (ow K):=by
 refine D.ok jq (fun vs H Q E h=> ?_) (fun f bx A outer s H vs Q E hr h=> ?_)
 ·obtain ⟨sA,pA,ns,us,pins,rfl,_⟩:=h
  rfl
 obtain ⟨sA,pA,ns,us,pins,rfl,hS,hp,lu,np,lp,q⟩:=h
 have L3:3≤sizeLine:=by decide
 refine ⟨_,(ae (aw (i:=2) jq.nd rfl (aan rfl) (ay jC hr.mo pX (aq (pv 0) (aq ag aa))))
  (ae (aw (i:=3) jq.nd rfl (aan rfl) (ay cB hr.mo pX (aq (pv 2) (aq ag (aq ag aa)))))
  (ae (bG (aU oT (aQ aE rfl aZ bT (aq (pv 1) aa)) ag (ba _)) (aj (aw (i:=3) jq.nd rfl (aan rfl) ag)) aY)
  (ae (aw (i:=4) jq.nd rfl (aan rfl) (bD aa))
  (ae (bo PassesOwn.never rfl (bu rfl a9 (aq (pv 3) aa)) (aG (i:=5) jq.nd rfl (aan rfl)) (ae (aw (i:=6) jq.nd rfl (aan rfl) (ay cB hr.mo pX (aq (ay jC hr.mo pX (aq (pv 0) (aq (aH bO ag (pv 5)) aa))) (aq ag (aq (aQ aE rfl aZ bT (aq (pv 1) aa)) aa)))))
   (ae (aw (i:=7) jq.nd rfl (aan rfl) (aH bO ag (ay cB hr.mo pX (aq (ay jC hr.mo pX (aq (pv 0) (aq (aH bO ag (pv 5)) aa))) (aq ag (aq (aH cu (aQ aE rfl aZ bT (aq (pv 1) aa)) ag) aa))))))
   (aj (bF (fN PySem.F.plainAttrs_list PySem.F.slot_list_append PySem.F.type_list_append cg (pv 4) (aq (aR (aq (ay HZ hr.mo pX (aq (pv 2) (aq (pv 5) aa))) (aq (pv 6) (aq (aH d5 (aH bO (pv 6) (pv 7)) (aQ aE rfl aZ bT (aq (pv 1) aa))) aa)))) aa)))))))
  (aj (aI (pv 4)))))))),?_⟩
 refine ⟨_,rfl,sA,ns,1,rfl,hS,by decide,by decide,?_⟩
 generalize cell ns 1=c0
 have i1:=aV (c:=c0) (p:=1009) (m:=8) (by decide)
 refine ⟨_,rfl,_,_,_,rfl,by decide,by decide,by decide,?_⟩
 generalize field c0 1009 8=fi at i1 ⊢
 obtain ⟨fn,rfl⟩:∃n:Nat,fi=(n:Int):=⟨fi.toNat,by omega⟩
 dsimp only
 refine kL (fun σ' H' =>∃N:Nat,N≤7∧(0 < N→2≤pins.length)∧σ' =[some (.ref sA),some (.ref pA),some (.int c0),some (.int (N:Int)),none,none,none,none]∧H' =H) (fun Nx H_=> ?_) ?_
 ·refine ⟨_,rfl,pA,_,rfl,.inl (aT.of hp),_,_,rfl,rfl,_,rfl,?_⟩
  refine bI (fun _=> ?_) (fun c=> ?_)
  ·exact H_ _ _ ⟨0,by omega,by omega,rfl,rfl⟩
  ·have c' :¬ (us.length:Int) < 2:=fun z=>c (decide_eq_true z)
   exact H_ _ _ ⟨fn,by omega,fun _=>by omega,rfl,rfl⟩
 rintro σ' Hy ⟨N,hN,SJ,rfl,rfl⟩
 refine ⟨(by show 0≤sizeLine;decide),?_⟩
 intro lb nb;generalize eX:upd _ lb _=H1;have ⟨sb,eb⟩:=nw nb eX;clear eX
 refine ⟨_,rfl,(N:Int),rfl,by omega,by omega,bz (lo:=0) (n:=N) (fun i σ H' =>∃(o5 o6 o7:Option V) (eV :List V) (bars:List a8),σ=[some (.ref sA),some (.ref pA),some (.int c0),some (.int (N:Int)),some (.ref lb),o5,o6,o7]∧ar Hy H' ∧H' lb=some (.lst eV)∧Paired (kJ K H' pins) eV bars∧kK pins bars∧bars.length=i∧∀b∈bars,∃j,j < i∧b.nm=nameOf (field c0 3001 3) (field c0 4001 6) (j:Int)) ⟨none,none,none,[],[],rfl,sb,eb,.nil,⟨by simp,by simp⟩,rfl,by simp⟩ ?_ ?_⟩
 ·rintro i σ H2 hi ⟨o5,o6,o7,eV,bars,rfl,s2,e2,pb,gb,lbi,nm⟩
  have ei:(0:Int)+(i:Int)=(i:Int):=aaS _
  rw [ei]
  have n2:2≤pins.length:=SJ (by omega)
  have lv:eV.length=bars.length:=Paired.length pb
  have sp:=aT.of (K:=K) (s2 _ _ hp)
  refine ⟨_,rfl,_,rfl,_,_,rfl,rfl,sA,ns,_,rfl,s2.seq hS,by omega,by omega,_,rfl,pA,_,rfl,.inl sp,_,_,_,rfl,by decide,by decide,by omega,?_⟩
  have j1:=aV (c:=cell ns (8+(i:Int))) (p:=1009) (m:=(us.length:Int)) (by omega)
  have j2:=aV (c:=cell ns (8+(i:Int))) (p:=2003) (m:=(us.length:Int) - 1) (by omega)
  refine ⟨_,rfl,_,rfl,_,_,rfl,rfl,sA,ns,_,rfl,s2.seq hS,by omega,by omega,_,rfl,pA,_,rfl,.inl sp,_,_,rfl,rfl,_,_,_,rfl,by decide,by decide,by omega,_,_,rfl,rfl,?_⟩
  generalize field (cell ns (8+(i:Int))) 1009 (us.length:Int)=one at j1 ⊢
  generalize field (cell ns (8+(i:Int))) 2003 ((us.length:Int) - 1)=step at j2 ⊢
  obtain ⟨on,rfl⟩:∃n:Nat,one=(n:Int):=⟨one.toNat,by omega⟩
  have oo:∃m:Nat,((on:Int)+(1+step)).fmod (us.length:Int)=(m:Int)∧m < us.length∧m≠on:=by
   have f:=jR (x:=(on:Int)+(1+step)) (m:=(us.length:Int)) (by omega)
   refine ⟨(((on:Int)+(1+step)).fmod (us.length:Int)).toNat,by omega,by omega,fun z=> ?_⟩
   have e:((on:Int)+(1+step)).fmod (us.length:Int)=(on:Int):=by omega
   rw [Int.fmod_eq_emod_of_nonneg _ (by omega)] at e
   by_cases c:(on:Int)+(1+step) < (us.length:Int)
   ·rw [akq (by omega) c] at e
    omega
   ·rw [← Int.sub_emod_right,akq (by omega) (by omega)] at e
    omega
  obtain ⟨Rl,Rj,l2',ne2⟩:=oo
  refine ⟨_,rfl,.inl ⟨rfl,_,aT.of e2⟩,_,rfl,_,rfl,_,_,rfl,by omega,by omega,_,rfl,_,rfl,_,rfl,_,_,rfl,rfl,_,rfl,pA,_,rfl,.inl sp,_,_,rfl,rfl,nz (by omega),L3,?_⟩
  intro p9 n9;generalize eX:upd _ p9 _=H9;have ⟨s9,e9⟩:=nw n9 eX;clear eX
  have e9:H9 p9=some (.tup [.str (nameOf (field c0 3001 3) (field c0 4001 6) (i:Int)),.int (on:Int),.int (((on:Int)+(1+step)).fmod (us.length:Int))]):=e9
  rw [Rj] at e9
  have Jy:=s9 _ _ e2
  refine ⟨lb,_,_,rfl,rfl,Jy,(by rw [lv];exact aar (show bars.length≤1000 by omega) (by decide)),?_⟩
  have l1:on < pins.length:=by omega
  have l2:Rl < pins.length:=by omega
  have st:bf H9 (upd H9 lb (.lst (eV ++[.ref p9]))):=.list Jy
  have ns9:∀(v:V) (b:a8),kJ K H2 pins v b→kJ K (upd H9 lb (.lst (eV ++[.ref p9]))) pins v b:=fun v b h=>by
   obtain ⟨a,i',j',e,h1,h2,h3⟩:=h.same s9
   exact ⟨a,i',j',e,st.cO h1,h2,h3⟩
  refine ⟨_,_,_,eV ++[.ref p9],bars++[⟨nameOf (field c0 3001 3) (field c0 4001 6) (i:Int),pins[on],pins[Rl]⟩],rfl,fun b o z=> ?_,ah,cw (Paired.bU pb fun _ _ z=>ns9 _ _ z) ?_,gb.snoc (fun z=> ?_) ⟨abo l1,abo l2,fun z=> ?_⟩,by simp [lbi],fun b hb=> ?_⟩
  ·rw [ak (ao z nb)]
   exact s9 _ _ (s2 _ _ z)
  ·exact ⟨p9,on,Rl,rfl,st.cO (bQ.of e9),gE l1,gE l2⟩
  ·obtain ⟨b,hb,oG⟩:=aal.mp z
   obtain ⟨j,hj,ej⟩:=nm b hb
   have i3:=aV (c:=c0) (p:=3001) (m:=3) (by decide)
   have i4:=aV (c:=c0) (p:=4001) (m:=6) (by decide)
   have:=qv ⟨(field c0 3001 3).toNat,by omega⟩ ⟨(field c0 4001 6).toNat,by omega⟩ ⟨j,by omega⟩ ⟨i,by omega⟩ (fun z=>by
    have:=congrArg Fin.val z
    simp at this
    omega)
   refine this ?_
   show nameOf (((field c0 3001 3).toNat:Nat):Int) (((field c0 4001 6).toNat:Nat):Int) (j:Int)=nameOf (((field c0 3001 3).toNat:Nat):Int) (((field c0 4001 6).toNat:Nat):Int) (i:Int)
   rw [show (((field c0 3001 3).toNat:Nat):Int)=field c0 3001 3 by omega,show (((field c0 4001 6).toNat:Nat):Int)=field c0 4001 6 by omega, ← ej]
   exact oG
  ·have q1:(pins.map (·.nm))[on]? =some pins[on].nm:=by rw [Wp,gE l1];rfl
   have q2:(pins.map (·.nm))[Rl]? =some pins[on].nm:=by rw [Wp,gE l2];exact congrArg some z.symm
   exact ne2 ((abM (by rw [ir];omega) np).mp (q1.trans q2.symm)).symm
  ·rcases aaH.mp hb with z | z
   ·obtain ⟨j,hj,ej⟩:=nm b z
    exact ⟨j,by omega,ej⟩
   ·rw [aaD.mp z]
    exact ⟨i,by omega,rfl⟩
 ·rintro σ H2 ⟨o5,o6,o7,eV,bars,rfl,s2,e2,pb,gb,lbi,nm⟩
  exact ⟨_,rfl,q lb eV bars H2 s2 nb e2 pb gb (by omega)⟩
theorem BD (v:V):abj ("ways":Str) [(("way":Str),v)]=none:=by
 have h:(("ways":Str)=="way")=false:=by decide+kernel
 simp [abj,h]
inductive kN (K:Frag)(C:Addr)(vs:List V)(H:Hp)(Q:VK)(E_:XK):Prop where
 | mk (pA bA:Addr) (us eV :List V) (pins:List aC) (bars:List a8) (_:vs=[.ref pA,.ref bA]) (_:H pA=some (.lst us)) (_:Paired (ja K H) us pins) (_:H bA=some (.lst eV)) (_:Paired (kJ K H pins) eV bars) (_:iC pins) (_:kK pins bars) (_:pins.length≤6) (_:bars.length≤8) (_:∀(a:Addr) (H' :Hp),ar H H' →s_ K H' C a pins bars→Q (.ref a) H'):kN K C vs H Q E_
theorem jr:aA ["_law_pins_here","_law_bars_here","_law_frame_here","_law_name_here","_law_spot_here","_law_ways_here","_law_one","_law_other"] ["_law_pins_here","_law_bars_here"] (af vt):=sq
theorem M1 {C CR CF fI fR:Addr}{fdI fdR:FuncData}(D:Def K mg "_law_frame" vt ["_law_pins_here","_law_bars_here"])(aZ:mg "len"=none)(Iw:Mk K C fI)(Iy:mg "Frame"=some (.ref C))(TM:cj P w K mg base (aX P w) 1 fI fdI ["self"] (nQ K C))(Iz:Binds K fdI ["self"] [])
  (IA:mg "Roller"=some (.ref CR)) (IC:mg "Fixed"=some (.ref CF)) (ID:Kn K CF) (IE:Mk K CR fR) (TN:cj P w K mg base (aX P w) 1 fR fdR ["self","x","y"] (nV K CR)) (IF:Binds K fdR ["self","x","y"] [])
  (wR:bE P w K mg base (aX P w) 2 CR "ways" ["self"] (ia K CR)) (wF:bE P w K mg base (aX P w) 2 CF "ways" ["self"] (ib K))
  (TQ:bE P w K mg base (aX P w) 3 C "put_bar" ["self","name","one","other"] (ie K C)) (Rm:bE P w K mg base (aX P w) 3 C "put_pin" ["self","name","x","y","hold"] (c8 P w K mg base C)) (TR:rl P w K mg base (aX P w) 3 C "put_pin" ["self","name","x","y","hold"] [.none] (c8 P w K mg base C)):
  Fn P w K mg base (aX P w) 4 "_law_frame" ["_law_pins_here","_law_bars_here"] (kN K C):=by
 refine D.ok jr (fun vs H Q E h=> ?_) (fun f bx A outer s H vs Q E hr h=> ?_)
 ·obtain ⟨pA,bA,us,eV,pins,bars,rfl,_⟩:=h
  rfl
 obtain ⟨pA,bA,us,eV,pins,bars,rfl,hp,pp,hb,pb,gp,gb,lp6,lb8,q⟩:=h
 have lu:us.length=pins.length:=Paired.length pp
 refine ⟨_,(ae (aw (i:=2) jr.nd rfl (aan rfl) (wX Iw TM hr.mo rfl Iy Iz .nil (pY P w)))
  (ae (bo PassesOwn.never rfl (bN (pv 0)) (fJ rfl (bg (aG (i:=3) jr.nd rfl (aan rfl)) (bg (aG (i:=4) jr.nd rfl (aan rfl)) (bg (aG (i:=5) jr.nd rfl (aan rfl)) c_)))) (ae (bG (aU cD (aQ aE rfl aZ bT (aq (pv 5) aa)) ag (ba _)) (aj (bF (zY (k:=3) (pv 2) hr.mo (pY P w) (aq (pv 3) (aq (aJ (pv 4)) (aq (aJ (pv 4)) aa)))))) aY)
   (ae (bG (aU cD (aQ aE rfl aZ bT (aq (pv 5) aa)) ag (ba _)) (aj (bF (cZ (k:=3) (pv 2) hr.mo (pY P w) (aq (pv 3) (aq (aJ (pv 4)) (aq (aJ (pv 4)) (aq (zv IE TN hr.mo rfl IA IF .nil (pY P w) (aq (aJ (gk (pv 5))) (aq (aJ (gk (pv 5))) aa))) aa))))))) aY)
   (aj (bG (aU cD (aQ aE rfl aZ bT (aq (pv 5) aa)) ag (ba _)) (aj (bF (cZ (k:=3) (pv 2) hr.mo (pY P w) (aq (pv 3) (aq (aJ (pv 4)) (aq (aJ (pv 4)) (aq (FN ID rfl IC) aa))))))) aY)))))
  (ae (bo PassesOwn.never rfl (bN (pv 1)) (fJ rfl (bg (aG (i:=3) jr.nd rfl (aan rfl)) (bg (aG (i:=6) jr.nd rfl (aan rfl)) (bg (aG (i:=7) jr.nd rfl (aan rfl)) c_)))) (aj (bF (cZ (k:=3) (pv 2) hr.mo (pY P w) (aq (pv 3) (aq (aJ (aS aK (pv 0) (pv 6) (fun _ _=>rfl))) (aq (aJ (aS aK (pv 0) (pv 7) (fun _ _=>rfl))) aa)))))))
  (aj (aI (pv 2)))))),?_⟩
 intro a dx na ndx nad
 have sF:ar H (upd (upd H dx (.own a)) a (.ins C dx [])):=fun b o e=>by rw [ak (ao e na),ak (ao e ndx)];exact e
 refine ⟨a,dx,rfl,ah,fun pP pW pB H1 k1 nP nW nB R1=>⟨rfl,?_⟩⟩
 have s1:ar H H1:=fun b o e=>k1 b o (ao e na) (sF _ _ e)
 have nP:=iY sF nP
 have nW:=iY sF nW
 have nB:=iY sF nB
 refine ⟨_,rfl,pA,rfl,⟨_,aT.of (s1 _ _ hp)⟩,cC (K:=K) (a:=pA) (xs:=us) (fun i σ H' =>∃(o4 o5 o6:Option V) (kP kW:List (Key×V)),σ=[some (.ref pA),some (.ref bA),some (.ref a),o4,o5,o6,none,none]∧ar H H' ∧dZ K H' C a dx pP pW pB ((pins.take i).map fun p=>(p.nm,qa p.sp)) [] kP kW []∧qG K H' ((pins.take i).map fun p=>(p.nm,p.ws)) kW) ⟨none,none,none,[],[],rfl,s1,R1,.nil⟩ (fun i σ H' _ h=>by
   obtain ⟨_,_,_,_,_,_,s,_⟩:=h
   exact aT.of (s _ _ hp)) ?_ ?_⟩
 ·rintro i u σ H2 hu ⟨o4,o5,o6,kP,kW,rfl,s2,R2,W2⟩
  obtain ⟨p,ep,yI⟩:=aF pp hu
  have mp:p∈pins:=aai ep
  obtain ⟨ta,l,sv,ws,rfl,h1,h2,h3,h4⟩:=yI.same s2
  obtain ⟨sa,x1,y1,rfl,BC,TK,Jh⟩:=h2
  refine ⟨ta,_,rfl,h1,rfl,_,_,rfl,_,_,rfl,_,_,rfl,rfl,?_⟩
  have tk:=take_snoc ep
  have il:i < pins.length:=(be.mp ep).1
  have nlP:l≠pP:=fun z=>by rw [z,R2.pl] at h3;cases h3
  have nlW:l≠pW:=fun z=>by rw [z,R2.wy] at h3;cases h3
  have fin:∀(hv:V) (H5:Hp) (Q5:VK) (E5:XK),ar H2 H5→DG P w K mg base H5 hv p.ws→
    (∀H' x_ pZ,ar H H' →H' l=some (.lst ws)→dZ K H' C a dx pP pW pB ((pins.take (i+1)).map fun p=>(p.nm,qa p.sp)) [] x_ pZ []→qG K H' ((pins.take (i+1)).map fun p=>(p.nm,p.ws)) pZ →Q5 .cb H')→c8 P w K mg base C [.ref a,.str p.nm,x1,y1,hv] H5 Q5 E5:=fun hv H5 Q5 E5 s5 hY fin=>by
   refine ⟨a,dx,pP,pW,pB,_,_,kP,kW,_,_,p.nm,x1,y1,hv,qa p.sp,p.ws,rfl,R2.same s5,W2.same s5,by rw [aaI,aaI];rfl,TK.same s5,Jh.same s5,fun z=> ?_,fun z hz e=> ?_,?_,hY,fun H' x_ pZ k' R' W' => ?_⟩
   ·rw [aaI] at z
    obtain ⟨p',iq,e'⟩:=aal.mp z
    exact dO (nm:=aC.nm) gp.np ep iq e'
   ·obtain ⟨p',iq,e'⟩:=aal.mp hz
    rw [← e'] at e
    have e1:=congrArg alg e
    have e2:=congrArg alh e
    have e3:p'.sp=p.sp:=acb (gD e1) (gD e2)
    obtain ⟨j,hj,ej⟩:=aa5.mp iq
    rw [akp] at ej
    rw [aaG] at hj
    have q1:(pins.map (·.sp))[j]? =some p.sp:=by rw [Wp,gE (by omega),ej, ← e3];rfl
    have q2:(pins.map (·.sp))[i]? =some p.sp:=by rw [Wp,ep];rfl
    have:=(abM (by rw [ir];omega) gp.ns).mp (q1.trans q2.symm)
    omega
   ·rw [ir,aaG]
    omega
   ·refine fin H' x_ pZ (fun b o z=>k' b o (ao z nP) (ao z nW) (s5 _ _ (s2 _ _ z))) (k' _ _ nlP nlW (s5 _ _ h3)) ?_ ?_
    ·rw [tk,aaA]
     exact R'
    ·rw [tk,aaA]
     exact W'
  have l2:=aT.of (K:=K) h3
  have lw:ws.length=p.ws.length:=Paired.length h4
  refine ⟨_,rfl,l,_,rfl,.inl l2,rfl,_,rfl,?_⟩
  rcases gp.ws p mp with hw | ⟨wx,wy,hw,wn,_,_⟩ | hw
  ·rw [hw] at lw
   refine bI (fun _=> ?_) (fun c=>by rw [lw] at c;simp at c)
   refine ⟨_,rfl,a,C,dx,_,_,_,rfl,R2.obj,rfl,TR,_,rfl,_,rfl,sa,_,_,_,rfl,rfl,BC,g9,_,rfl,sa,_,_,_,rfl,rfl,BC,gP,?_⟩
   dsimp only [fL]
   refine fin .cb H2 _ _ (ar.refl _) (.inl ⟨rfl,hw⟩) fun H' x_ pZ s' l' R' W' => ?_
   have l' :=aT.of (K:=K) l'
   refine ⟨_,rfl,l,_,rfl,.inl l',rfl,_,rfl,?_⟩
   refine bI (fun c=>by rw [lw] at c;simp at c) (fun _=> ?_)
   refine ⟨_,rfl,l,_,rfl,.inl l',rfl,_,rfl,?_⟩
   refine bI (fun c=>by rw [lw] at c;simp at c) (fun _=> ?_)
   exact ⟨_,_,_,x_,pZ,rfl,s',R',W'⟩
  ·rw [hw] at lw h4
   obtain ⟨w0,rfl⟩:∃w0,ws=[w0]:=by
    match ws,lw with
    | [w0],_=>exact ⟨w0,rfl⟩
   have hw0:dC K H2 w0 (wx,wy):=by
    cases h4 with
    | cons h _=>exact h
   obtain ⟨wa,y2,y3,rfl,Jk,Jn,hm2⟩:=hw0
   refine bI (fun c=>by simp at c) (fun _=> ?_)
   refine ⟨_,rfl,l,_,rfl,.inl l2,rfl,_,rfl,?_⟩
   refine bI (fun _=> ?_) (fun c=>absurd rfl c)
   refine ⟨_,rfl,a,C,dx,_,_,_,rfl,R2.obj,rfl,Rm,_,rfl,_,rfl,sa,_,_,_,rfl,rfl,BC,g9,_,rfl,sa,_,_,_,rfl,rfl,BC,gP,?_⟩
   refine ⟨_,rfl,l,_,_,_,rfl,rfl,l2,rfl,wa,_,_,_,rfl,rfl,Jk,g9,_,rfl,l,_,_,_,rfl,rfl,l2,rfl,wa,_,_,_,rfl,rfl,Jk,gP,?_⟩
   intro gc d1 Rn TU ne1
   have s4:ar H2 (upd (upd H2 d1 (.own gc)) gc (.ins CR d1 [])):=fun b o e=>by rw [ak (ao e Rn),ak (ao e TU)];exact e
   have e4:(upd (upd H2 d1 (.own gc)) gc (.ins CR d1 [])) gc =some (.ins CR d1 []):=ah
   generalize upd (upd H2 d1 (.own gc)) gc (.ins CR d1 [])=H4 at s4 e4 ⊢
   refine ⟨gc,d1,y2,y3,wx,wy,rfl,e4,Jn.same s4,hm2.same s4,wn,fun p5 n5=>⟨rfl,?_⟩⟩
   have C':p5≠gc :=fun z=>by rw [z,e4] at n5;cases n5
   have s5:ar H2 (upd (upd H4 p5 (.tup [y2,y3])) gc (.ins CR d1 [("way",.ref p5)])):=fun b o e=>by
    have z:b≠gc :=fun z=>by rw [z,Rn] at e;cases e
    rw [ak z]
    exact aD n5 _ _ _ (s4 _ _ e)
   have e5:(upd (upd H4 p5 (.tup [y2,y3])) gc (.ins CR d1 [("way",.ref p5)])) gc =some (.ins CR d1 [("way",.ref p5)]):=ah
   have t5:(upd (upd H4 p5 (.tup [y2,y3])) gc (.ins CR d1 [("way",.ref p5)])) p5=some (.tup [y2,y3]):=by rw [ak C',ah]
   generalize upd (upd H4 p5 (.tup [y2,y3])) gc (.ins CR d1 [("way",.ref p5)])=H5 at s5 e5 t5 ⊢
   have TV:dC K H5 (.ref p5) (wx,wy):=mJ t5 (Jn.same s5) (hm2.same s5)
   dsimp only [fL]
   refine fin (.ref gc) H5 _ _ s5 (.inr ⟨gc,CR,d1,_,["self"],ia K CR,rfl,e5,BD _,wR,fun H6 e6 t6 Q' an=>⟨gc,d1,p5,(wx,wy),rfl,e6,TV.aL t6,by rw [hw] at an;exact an⟩⟩) fun H' x_ pZ s' l' R' W' => ?_
   refine ⟨_,rfl,l,_,rfl,.inl (aT.of (K:=K) l'),rfl,_,rfl,?_⟩
   refine bI (fun c=>by simp at c) (fun _=> ?_)
   exact ⟨_,_,_,x_,pZ,rfl,s',R',W'⟩
  ·rw [hw] at lw
   refine bI (fun c=>by rw [lw] at c;simp at c) (fun _=> ?_)
   refine ⟨_,rfl,l,_,rfl,.inl l2,rfl,_,rfl,?_⟩
   refine bI (fun c=>by rw [lw] at c;simp at c) (fun _=> ?_)
   refine ⟨_,rfl,l,_,rfl,.inl l2,rfl,_,rfl,?_⟩
   refine bI (fun _=> ?_) (fun c=>by rw [lw] at c;simp at c)
   refine ⟨_,rfl,a,C,dx,_,_,_,rfl,R2.obj,rfl,Rm,_,rfl,_,rfl,sa,_,_,_,rfl,rfl,BC,g9,_,rfl,sa,_,_,_,rfl,rfl,BC,gP,?_⟩
   intro gc d1 Rn TU ne1
   have s4:ar H2 (upd (upd H2 d1 (.own gc)) gc (.ins CF d1 [])):=fun b o e=>by rw [ak (ao e Rn),ak (ao e TU)];exact e
   have e4:(upd (upd H2 d1 (.own gc)) gc (.ins CF d1 [])) gc =some (.ins CF d1 []):=ah
   generalize upd (upd H2 d1 (.own gc)) gc (.ins CF d1 [])=H4 at s4 e4 ⊢
   dsimp only [fL]
   refine fin (.ref gc) H4 _ _ s4 (.inr ⟨gc,CF,d1,_,["self"],ib K,rfl,e4,rfl,wF,fun H6 _ _ Q' an=>⟨gc,rfl,by rw [hw] at an;exact an⟩⟩) fun H' x_ pZ s' l' R' W' => ?_
   exact ⟨_,_,_,x_,pZ,rfl,s',R',W'⟩
 ·rintro σ H2 ⟨o4,o5,o6,kP,kW,rfl,s2,R2,W2⟩
  rw [lu,aaQ] at R2 W2
  have lv:eV.length=bars.length:=Paired.length pb
  refine ⟨_,rfl,bA,rfl,⟨_,aT.of (s2 _ _ hb)⟩,cC (K:=K) (a:=bA) (xs:=eV) (fun i σ H' =>∃(o3 o7 o8:Option V) (kB:List (Key×V)),σ=[some (.ref pA),some (.ref bA),some (.ref a),o3,o5,o6,o7,o8]∧ar H H' ∧dZ K H' C a dx pP pW pB (pins.map fun p=>(p.nm,qa p.sp)) ((bars.take i).map fun b=>(b.nm,b.one.nm,b.other.nm)) kP kW kB∧qG K H' (pins.map fun p=>(p.nm,p.ws)) kW) ⟨_,none,none,[],rfl,s2,R2,W2⟩ (fun i σ H' _ h=>by
    obtain ⟨_,_,_,_,_,s,_⟩:=h
    exact aT.of (s _ _ hb)) ?_ ?_⟩
  ·rintro i u σ H3 hu ⟨o3,o7,o8,kB,rfl,s3,R3,W3⟩
   obtain ⟨b,Ro,Jz⟩:=aF pb hu
   have mb:b∈bars:=aai Ro
   obtain ⟨ta,i1,j1,rfl,h1,g1,g2⟩:=Jz.same s3
   obtain ⟨m1,m2,m3⟩:=gb.ends b mb
   have tk:=take_snoc Ro
   have il:i < bars.length:=(be.mp Ro).1
   have M3 :∀(k:Nat) (p:aC),pins[k]? =some p→∃(c la:Addr) (sv:V),dr us (k:Int)=some (.ref c)∧bQ K H3 c [.str p.nm,sv,.ref la]:=fun k p ek=>by
    obtain ⟨u',TX,TY⟩:=aF (bB pp) ek
    obtain ⟨c,la,sv,ws,rfl,q1,_⟩:=ja.same TY s3
    exact ⟨c,la,sv,a_ TX,q1⟩
   obtain ⟨c1,la1,sv1,TZ,q1⟩:=M3 _ _ g1
   obtain ⟨c2,la2,sv2,T2,q2⟩:=M3 _ _ g2
   refine ⟨ta,_,rfl,h1,rfl,_,_,rfl,_,_,rfl,_,_,rfl,rfl,?_⟩
   have lp3:=aT.of (K:=K) (s3 _ _ hp)
   refine ⟨_,rfl,a,C,dx,_,_,_,rfl,R3.obj,rfl,TQ,_,rfl,_,rfl,_,rfl,pA,_,_,_,rfl,rfl,lp3,TZ,c1,_,_,_,rfl,rfl,q1,rfl,_,rfl,_,rfl,pA,_,_,_,rfl,rfl,lp3,T2,c2,_,_,_,rfl,rfl,q2,rfl,?_⟩
   refine ⟨a,dx,pP,pW,pB,_,_,kP,kW,kB,b.nm,b.one.nm,b.other.nm,rfl,R3,fun z=> ?_,?_,?_,m3,?_,fun H' Ti k' R' => ?_⟩
   ·rw [aaI] at z
    obtain ⟨b',fZ,e'⟩:=aal.mp z
    exact dO (nm:=a8.nm) gb.nb Ro fZ e'
   ·rw [aaI]
    exact aal.mpr ⟨_,m1,rfl⟩
   ·rw [aaI]
    exact aal.mpr ⟨_,m2,rfl⟩
   ·rw [ir,aaG]
    omega
   ·refine ⟨_,_,_,Ti,rfl,fun c o z=>k' c o (ao z nB) (s3 _ _ z),?_,?_⟩
    ·rw [tk,aaA]
     exact R'
    ·refine Paired.bU W3 fun p' kv z=>⟨z.1,?_⟩
     obtain ⟨l',gH,z1,z2,z3⟩:=z.2
     refine ⟨l',gH,z1,k' _ _ (fun z=>by rw [z,R3.br] at z2;cases z2) z2,z3.aL fun c xs r=> ?_⟩
     rcases r with r | ⟨o',r⟩
     ·exact .inl (k' _ _ (fun e=>by rw [e,R3.br] at r;cases r) r)
     ·exact .inr ⟨o',k' _ _ (fun e=>by rw [e,R3.br] at r;cases r) r⟩
  ·rintro σ H3 ⟨o3,o7,o8,kB,rfl,s3,R3,W3⟩
   rw [lv,aaQ] at R3
   exact ⟨_,rfl,q a H3 s3 ⟨⟨dx,pP,pW,pB,kP,kW,kB,R3,W3⟩⟩⟩
def ax (k:Int)(p:Rat×Rat):Rat:=if k=0 then p.1 else p.2
theorem yJ {K:Frag}{H:Hp}{v:V}{p:Rat×Rat}{k:Int}(hk:k=0∨k=1)(h:dC K H v p):∃(a:Addr) (xs:List V) (u:V),v=.ref a∧bQ K H a xs∧dr xs k=some u∧dq K H u (ax k p):=by
 obtain ⟨a,u1,u2,rfl,hq,h1,h2⟩:=h
 rcases hk with rfl | rfl
 ·exact ⟨a,_,u1,rfl,hq,rfl,h1⟩
 ·exact ⟨a,_,u2,rfl,hq,rfl,h2⟩
theorem yK {n:Nat}{p:Rat×Rat}{k:Int}(h:Sz n p.1∧Sz n p.2):Sz n (ax k p):=by
 unfold ax
 split
 ·exact h.1
 ·exact h.2
theorem yL {K:Frag}{H:Hp}{us:List V}{pins:List aC}{k:Nat}{p:aC}(pp:Paired (ja K H) us pins)(e:pins[k]? =some p):∃(c la:Addr) (sv:V),dr us (k:Int)=some (.ref c)∧bQ K H c [.str p.nm,sv,.ref la]∧dC K H sv p.sp:=by
 obtain ⟨u',TX,TY⟩:=aF (bB pp) e
 obtain ⟨c,la,sv,ws,rfl,q1,q2,_⟩:ja K H u' p:=TY
 exact ⟨c,la,sv,a_ TX,q1,q2⟩
inductive rY (K:Frag)(vs:List V)(H:Hp)(Q:VK)(E_:XK):Prop where
 | mk (pA:Addr) (us:List V) (pins:List aC) (u:V) (b:a8) (k:Int) (_:vs=[.ref pA,u,.int k]) (_:H pA=some (.lst us)) (_:Paired (ja K H) us pins) (_:iC pins) (_:kJ K H pins u b) (_:(k=0∨k=1)) (_:∀(v:V) (H' :Hp),ar H H' →dY K H' v 49 (ax k b.other.sp - ax k b.one.sp)→Q v H'):rY K vs H Q E_
theorem M6:aA ["_law_pins_here","_law_bar","_law_axis"] ["_law_pins_here","_law_bar","_law_axis"] (af vv):=sq
theorem M7 (D:Def K mg "_law_arm" vv ["_law_pins_here","_law_bar","_law_axis"])(jb:Fn P w K mg base (aX P w) 1 "_law_sum" ["_law_one","_law_other"] (bJ K dW))(IG:Fn P w K mg base (aX P w) 1 "_law_turned" ["_law_one"] (fB K)):
  Fn P w K mg base (aX P w) 2 "_law_arm" ["_law_pins_here","_law_bar","_law_axis"] (rY K):=by
 refine D.ok M6 (fun vs H Q E h=> ?_) (fun f bx A outer s H vs Q E hr h=> ?_)
 ·obtain ⟨pA,us,pins,u,b,k,rfl,_⟩:=h
  rfl
 obtain ⟨pA,us,pins,u,b,k,rfl,hp,pp,gp,⟨ta,i,j,rfl,hb,e1,e2⟩,hk,q⟩:=h
 refine ⟨_,(aj (aI (ay jb hr.mo pX (aq (aS gx (aJ (aS aK (pv 0) (aJ (pv 1)) (fun _ _=>rfl))) (pv 2) (fun _ _=>rfl)) (aq (ay IG hr.mo pX (aq (aS gx (aJ (aS aK (pv 0) (aJ (pv 1)) (fun _ _=>rfl))) (pv 2) (fun _ _=>rfl)) aa)) aa))))),?_⟩
 obtain ⟨c1,l1,sv1,TZ,q1,r1⟩:=yL pp e1
 obtain ⟨c2,l2,sv2,T2,q2,r2⟩:=yL pp e2
 obtain ⟨a1,xs1,u1,rfl,t1,v1,n1⟩:=yJ hk r1
 obtain ⟨a2,xs2,u2,rfl,t2,v2,n2⟩:=yJ hk r2
 have z1:=yK (k:=k) (gp.sz _ (aai e1))
 have z2:=yK (k:=k) (gp.sz _ (aai e2))
 have lp:=aT.of (K:=K) hp
 refine ⟨_,rfl,_,rfl,ta,_,_,_,rfl,rfl,hb,rfl,pA,_,_,_,rfl,rfl,lp,T2,c2,_,_,_,rfl,rfl,q2,rfl,_,rfl,a2,_,_,_,rfl,rfl,t2,v2,_,rfl,_,rfl,ta,_,_,_,rfl,rfl,hb,rfl,pA,_,_,_,rfl,rfl,lp,TZ,c1,_,_,_,rfl,rfl,q1,rfl,_,rfl,a1,_,_,_,rfl,rfl,t1,v1,?_⟩
 dsimp only [fL]
 show fB K [_] _ _ E0
 refine qu (dS n1 (mI z1 (aao _))) fun p3 H3 s3 n3=> ?_
 show bJ K dW [_,_] _ _ E0
 refine fw ((dS n2 (mI z2 (aao _))).same s3) n3 (by decide) fun p4 H4 s4 n4=> ?_
 refine q (.ref p4) H4 (s3.trans s4) ?_
 rw [Rat.sub_eq_add_neg]
 exact n4
inductive rZ (K:Frag)(vs:List V)(H:Hp)(Q:VK)(E_:XK):Prop where
 | mk (l1 l2:Addr) (u1 u2 v1 v2:V) (x1 x2 y1 y2:Rat) (m n:Nat) (_:vs=[.ref l1,.ref l2]) (_:(aT K H l1 [u1,u2]∨bQ K H l1 [u1,u2])) (_:(aT K H l2 [v1,v2]∨bQ K H l2 [v1,v2])) (_:dY K H u1 m x1) (_:dY K H u2 m x2) (_:dY K H v1 n y1) (_:dY K H v2 n y2) (_:m+n≤30000000) (_:∀(v:V) (H' :Hp),ar H H' →dY K H' v (m+n+(m+n)+1) (x1*y1+x2*y2)→Q v H'):rZ K vs H Q E_
theorem M8:aA ["_law_one","_law_other"] ["_law_one","_law_other"] (af vy):=sq
theorem M9 (D:Def K mg "_law_dot" vy ["_law_one","_law_other"])(jb:Fn P w K mg base (aX P w) 1 "_law_sum" ["_law_one","_law_other"] (bJ K dW))(qz:Fn P w K mg base (aX P w) 1 "_law_times" ["_law_one","_law_other"] (bJ K gf)):
  Fn P w K mg base (aX P w) 2 "_law_dot" ["_law_one","_law_other"] (rZ K):=by
 refine D.ok M8 (fun vs H Q E h=> ?_) (fun f bx A outer s H vs Q E hr h=> ?_)
 ·obtain ⟨l1,l2,u1,u2,v1,v2,x1,x2,y1,y2,m,n,rfl,_⟩:=h
  rfl
 obtain ⟨l1,l2,u1,u2,v1,v2,x1,x2,y1,y2,m,n,rfl,h1,h2,a1,a2,b1,b2,le,q⟩:=h
 refine ⟨_,(aj (aI (ay jb hr.mo pX (aq (ay qz hr.mo pX (aq (aS tj (pv 0) ag (fun _ _=>rfl)) (aq (aS tj (pv 1) ag (fun _ _=>rfl)) aa))) (aq (ay qz hr.mo pX (aq (aS tj (pv 0) ag (fun _ _=>rfl)) (aq (aS tj (pv 1) ag (fun _ _=>rfl)) aa))) aa))))),?_⟩
 refine ⟨_,rfl,l1,_,_,_,rfl,rfl,h1,rfl,_,rfl,l2,_,_,_,rfl,rfl,h2,rfl,?_⟩
 dsimp only [fL]
 show bJ K gf [_,_] _ _ E0
 refine f_ a1 b1 (by omega) fun p3 H3 s3 n3=> ?_
 refine ⟨_,rfl,l1,_,_,_,rfl,rfl,(h1.imp s3.seq (Ty.ar.cO s3)),rfl,_,rfl,l2,_,_,_,rfl,rfl,(h2.imp s3.seq (Ty.ar.cO s3)),rfl,?_⟩
 dsimp only [fL]
 show bJ K gf [_,_] _ _ E0
 refine f_ (a2.same s3) (b2.same s3) (by omega) fun p4 H4 s4 n4=> ?_
 show bJ K dW [_,_] _ _ E0
 refine fw (n3.same s4) n4 (by omega) fun p5 H5 s5 n5=> ?_
 exact q (.ref p5) H5 (s3.trans (s4.trans s5)) n5
structure M_ (K:Frag)(H:Hp)(pins:List aC)(d:Addr)(kM:List (Key×V))(M:Str→Rat×Rat)(N:Nat):Prop where
 hM:H d=some (.dK kM)
 keys:kM.map (·.1)=pins.map (fun p=>(aaT p.nm:Key))
 tM:∀p∈pins,∃t v1 v2,bV kM (.inr p.nm)=some (.ref t)∧H t=some (.tup [v1,v2])∧dq K H v1 (M p.nm).1∧dq K H v2 (M p.nm).2
 zb:∀p∈pins,Zb N (M p.nm).1∧Zb N (M p.nm).2
 hN:N≤6000000
theorem M_.same {H H' :Hp}{pins:List aC}{d:Addr}{kM:List (Key×V)}{M:Str→Rat×Rat}{N:Nat}(h:M_ K H pins d kM M N)(s:ar H H'):M_ K H' pins d kM M N:=⟨s _ _ h.hM,h.keys,fun p hp=>by
 obtain ⟨t,v1,v2,a,b,c,d⟩:=h.tM p hp
 exact ⟨t,v1,v2,a,s _ _ b,c.same s,d.same s⟩,h.zb,h.hN⟩
structure Found (K:Frag)(H:Hp)(fA:Addr)(ls:List Addr)(F:Nat→Rat×Rat)(B:Nat):Prop where
 hf:H fA=some (.lst (ls.map V.ref))
 nd:ls.Nodup
 nf:fA∉ls
 row:∀(i:Nat) (l:Addr),ls[i]? =some l→∃v1 v2,H l=some (.lst [v1,v2])∧dY K H v1 B (F i).1∧dY K H v2 B (F i).2
def KL (ls:List Addr)(H H' :Hp):Prop:=∀b o,b∉ls→H b=some o→H' b=some o
theorem Found.same {H H' :Hp}{fA:Addr}{ls:List Addr}{F:Nat→Rat×Rat}{B:Nat}(h:Found K H fA ls F B)(s:ar H H'):Found K H' fA ls F B:=⟨s _ _ h.hf,h.nd,h.nf,fun i l e=>by
 obtain ⟨v1,v2,a,b,c⟩:=h.row i l e
 exact ⟨v1,v2,s _ _ a,b.same s,c.same s⟩⟩
theorem Found.up {H:Hp}{fA:Addr}{ls:List Addr}{F:Nat→Rat×Rat}{B B' :Nat}(h:Found K H fA ls F B)(l:B≤B'):Found K H fA ls F B' :=⟨h.hf,h.nd,h.nf,fun i x e=>by
 obtain ⟨v1,v2,a,b,c⟩:=h.row i x e
 exact ⟨v1,v2,a,b.up l,c.up l⟩⟩
theorem Found.aL {H H' :Hp}{fA:Addr}{ls:List Addr}{F:Nat→Rat×Rat}{B:Nat}(h:Found K H fA ls F B)(k:KL ls H H'):bf H H' :=fun b xs r=>by
 have key:∀o,H b=some o→(∀ys,o≠.lst ys)→H' b=some o:=fun o e n=>k b o (fun m=>by
  obtain ⟨i,ei⟩:=aas m
  obtain ⟨v1,v2,a,_⟩:=h.row i b ei
  rw [a] at e
  exact n _ (aaE e).symm) e
 rcases r with r | ⟨o',r⟩
 ·exact .inl (key _ r fun ys z=>nomatch z)
 ·exact .inr ⟨o',key _ r fun ys z=>nomatch z⟩
def cP (F:Nat→Rat×Rat)(k:Nat)(a:Int)(d:Rat):Nat→Rat×Rat:=fun i=>if i=k then (if a=0 then ((F i).1+d,(F i).2) else ((F i).1,(F i).2+d)) else F i
theorem oy {F:Nat→Rat×Rat}{k:Nat}{a:Int}{d:Rat}(ha:a=0∨a=1){c:Int}(hc:c=0∨c=1)(i:Nat):ax c (cP F k a d i)=ax c (F i)+if i=k∧c=a then d else 0:=by
 unfold cP ax
 by_cases hi:i=k
 ·subst hi
  rcases ha with rfl | rfl <;> rcases hc with rfl | rfl <;> simp <;> grind
 ·simp [hi]
  grind
inductive r6 (K:Frag)(vs:List V)(H:Hp)(Q:VK)(E_:XK):Prop where
 | mk (fA:Addr) (ls:List Addr) (F:Nat→Rat×Rat) (B:Nat) (k:Nat) (a:Int) (v:V) (m:Nat) (d:Rat) (_:vs=[.ref fA,.int (k:Int),.int a,v]) (_:Found K H fA ls F B) (_:k < ls.length) (_:(a=0∨a=1)) (_:dY K H v m d) (_:B+m≤130000000) (_:∀(H' :Hp),KL ls H H' →Found K H' fA ls (cP F k a d) (B+m+1)→Q .cb H'):r6 K vs H Q E_
theorem Na:aA ["_law_found","_law_k","_law_axis","_law_draw"] ["_law_found","_law_k","_law_axis","_law_draw"] (af vw):=sq
theorem Nb (D:Def K mg "_law_add" vw ["_law_found","_law_k","_law_axis","_law_draw"])(jb:Fn P w K mg base (aX P w) 1 "_law_sum" ["_law_one","_law_other"] (bJ K dW)):
  Fn P w K mg base (aX P w) 2 "_law_add" ["_law_found","_law_k","_law_axis","_law_draw"] (r6 K):=by
 refine D.ok Na (fun vs H Q E h=> ?_) (fun f bx A outer s H vs Q E hr h=> ?_)
 ·obtain ⟨fA,ls,F,B,k,a,v,m,d,rfl,_⟩:=h
  rfl
 obtain ⟨fA,ls,F,B,k,a,v,m,d,rfl,hF,hk,ha,nv,le,q⟩:=h
 refine ⟨_,(aj (qM (ay jb hr.mo pX (aq (aS aK (aS aK (pv 0) (pv 1) (fun _ _=>rfl)) (pv 2) (fun _ _=>rfl)) (aq (pv 3) aa))) (qL (aS aK (pv 0) (pv 1) (fun _ _=>rfl)) (pv 2) set_list))),?_⟩
 obtain ⟨l,el⟩:∃l,ls[k]? =some l:=⟨_,gE hk⟩
 obtain ⟨v1,v2,hl,n1,n2⟩:=hF.row k l el
 have ek:dr (ls.map V.ref) (k:Int)=some (.ref l):=a_ (by rw [Wp,el];rfl)
 have lm:l∈ls:=aai el
 have lf:l≠fA:=fun z=>hF.nf (z▸lm)
 obtain ⟨u,ea,nu⟩:∃u,dr [v1,v2] a=some u∧dY K H u B (ax a (F k)):=by
  rcases ha with rfl | rfl
  ·exact ⟨v1,rfl,n1⟩
  ·exact ⟨v2,rfl,n2⟩
 refine ⟨_,rfl,_,rfl,fA,_,_,_,rfl,rfl,aT.of hF.hf,ek,_,rfl,l,_,_,_,rfl,rfl,aT.of hl,ea,_,rfl,?_⟩
 dsimp only [fL]
 show bJ K dW [_,_] _ _ E0
 refine fw nu nv le fun p3 H3 s3 n3=> ?_
 obtain ⟨j,ej,hj⟩:∃j,v7 [v1,v2].length a=some j∧((a=0∧j=0)∨(a=1∧j=1)):=by
  rcases ha with rfl | rfl
  ·exact ⟨0,rfl,.inl ⟨rfl,rfl⟩⟩
  ·exact ⟨1,rfl,.inr ⟨rfl,rfl⟩⟩
 refine ⟨_,rfl,_,rfl,fA,_,_,_,rfl,rfl,aT.of (s3 _ _ hF.hf),ek,_,rfl,l,_,_,j,rfl,rfl,s3 _ _ hl,ej,?_⟩
 have F3:=hF.same s3
 have kl:KL ls H (upd H3 l (.lst ([v1,v2].set j (.ref p3)))):=fun b o nb e=>by
  rw [ak (fun z=>nb (by rw [z];exact lm))]
  exact s3 _ _ e
 have k3:KL ls H3 (upd H3 l (.lst ([v1,v2].set j (.ref p3)))):=fun b o nb e=>by
  rw [ak (fun z=>nb (by rw [z];exact lm))]
  exact e
 have st:=F3.aL k3
 refine q _ kl ⟨?_,hF.nd,hF.nf,fun i l' e=> ?_⟩
 ·rw [ak (aaU lf)]
  exact F3.hf
 ·by_cases c:i=k
  ·subst c
   rw [el] at e
   cases e
   refine ⟨([v1,v2].set j (.ref p3))[0]?.getD .cb,([v1,v2].set j (.ref p3))[1]?.getD .cb,?_,?_,?_⟩
   ·rw [ah]
    rcases hj with ⟨_,rfl⟩ | ⟨_,rfl⟩ <;> rfl
   ·unfold cP
    rw [if_pos rfl]
    rcases hj with ⟨rfl,rfl⟩ | ⟨rfl,rfl⟩
    ·exact n3.aL st
    ·exact ((n1.same s3).aL st).up (by omega)
   ·unfold cP
    rw [if_pos rfl]
    rcases hj with ⟨rfl,rfl⟩ | ⟨rfl,rfl⟩
    ·exact ((n2.same s3).aL st).up (by omega)
    ·exact n3.aL st
  ·obtain ⟨w1,w2,g1,g2,g3⟩:=F3.row i l' e
   have nl:l' ≠l:=fun z=>c (dh hF.nd e (z▸el))
   refine ⟨w1,w2,?_,?_,?_⟩
   ·rw [ak nl]
    exact g1
   ·unfold cP
    rw [if_neg c]
    exact (g2.aL st).up (by omega)
   ·unfold cP
    rw [if_neg c]
    exact (g3.aL st).up (by omega)
structure BE (K:Frag)(H:Hp)(pA bA:Addr)(us vs:List V)(pins:List aC)(bars:List a8):Prop where
 hp:H pA=some (.lst us)
 pp:Paired (ja K H) us pins
 gp:iC pins
 hb:H bA=some (.lst vs)
 pb:Paired (kJ K H pins) vs bars
 en:∀b∈bars,b.one.nm≠b.other.nm
 lp:pins.length≤5
 lb:bars.length≤8
theorem BE.same {H H' :Hp}{pA bA:Addr}{us vs:List V}{pins:List aC}{bars:List a8}(h:BE K H pA bA us vs pins bars)(s:ar H H'):BE K H' pA bA us vs pins bars:=⟨s _ _ h.hp,Paired.bU h.pp fun _ _ z=>z.same s,h.gp,s _ _ h.hb,Paired.bU h.pb fun _ _ z=>z.same s,h.en,h.lp,h.lb⟩
structure BF (K:Frag)(H:Hp)(tA uA:Addr)(ts xs:List V)(pins:List aC)(bars:List a8)(T:Str→Rat)(U:Str→List Rat)(N:Nat):Prop where
 ht:H tA=some (.lst ts)
 pt:Paired (fun v (b:a8)=>dY K H v N (T b.nm)) ts bars
 hu:H uA=some (.lst xs)
 pu:Paired (fun v (p:aC)=>∃la ys,v=.ref la∧H la=some (.lst ys)∧Paired (fun v r=>dY K H v N r) ys (U p.nm)) xs pins
 lU:∀p∈pins,(U p.nm).length=p.ws.length
 hN:N≤2000000
theorem BF.same {H H' :Hp}{tA uA:Addr}{ts xs:List V}{pins:List aC}{bars:List a8}{T:Str→Rat}{U:Str→List Rat}{N:Nat}(h:BF K H tA uA ts xs pins bars T U N)(s:ar H H'):BF K H' tA uA ts xs pins bars T U N:=⟨s _ _ h.ht,Paired.bU h.pt fun _ _ z=>z.same s,s _ _ h.hu,Paired.bU h.pu fun _ _ ⟨la,ys,a,b,c⟩=>⟨la,ys,a,s _ _ b,Paired.bU c fun _ _ z=>z.same s⟩,h.lU,h.hN⟩
theorem KL.same {H H6 H7:Hp}{ls:List Addr}(hn:∀l∈ls,H l=none)(s:ar H H6)(k:KL ls H6 H7):ar H H7:=fun b o e=>k b o (fun m=>by rw [hn b m] at e;cases e) (s b o e)
def iE (T:Str→Rat)(bs:List a8)(a:Int)(p:aC):Rat:=(bs.map fun b=>T b.nm*ax a (mv (ck b) p.nm)).sum
theorem r8 {T:Str→Rat}{bs:List a8}{b:a8}{a:Int}{p:aC}:iE T (bs++[b]) a p=iE T bs a p+T b.nm*ax a (mv (ck b) p.nm):=by
 unfold iE
 rw [aaA,akJ,aaj,aaW,aaO,abh]
 grind
theorem yM {pins:List aC}(nd:(pins.map (·.nm)).Nodup){i j:Nat}{p q:aC}(hi:pins[i]? =some p)(hj:pins[j]? =some q)(e:p.nm=q.nm):i=j:=dh nd (x:=q.nm) (by rw [Wp,hi, ← e];rfl) (by rw [Wp,hj];rfl)
theorem yN {pins:List aC}(nd:(pins.map (·.nm)).Nodup){b:a8}(hb:b.one.nm≠b.other.nm){i i1 i2:Nat}{p:aC}(hi:pins[i]? =some p)(h1:pins[i1]? =some b.one)(h2:pins[i2]? =some b.other)(t:Rat)(k:Int):
  (if i=i1 then t*(ax k b.other.sp - ax k b.one.sp) else 0)+(if i=i2 then -(t*(ax k b.other.sp - ax k b.one.sp)) else 0)=t*ax k (mv (ck b) p.nm):=by
 have Jv:i1≠i2:=fun z=>by rw [z,h2] at h1;exact hb (by rw [aaE h1])
 unfold mv ck
 by_cases c1:i=i1
 ·subst c1
  rw [h1] at hi
  cases hi
  rw [if_pos rfl,if_neg Jv,if_pos rfl]
  show _=t*ax k (fS b.one b.other)
  unfold ax fS
  split <;> grind
 ·rw [if_neg c1,if_neg (fun z=>c1 (yM nd hi h1 z))]
  by_cases c2:i=i2
  ·subst c2
   rw [h2] at hi
   cases hi
   rw [if_pos rfl,if_pos rfl]
   show _=t*ax k (fS b.other b.one)
   unfold ax fS
   split <;> grind
  ·rw [if_neg c2,if_neg (fun z=>c2 (yM nd hi h2 z))]
   show (0:Rat)+0=t*ax k (0,0)
   unfold ax
   split <;> grind
inductive iF (K:Frag)(vs:List V)(H:Hp)(Q:VK)(E_:XK):Prop where
 | mk (pA bA tA uA:Addr) (us ws ts xs:List V) (pins:List aC) (bars:List a8) (T:Str→Rat) (U:Str→List Rat) (N:Nat) (_:vs=[.ref pA,.ref bA,.ref tA,.ref uA]) (_:BE K H pA bA us ws pins bars) (_:BF K H tA uA ts xs pins bars T U N) (_:∀(fA:Addr) (ls:List Addr) (F:Nat→Rat×Rat) (H' :Hp),ar H H' →ls.length=pins.length→Found K H' fA ls F (1+52*(N+51))→(∀(i:Nat) (p:aC),pins[i]? =some p→(F i).1=bP bars T U p (·.1)∧(F i).2=bP bars T U p (·.2))→Q (.ref fA) H'):iF K vs H Q E_
theorem js:aA ["_law_pins_here","_law_bars_here","_law_pulls","_law_pushes","_law_found","_law_k","_law_axis","_law_draw","_law_j"] ["_law_pins_here","_law_bars_here","_law_pulls","_law_pushes"] (af vx):=sq
theorem Nc (D:Def K mg "_law_forces" vx ["_law_pins_here","_law_bars_here","_law_pulls","_law_pushes"])(aZ:mg "len"=none)(a9:mg "range"=none)(qz:Fn P w K mg base (aX P w) 1 "_law_times" ["_law_one","_law_other"] (bJ K gf))(IG:Fn P w K mg base (aX P w) 1 "_law_turned" ["_law_one"] (fB K))(T3:Fn P w K mg base (aX P w) 2 "_law_arm" ["_law_pins_here","_law_bar","_law_axis"] (rY K))(IH:Fn P w K mg base (aX P w) 2 "_law_add" ["_law_found","_law_k","_law_axis","_law_draw"] (r6 K)):
  Fn P w K mg base (aX P w) 3 "_law_forces" ["_law_pins_here","_law_bars_here","_law_pulls","_law_pushes"] (iF K):=by
 refine D.ok js (fun vs H Q E h=> ?_) (fun f bx A outer s H vs Q E hr h=> ?_)
 ·obtain ⟨pA,bA,tA,uA,us,ws,ts,xs,pins,bars,T,U,N,rfl,_⟩:=h
  rfl
 obtain ⟨pA,bA,tA,uA,us,ws,ts,xs,pins,bars,T,U,N,rfl,fr,fo,q⟩:=h
 have L2:2≤sizeLine:=by decide
 have hN:=fo.hN
 have lp:=fr.lp
 have lb:=fr.lb
 have lu:us.length=pins.length:=Paired.length fr.pp
 have lw:ws.length=bars.length:=Paired.length fr.pb
 refine ⟨_,(ae (jH (i:=4) js.nd rfl (aan rfl) (tn:=["_law_pin"]) (fr:=[]) (caps:=[]) rfl ⟨rfl,by decide+kernel,rfl,by decide+kernel,by decide+kernel,rfl,trivial,trivial⟩ (bN (pv 0)) (fun _ _ _ _=>(aG (i:=0) (show (["_law_pin"]:List Str).Nodup from by decide+kernel) rfl (aan rfl))) (fun _ _ _ _=>cR) (fun _ _ _ _=>(bD (aq (aR (aq ag (aq ag aa))) (aq (aR (aq ag (aq ag aa))) aa)))))
  (ae (bo PassesOwn.never rfl (bu rfl a9 (aq (aQ aE rfl aZ bT (aq (pv 1) aa)) aa)) (aG (i:=5) js.nd rfl (aan rfl)) (aj (bo PassesOwn.never rfl (bu rfl a9 (aq ag aa)) (aG (i:=6) js.nd rfl (aan rfl)) (ae (aw (i:=7) js.nd rfl (aan rfl) (ay qz hr.mo pX (aq (aS aK (pv 2) (pv 5) (fun _ _=>rfl)) (aq (ay T3 hr.mo pX (aq (pv 0) (aq (aS aK (pv 1) (pv 5) (fun _ _=>rfl)) (aq (pv 6) aa)))) aa))))
    (ae (bF (ay IH hr.mo pX (aq (pv 4) (aq (aJ (aS aK (pv 1) (pv 5) (fun _ _=>rfl))) (aq (pv 6) (aq (pv 7) aa))))))
    (aj (bF (ay IH hr.mo pX (aq (pv 4) (aq (aJ (aS aK (pv 1) (pv 5) (fun _ _=>rfl))) (aq (pv 6) (aq (ay IG hr.mo pX (aq (pv 7) aa)) aa))))))))))))
  (ae (bo PassesOwn.never rfl (bu rfl a9 (aq (aQ aE rfl aZ bT (aq (pv 0) aa)) aa)) (aG (i:=5) js.nd rfl (aan rfl)) (aj (bo PassesOwn.never rfl (bu rfl a9 (aq (aQ aE rfl aZ bT (aq (aJ (aS aK (pv 0) (pv 5) (fun _ _=>rfl))) aa)) aa)) (aG (i:=8) js.nd rfl (aan rfl)) (aj (bo PassesOwn.never rfl (bu rfl a9 (aq ag aa)) (aG (i:=6) js.nd rfl (aan rfl)) (aj (bF (ay IH hr.mo pX (aq (pv 4) (aq (pv 5) (aq (pv 6) (aq (ay qz hr.mo pX (aq (aS aK (aS aK (pv 3) (pv 5) (fun _ _=>rfl)) (pv 8) (fun _ _=>rfl)) (aq (aS gx (aS aK (aJ (aS aK (pv 0) (pv 5) (fun _ _=>rfl))) (pv 8) (fun _ _=>rfl)) (pv 6) (fun _ _=>rfl)) aa))) aa))))))))))))
  (aj (aI (pv 4)))))),?_⟩
 refine ⟨_,rfl,pA,rfl,⟨_,aT.of fr.hp⟩,fun fA n1=> ?_⟩
 refine rD (cap:=[]) (K:=K) (a:=pA) (xs:=us) (fun ys H' =>∃ls:List Addr,ys=ls.map V.ref∧ls.Nodup∧fA∉ls∧∀l∈ls,H l=none∧∃p q:Addr,H' l=some (.lst [.ref p,.ref q])∧H' p=some (.tup [.int 0,.int 1])∧H' q=some (.tup [.int 0,.int 1])) n1 (by rw [lu];exact aar (show pins.length≤100 by omega) (by decide)) (fun H2 s2=>aT.of (s2 _ _ fr.hp)) ⟨[],rfl,akO,by simp,fun l h=>by cases h⟩ ?_ ?_
 ·intro i x ys H2 R hx ly hJ s2 hD k
  obtain ⟨ls,rfl,nd,nf,hl⟩:=hJ
  refine ⟨L2,?_⟩
  intro p3 n3;generalize eX:upd _ p3 _=H3;have ⟨s3,e3⟩:=nw n3 eX;clear eX
  refine ⟨L2,?_⟩
  intro p4 n4;generalize eX:upd _ p4 _=H4;have ⟨s4,e4⟩:=nw n4 eX;clear eX
  refine ⟨L2,?_⟩
  intro l5 n5;generalize eX:upd _ l5 _=H5;have ⟨s5,e5⟩:=nw n5 eX;clear eX
  have v3:=s3.trans (s4.trans s5)
  have D5:=v3 _ _ hD
  have D4:=s4 _ _ (s3 _ _ hD)
  refine k _ _ v3 ⟨ls++[l5],by simp,?_,?_,fun l hm=> ?_⟩
  ·rw [aby]
   refine ⟨nd,by simp,fun a ha b hb z=> ?_⟩
   have fZ :b=l5:=by simpa using hb
   obtain ⟨_,p,q,h1,_⟩:=hl a ha
   rw [z,fZ] at h1
   rw [s4 _ _ (s3 _ _ h1)] at n5
   cases n5
  ·intro z
   rcases aaH.mp z with z | z
   ·exact nf z
   ·rw [← aaD.mp z,D4] at n5
    cases n5
  ·rcases aaH.mp hm with z | z
   ·obtain ⟨h0,p,q,h1,h2,h3⟩:=hl l z
    refine ⟨h0,p,q,?_,?_,?_⟩
    ·rw [ak (fun e:l=fA=>nf (by rw [← e];exact z))]
     exact v3 _ _ h1
    ·rw [ak (fun e=>by rw [e,hD] at h2;cases h2)]
     exact v3 _ _ h2
    ·rw [ak (fun e=>by rw [e,hD] at h3;cases h3)]
     exact v3 _ _ h3
   ·have z:=aaD.mp z
    subst z
    refine ⟨(s2.trans (s3.trans s4)).free n5,p3,p4,?_,?_,?_⟩
    ·rw [ak (fun e=>by rw [e,D4] at n5;cases n5)]
     exact e5
    ·rw [ak (fun e=>by rw [e,hD] at n3;cases n3)]
     exact s5 _ _ (s4 _ _ e3)
    ·rw [ak (fun e=>by rw [e,s3 _ _ hD] at n4;cases n4)]
     exact s5 _ _ e4
 intro ys H2 ly hJ s2 hD
 obtain ⟨ls,rfl,nd,nf,hl⟩:=hJ
 have hn:∀l∈ls,H l=none:=fun l m=>(hl l m).1
 have ll:ls.length=pins.length:=by rw [← lu, ← ly,ir]
 have z0:∀(p:Addr) (H' :Hp),H' p=some (.tup [.int 0,.int 1])→dY K H' (.ref p) 1 0:=fun p H' e=>⟨(0,1),⟨p,rfl,bQ.of e⟩,by decide,by decide+kernel,by decide,by decide⟩
 have F0:Found K H2 fA ls (fun _=>(0,0)) (1+0*(4*(N+51))):=⟨hD,nd,nf,fun i l e=>by
  obtain ⟨_,p,q,h1,h2,h3⟩:=hl l (aai e)
  rw [abQ]
  exact ⟨_,_,h1,z0 p _ h2,z0 q _ h3⟩⟩
 have en:((ws.length:Nat):Int).toNat=ws.length:=by omega
 refine ⟨_,rfl,bA,_,rfl,.inl (aT.of (s2 _ _ fr.hb)),((ws.length:Nat):Int),rfl,by omega,by omega,bz (lo:=0) (n:=((ws.length:Nat):Int).toNat) (fun t σ H' =>∃(F:Nat→Rat×Rat) (o5 o6 o7:Option V),σ=[some (.ref pA),some (.ref bA),some (.ref tA),some (.ref uA),some (.ref fA),o5,o6,o7,none]∧ar H H' ∧Found K H' fA ls F (1+t*(4*(N+51)))∧∀(i:Nat) (p:aC),pins[i]? =some p→∀a:Int,(a=0∨a=1)→ax a (F i)=iE T (bars.take t) a p) ⟨_,none,none,none,rfl,s2,F0,fun i p _ a _=> ?_⟩ ?_ ?_⟩
 ·show ax a (0,0)=0
  unfold ax
  split <;> rfl
 ·rintro t σ H3 ht ⟨F,o5,o6,o7,rfl,s3,F3,hF⟩
  have ek:(0:Int)+(t:Int)=(t:Int):=aaS _
  rw [ek]
  have htw:t < ws.length:=by omega
  obtain ⟨b,eb,Jz⟩:=aF fr.pb (gE htw)
  have mb:b∈bars:=aai eb
  obtain ⟨tv,Nd,Nf⟩:=aF (bB fo.pt) eb
  have za:dr ws (t:Int)=some ws[t]:=a_ (gE htw)
  have T4:dr ts (t:Int)=some tv:=a_ Nd
  have bt:t*(4*(N+51))≤7*(4*(N+51)):=aaK _ (by omega)
  generalize hB:1+t*(4*(N+51))=B at F3
  refine ⟨(2:Int),rfl,by decide,by decide,bz (lo:=0) (n:=2) (fun k σ H' =>∃(F:Nat→Rat×Rat) (o6 o7:Option V),σ=[some (.ref pA),some (.ref bA),some (.ref tA),some (.ref uA),some (.ref fA),some (.int (t:Int)),o6,o7,none]∧ar H H' ∧Found K H' fA ls F (B+k*(2*(N+51)))∧∀(i:Nat) (p:aC),pins[i]? =some p→∀a:Int,(a=0∨a=1)→ax a (F i)=iE T (bars.take t) a p+if a < (k:Int) then T b.nm*ax a (mv (ck b) p.nm) else 0) ⟨F,o6,o7,rfl,s3,by rw [abQ];exact F3,fun i p e a ha=> ?_⟩ ?_ ?_⟩
  ·rw [hF i p e a ha,if_neg (by rcases ha with rfl | rfl <;> decide)]
   grind
  ·rintro k σ H4 hk ⟨F,o6,o7,rfl,s4,F4,hF⟩
   have ek:(0:Int)+(k:Int)=(k:Int):=aaS _
   rw [ek]
   have II:(k:Int)=0∨(k:Int)=1:=by omega
   have JA:=fr.same s4
   have bk:k*(2*(N+51))≤1*(2*(N+51)):=aaK _ (by omega)
   obtain ⟨ta,i1,i2,eta,DR,e1,e2⟩:=Jz.same s4
   have Kt:i1 < ls.length:=by rw [ll];exact (be.mp e1).1
   have Ku:i2 < ls.length:=by rw [ll];exact (be.mp e2).1
   refine ⟨_,rfl,_,rfl,tA,_,_,_,rfl,rfl,aT.of (s4 _ _ fo.ht),T4,_,rfl,_,rfl,_,rfl,bA,_,_,_,rfl,rfl,aT.of JA.hb,za,_,rfl,pA,us,pins,_,b,(k:Int),rfl,JA.hp,JA.pp,fr.gp,Jz.same s4,II,fun v5 H5 s5 n5=> ?_⟩
   dsimp only [fL]
   show bJ K gf [_,_] _ _ E0
   refine f_ ((Nf.same s4).same s5) n5 (by omega) fun p6 H6 s6 n6=> ?_
   have yO:=s4.trans (s5.trans s6)
   rw [eta] at za
   have F6:=F4.same (s5.trans s6)
   refine ⟨_,rfl,_,rfl,_,rfl,bA,_,_,_,rfl,rfl,aT.of (yO _ _ fr.hb),za,ta,_,_,_,rfl,rfl,Ty.ar.cO (s5.trans s6) DR,rfl,_,rfl,_,rfl,fA,ls,F,_,i1,(k:Int),_,_,_,rfl,F6,Kt,II,n6,by omega,fun H7 k7 F7=> ?_⟩
   have s07:=KL.same hn yO k7
   have n7:=n6.aL (F6.aL k7)
   refine ⟨_,rfl,_,rfl,_,rfl,bA,_,_,_,rfl,rfl,aT.of (s07 _ _ fr.hb),za,ta,_,_,_,rfl,rfl,(F6.aL k7).cO (Ty.ar.cO (s5.trans s6) DR),rfl,_,rfl,_,rfl,?_⟩
   dsimp only [fL]
   show fB K [_] _ _ E0
   refine qu n7 fun p8 H8 s8 n8=> ?_
   have F8:=F7.same s8
   refine ⟨fA,ls,_,_,i2,(k:Int),_,_,_,rfl,F8,Ku,II,n8,by omega,fun H9 k9 F9=> ?_⟩
   have Mu:=KL.same hn (s07.trans s8) k9
   refine ⟨_,_,_,rfl,Mu,F9.up (by rw [abz];omega),fun i p e a ha=> ?_⟩
   rw [oy II ha,oy II ha,hF i p e a ha]
   have bp:=yN fr.gp.np (fr.en b mb) e e1 e2 (T b.nm) (k:Int)
   by_cases ca:a=(k:Int)
   ·subst ca
    rw [if_neg (c:=(k:Int) < (k:Int)) (by omega),if_pos (c:=(k:Int) < ((k+1:Nat):Int)) (by omega), ← bp]
    simp only [and_true]
    grind
   ·have c1:¬ (i=i1∧a=(k:Int)):=fun z=>ca z.2
    have c2:¬ (i=i2∧a=(k:Int)):=fun z=>ca z.2
    rw [if_neg c1,if_neg c2]
    by_cases cl:a < (k:Int)
    ·rw [if_pos cl,if_pos (c:=a < ((k+1:Nat):Int)) (by omega)]
     grind
    ·rw [if_neg cl,if_neg (c:=a < ((k+1:Nat):Int)) (by omega)]
     grind
  ·rintro σ H4 ⟨F,o6,o7,rfl,s4,F4,hF⟩
   refine ⟨F,_,_,_,rfl,s4,F4.up (by rw [abz, ← hB];omega),fun i p e a ha=> ?_⟩
   rw [take_snoc eb,r8,hF i p e a ha,if_pos (by rcases ha with rfl | rfl <;> decide)]
 ·rintro σ H3 ⟨F,o5,o6,o7,rfl,s3,F3,hF⟩
  rw [en,lw] at F3
  rw [en,lw,aaQ] at hF
  have bl:bars.length*(4*(N+51))≤8*(4*(N+51)):=aaK _ (by omega)
  generalize hB:1+bars.length*(4*(N+51))=B at F3
  have Ng:((us.length:Nat):Int).toNat=us.length:=by omega
  refine ⟨_,rfl,pA,_,rfl,.inl (aT.of (s3 _ _ fr.hp)),((us.length:Nat):Int),rfl,by omega,by omega,bz (lo:=0) (n:=((us.length:Nat):Int).toNat) (fun k σ H' =>∃(F:Nat→Rat×Rat) (o5 o6 o7 o8:Option V),σ=[some (.ref pA),some (.ref bA),some (.ref tA),some (.ref uA),some (.ref fA),o5,o6,o7,o8]∧ar H H' ∧Found K H' fA ls F (B+k*(4*(N+51)))∧∀(i:Nat) (p:aC),pins[i]? =some p→∀a:Int,(a=0∨a=1)→ax a (F i)=iE T bars a p+if i < k then sP (U p.nm) (p.ws.map (ax a)) else 0) ⟨F,o5,o6,o7,none,rfl,s3,by rw [abQ];exact F3,fun i p e a ha=> ?_⟩ ?_ ?_⟩
  ·rw [hF i p e a ha,if_neg (by omega)]
   grind
  ·rintro k σ H4 hk ⟨F,o5,o6,o7,o8,rfl,s4,F4,hF⟩
   have ek:(0:Int)+(k:Int)=(k:Int):=aaS _
   rw [ek]
   have hku:k < us.length:=by omega
   obtain ⟨p,ep,yI⟩:=aF fr.pp (gE hku)
   have mp:p∈pins:=aai ep
   obtain ⟨xv,exv,la,ys,exl,Rp,py⟩:=aF (bB fo.pu) ep
   subst exl
   have lup:=fo.lU p mp
   have lwp:=(fr.gp.ws p mp).len
   have ly:ys.length=(U p.nm).length:=Paired.length py
   have akx:dr xs (k:Int)=some (.ref la):=a_ exv
   have T5:dr us (k:Int)=some us[k]:=a_ (gE hku)
   obtain ⟨pa,l,sv,eV,epa,h1,h2,h3,h4⟩:=yI
   rw [epa] at T5
   have lv:eV.length=p.ws.length:=Paired.length h4
   have kp:k < pins.length:=by omega
   have bk:k*(4*(N+51))≤4*(4*(N+51)):=aaK _ (by omega)
   generalize hB2:B+k*(4*(N+51))=B2 at F4
   have en3:((eV.length:Nat):Int).toNat=eV.length:=by omega
   refine ⟨_,rfl,_,rfl,pA,_,_,_,rfl,rfl,aT.of (s4 _ _ fr.hp),T5,pa,_,_,_,rfl,rfl,Ty.ar.cO s4 h1,rfl,l,_,rfl,.inl (aT.of (s4 _ _ h3)),((eV.length:Nat):Int),rfl,by omega,by omega,bz (lo:=0) (n:=((eV.length:Nat):Int).toNat) (fun j σ H' =>∃(F:Nat→Rat×Rat) (o6 o7 o8:Option V),σ=[some (.ref pA),some (.ref bA),some (.ref tA),some (.ref uA),some (.ref fA),some (.int (k:Int)),o6,o7,o8]∧ar H H' ∧Found K H' fA ls F (B2+j*(2*(N+51)))∧∀(i:Nat) (p:aC),pins[i]? =some p→∀a:Int,(a=0∨a=1)→ax a (F i)=iE T bars a p+if i < k then sP (U p.nm) (p.ws.map (ax a)) else if i=k then sP ((U p.nm).take j) ((p.ws.take j).map (ax a)) else 0) ⟨F,o6,o7,o8,rfl,s4,by rw [abQ];exact F4,fun i p e a ha=> ?_⟩ ?_ ?_⟩
   ·rw [hF i p e a ha,List.take_zero,dR]
    split <;> simp
   ·rintro j σ H5 hj ⟨F,o6,o7,o8,rfl,s5,F5,hF⟩
    have ek:(0:Int)+(j:Int)=(j:Int):=aaS _
    rw [ek]
    have hj1:j < eV.length:=by omega
    have hj2:j < ys.length:=by omega
    obtain ⟨x,ex,hx⟩:=aF py (gE hj2)
    obtain ⟨wq,ewq,hwq⟩:=aF h4 (gE hj1)
    have zw:=(fr.gp.ws p mp).sz wq (aai ewq)
    have axj:dr ys (j:Int)=some ys[j]:=a_ (gE hj2)
    have awj:dr eV (j:Int)=some eV[j]:=a_ (gE hj1)
    have bj:j*(2*(N+51))≤1*(2*(N+51)):=aaK _ (by omega)
    generalize hB3:B2+j*(2*(N+51))=B3 at F5
    refine ⟨(2:Int),rfl,by decide,by decide,bz (lo:=0) (n:=2) (fun c σ H' =>∃(F:Nat→Rat×Rat) (o6:Option V),σ=[some (.ref pA),some (.ref bA),some (.ref tA),some (.ref uA),some (.ref fA),some (.int (k:Int)),o6,o7,some (.int (j:Int))]∧ar H H' ∧Found K H' fA ls F (B3+c*(N+51))∧∀(i:Nat) (p:aC),pins[i]? =some p→∀a:Int,(a=0∨a=1)→ax a (F i)=(iE T bars a p+if i < k then sP (U p.nm) (p.ws.map (ax a)) else if i=k then sP ((U p.nm).take j) ((p.ws.take j).map (ax a)) else 0)+if i=k∧a < (c:Int) then x*ax a wq else 0) ⟨F,o6,rfl,s5,by rw [abQ];exact F5,fun i p e a ha=> ?_⟩ ?_ ?_⟩
    ·rw [hF i p e a ha,if_neg (c:=i=k∧a < ((0:Nat):Int)) (fun z=>by rcases ha with rfl | rfl <;> exact absurd z.2 (by decide))]
     grind
    ·rintro c σ H6 hc ⟨F,o6,rfl,s6,F6,hF⟩
     have ek:(0:Int)+(c:Int)=(c:Int):=aaS _
     rw [ek]
     have Q3:(c:Int)=0∨(c:Int)=1:=by omega
     have bc:c*(N+51)≤1*(N+51):=aaK _ (by omega)
     obtain ⟨wa,zs,u,ewa,Jk,awc,nwc⟩:=yJ Q3 (hwq.same s6)
     rw [ewa] at awj
     refine ⟨_,rfl,_,rfl,_,rfl,_,rfl,_,rfl,uA,_,_,_,rfl,rfl,aT.of (s6 _ _ fo.hu),akx,_,rfl,la,_,_,_,rfl,rfl,aT.of (s6 _ _ Rp),axj,_,rfl,_,rfl,pA,_,_,_,rfl,rfl,aT.of (s6 _ _ fr.hp),T5,pa,_,_,_,rfl,rfl,Ty.ar.cO s6 h1,rfl,_,rfl,l,_,_,_,rfl,rfl,aT.of (s6 _ _ h3),awj,_,rfl,wa,_,_,_,rfl,rfl,Jk,awc,?_⟩
     dsimp only [fL]
     show bJ K gf [_,_] _ _ E0
     refine f_ (hx.same s6) (dS nwc (mI (yK zw) (aao _))) (by omega) fun p7 H7 s7 n7=> ?_
     refine ⟨fA,ls,F,_,k,(c:Int),_,_,_,rfl,F6.same s7,by omega,Q3,n7,by omega,fun H8 k8 F8=> ?_⟩
     refine ⟨_,_,rfl,KL.same hn (s6.trans s7) k8,F8.up (by rw [abz];omega),fun i p' e a ha=> ?_⟩
     rw [oy Q3 ha,hF i p' e a ha]
     by_cases ci:i=k
     ·by_cases ca:a=(c:Int)
      ·subst ca
       rw [if_neg (c:=i=k∧(c:Int) < (c:Int)) (fun z=>by omega),if_pos (c:=i=k∧(c:Int)=(c:Int)) ⟨ci,rfl⟩,if_pos (c:=i=k∧(c:Int) < ((c+1:Nat):Int)) ⟨ci,by omega⟩]
       grind
      ·rw [if_neg (c:=i=k∧a=(c:Int)) (fun z=>ca z.2)]
       by_cases cl:a < (c:Int)
       ·rw [if_pos (c:=i=k∧a < (c:Int)) ⟨ci,cl⟩,if_pos (c:=i=k∧a < ((c+1:Nat):Int)) ⟨ci,by omega⟩]
        grind
       ·rw [if_neg (c:=i=k∧a < (c:Int)) (fun z=>cl z.2),if_neg (c:=i=k∧a < ((c+1:Nat):Int)) (fun z=>by have:=z.2;omega)]
        grind
     ·rw [if_neg (c:=i=k∧a < (c:Int)) (fun z=>ci z.1),if_neg (c:=i=k∧a=(c:Int)) (fun z=>ci z.1),if_neg (c:=i=k∧a < ((c+1:Nat):Int)) (fun z=>ci z.1)]
      grind
    ·rintro σ H6 ⟨F,o6,rfl,s6,F6,hF⟩
     refine ⟨F,_,_,_,rfl,s6,F6.up (by rw [abz, ← hB3];omega),fun i p' e a ha=> ?_⟩
     rw [hF i p' e a ha]
     by_cases ci:i=k
     ·subst ci
      rw [ep] at e
      cases e
      rw [if_neg (abd _),if_pos rfl,if_neg (abd _),if_pos rfl,if_pos (c:=i=i∧a < ((2:Nat):Int)) ⟨rfl,by rcases ha with rfl | rfl <;> decide⟩]
      rw [take_snoc ex,take_snoc ewq,aaA,fV _ _ (by rw [ir,aaG,aaG];omega),aaj,aaW,bR,dR]
      grind
     ·rw [if_neg (c:=i=k∧a < ((2:Nat):Int)) (fun z=>ci z.1),if_neg ci,if_neg ci]
      grind
   ·rintro σ H5 ⟨F,o6,o7,o8,rfl,s5,F5,hF⟩
    rw [en3] at F5 hF
    refine ⟨F,_,_,_,_,rfl,s5,F5.up (by
     have:eV.length*(2*(N+51))≤2*(2*(N+51)):=aaK _ (by omega)
     rw [abz, ← hB2]
     omega),fun i p' e a ha=> ?_⟩
    rw [hF i p' e a ha]
    by_cases ci:i=k
    ·subst ci
     rw [ep] at e
     cases e
     rw [if_neg (abd _),if_pos rfl,if_pos (aa6 _),abg (by omega),abg (by omega)]
    ·rw [if_neg ci]
     by_cases cl:i < k
     ·rw [if_pos cl,if_pos (by omega)]
     ·rw [if_neg cl,if_neg (by omega)]
  ·rintro σ H4 ⟨F,o5,o6,o7,o8,rfl,s4,F4,hF⟩
   rw [Ng,lu] at F4 hF
   have bp:pins.length*(4*(N+51))≤5*(4*(N+51)):=aaK _ (by omega)
   refine ⟨_,rfl,q fA ls F H4 s4 ll (F4.up (by omega)) fun i p e=> ?_⟩
   have hi:=(be.mp e).1
   have a0:=hF i p e 0 (.inl rfl)
   have a1:=hF i p e 1 (.inr rfl)
   rw [if_pos hi] at a0 a1
   unfold bP
   unfold iE at a0 a1
   have e0:ax 0=fun p:Rat×Rat=>p.1:=rfl
   have e1:ax 1=fun p:Rat×Rat=>p.2:=rfl
   rw [e0] at a0
   rw [e1] at a1
   exact ⟨a0.trans (Rat.add_comm _ _),a1.trans (Rat.add_comm _ _)⟩
theorem eY {x:V}{ys:List V}:dr (x::ys) 0=some x:=a_ (xs:=x::ys) (j:=0) rfl
structure BG (K:Frag)(H:Hp)(d:Addr)(kvs:List (Key×V))(pins:List aC)(L:Str→Rat×Rat):Prop where
 hd:H d=some (.dK kvs)
 ky:kvs.map (·.1)=pins.map (fun p=>(aaT p.nm:Key))
 tv:∀(i:Nat) (p:aC),pins[i]? =some p→∃v,kvs[i]? =some (.inr p.nm,v)∧dC K H v (L p.nm)
 sz:∀p∈pins,Sz 600 (L p.nm).1∧Sz 600 (L p.nm).2
theorem BG.same {H H' :Hp}{d:Addr}{kvs:List (Key×V)}{pins:List aC}{L:Str→Rat×Rat}(h:BG K H d kvs pins L)(s:ar H H'):BG K H' d kvs pins L:=⟨s _ _ h.hd,h.ky,fun i p e=>by
 obtain ⟨v,a,b⟩:=h.tv i p e
 exact ⟨v,a,b.same s⟩,h.sz⟩
def iG (pins:List aC)(L M:Str→Rat×Rat):Rat:=(pins.map fun p=>dt (L p.nm) (M p.nm)).sum
inductive r9 (K:Frag)(vs:List V)(H:Hp)(Q:VK)(E_:XK):Prop where
 | mk (d dM:Addr) (kvs kM:List (Key×V)) (pins:List aC) (L M:Str→Rat×Rat) (N:Nat) (_:vs=[.ref d,.ref dM]) (_:BG K H d kvs pins L) (_:M_ K H pins dM kM M N) (_:dM≠d) (_:pins.length≤5) (_:N≤6000000) (_:∀(v:V) (H' :Hp),ar H H' →dY K H' v (1+5*(2*N+1202)) (iG pins L M)→Q v H'):r9 K vs H Q E_
theorem qA:aA ["_law_load_here","_law_motion","_law_total","_law_name_here","_law_drawn_here"] ["_law_load_here","_law_motion"] (af vz):=sq
theorem Nh (D:Def K mg "_law_work" vz ["_law_load_here","_law_motion"])(jb:Fn P w K mg base (aX P w) 1 "_law_sum" ["_law_one","_law_other"] (bJ K dW))(T6:Fn P w K mg base (aX P w) 2 "_law_dot" ["_law_one","_law_other"] (rZ K)):
  Fn P w K mg base (aX P w) 3 "_law_work" ["_law_load_here","_law_motion"] (r9 K):=by
 refine D.ok qA (fun vs H Q E h=> ?_) (fun f bx A outer s H vs Q E hr h=> ?_)
 ·obtain ⟨d,dM,kvs,kM,pins,L,M,N,rfl,_⟩:=h
  rfl
 obtain ⟨d,dM,kvs,kM,pins,L,M,N,rfl,ld,mo,ne,lp,hN,q⟩:=h
 have L2:2≤sizeLine:=by decide
 have lk:kvs.length=pins.length:=by
  have:=congrArg abk ld.ky
  rw [ir,ir] at this
  exact this
 refine ⟨_,(ae (aw (i:=2) qA.nd rfl (aan rfl) (aR (aq ag (aq ag aa))))
  (ae (nH (bo PassesOwn.never rfl (kg (pv 0)) (fJ rfl (bg (aG (i:=3) qA.nd rfl (aan rfl)) (bg (aG (i:=4) qA.nd rfl (aan rfl)) c_))) (aj (aw (i:=2) qA.nd rfl (aan rfl) (ay jb hr.mo pX (aq (pv 2) (aq (ay T6 hr.mo pX (aq (pv 4) (aq (dw (cy hr) (pv 1) (pv 3) (fun _ _=>rfl)) aa))) aa)))))))
  (aj (aI (pv 2))))),?_⟩
 refine ⟨L2,?_⟩
 intro t1 n1;generalize eX:upd _ t1 _=H1;have ⟨s1,e1⟩:=nw n1 eX;clear eX
 have JB:=ld.same s1
 have mo1:=mo.same s1
 have t0:dY K H1 (.ref t1) (1+0*(2*N+1202)) (iG (pins.take 0) L M):=by
  rw [abQ]
  exact ⟨(0,1),⟨t1,rfl,bQ.of e1⟩,by decide,(show vl ((0,1):Int×Int)=0 by decide+kernel),by decide,by decide⟩
 refine ⟨_,rfl,d,kvs,rfl,JB.hd,fun o=> ?_⟩
 have st:∀{H' :Hp},bL d H1 H' →bf H1 H' :=fun {H'} k b xs r=>by
  rcases r with r | ⟨o',r⟩
  ·exact .inl (k _ _ (fun e=>by rw [e,JB.hd] at r;cases r) r)
  ·exact .inr ⟨o',k _ _ (fun e=>by rw [e,JB.hd] at r;cases r) r⟩
 have k0:bL d H1 (upd H1 d (.fD o (.dK kvs))):=fun b o' n e=>by rw [ak n];exact e
 refine iV (d:=d) (o:=o) (kvs:=kvs) (fun t σ H' =>∃(tv:V) (o3 o4:Option V),σ=[some (.ref d),some (.ref dM),some tv,o3,o4]∧bL d H1 H' ∧H' d=some (.fD o (.dK kvs))∧dY K H' tv (1+t*(2*N+1202)) (iG (pins.take t) L M)) ⟨.ref t1,none,none,rfl,k0,ah,t0.aL (st k0)⟩ (fun t σ H' _ h=>by
   obtain ⟨_,_,_,_,_,h,_⟩:=h
   exact h) ?_ ?_
 ·rintro t k y σ H6 p7 v9 ⟨tv,o3,o4,rfl,k6,HG,nt⟩ n7
  have ht:t < kvs.length:=(be.mp v9).1
  obtain ⟨p,ep⟩:∃p,pins[t]? =some p:=⟨_,gE (by omega)⟩
  have mp:=aai ep
  obtain ⟨v,ev,hv⟩:=JB.tv t p ep
  rw [v9] at ev
  obtain ⟨rfl,rfl⟩:=Prod.mk.inj (aaE ev)
  have s7:=aD n7 (.tup [kV (.inr p.nm),y])
  have e7:(upd H6 p7 (.tup [kV (.inr p.nm),y])) p7=some (.tup [kV (.inr p.nm),y]):=ah
  generalize upd H6 p7 (.tup [kV (.inr p.nm),y])=H7 at s7 e7 ⊢
  have k7:bL d H1 H7:=fun b o' n e=>s7 _ _ (k6 b o' n e)
  refine ⟨p7,_,rfl,bQ.of e7,rfl,_,_,rfl,_,_,rfl,rfl,?_⟩
  obtain ⟨tm,v1,v2,dg,et,m1,m2⟩:=mo1.tM p mp
  have dg7:cJ H7 dM (.str p.nm) (some (.ref tm)):=by
   have:=cJ.k (k:=.inr p.nm) (k7 _ _ ne mo1.hM)
   rw [dg] at this
   exact this
  have et7:H7 tm=some (.tup [v1,v2]):=k7 _ _ (fun e=>by rw [e,JB.hd] at et;cases et) et
  obtain ⟨da,u1,u2,rfl,T7,DH,hd2⟩:=hv.aL (st k7)
  have zd:=ld.sz p mp
  have zm:=mo.zb p mp
  refine ⟨_,rfl,_,rfl,_,rfl,_,rfl,dM,_,rfl,dg7,?_⟩
  dsimp only [fL]
  refine ⟨da,tm,u1,u2,v1,v2,_,_,_,_,600,N,rfl,.inr T7,.inr (bQ.of et7),dS DH (mI zd.1 (aao _)),dS hd2 (mI zd.2 (aao _)),dS (m1.aL (st k7)) zm.1,dS (m2.aL (st k7)) zm.2,by omega,fun v8 H8 s8 n8=> ?_⟩
  show bJ K dW [_,_] _ _ E0
  have bt:t*(2*N+1202)≤4*(2*N+1202):=aaK _ (by omega)
  refine fw ((nt.same s7).same s8) n8 (by omega) fun p9 H9 s9 n9=> ?_
  refine ⟨_,_,_,rfl,fun b o' n e=>s9 _ _ (s8 _ _ (k7 b o' n e)),s9 _ _ (s8 _ _ (s7 _ _ HG)),?_⟩
  have ew:iG (pins.take (t+1)) L M=iG (pins.take t) L M+((L p.nm).1*(M p.nm).1+(L p.nm).2*(M p.nm).2):=by
   unfold iG
   rw [take_snoc ep,aaA,akJ,aaj,aaW,aaO,abh]
   unfold dt
   grind
  rw [ew]
  exact n9.up (by rw [abz];omega)
 ·rintro σ H6 ⟨tv,o3,o4,rfl,k6,HG,nt⟩
  refine ⟨d,o,kvs,HG,fun o' u' z=>(by have z' :H d=some (.fD o' u'):=z;rw [ld.hd] at z';cases z'),?_⟩
  have s2:ar H1 (upd H6 d (.dK kvs)):=fun b o' e=>by
   by_cases n:b=d
   ·subst n
    rw [JB.hd] at e
    rw [ah]
    exact e
   ·rw [ak n]
    exact k6 b o' n e
  have t2:dY K (upd H6 d (.dK kvs)) tv (1+kvs.length*(2*N+1202)) (iG (pins.take kvs.length) L M):=nt.aL fun b xs r=>by
   rcases r with r | ⟨o',r⟩
   ·exact .inl (by rw [ak (fun e=>by rw [e,HG] at r;cases r)];exact r)
   ·by_cases c:b=d
    ·rw [c,HG] at r
     cases r
    ·exact .inr ⟨o',by rw [ak c];exact r⟩
  generalize upd H6 d (.dK kvs)=H8 at s2 t2 ⊢
  rw [lk,aaQ] at t2
  have bt:pins.length*(2*N+1202)≤5*(2*N+1202):=aaK _ lp
  exact ⟨_,rfl,q tv H8 (s1.trans s2) (t2.up (by omega))⟩
inductive oz (K:Frag)(vs:List V)(H:Hp)(Q:VK)(E_:XK):Prop where
 | mk (u v:V) (m n:Nat) (r:Rat) (_:vs=[u,v]) (_:dY K H u m r) (_:dY K H v n r) (_:m+n≤130000000) (_:Q (.bl true) H):oz K vs H Q E_
theorem Ni:aA ["_law_one","_law_other"] ["_law_one","_law_other"] (af vB):=sq
theorem Nj (D:Def K mg "_law_alike" vB ["_law_one","_law_other"]):Fn P w K mg base (aX P w) 1 "_law_alike" ["_law_one","_law_other"] (oz K):=by
 refine D.ok Ni (fun vs H Q E h=> ?_) (fun f bx A outer s H vs Q E hr h=> ?_)
 ·obtain ⟨u,v,m,n,r,rfl,_⟩:=h
  rfl
 obtain ⟨u,v,m,n,r,rfl,⟨x,⟨p1,rfl,h1⟩,x2,x3,zx⟩,⟨y,⟨p2,rfl,h2⟩,y2,y3,zy⟩,l,q⟩:=h
 refine ⟨_,(aj (aI (mT cD (aH d7 (aJ (pv 0)) (aJ (pv 1))) (aH d7 (aJ (pv 1)) (aJ (pv 0))) (ba _)))),?_⟩
 refine ⟨_,rfl,p1,_,_,_,rfl,rfl,h1,g9,_,rfl,p2,_,_,_,rfl,rfl,h2,gP,_,_,rfl,rfl,di zx.top zy.bot (by omega),?_⟩
 refine ⟨_,rfl,p2,_,_,_,rfl,rfl,h2,g9,_,rfl,p1,_,_,_,rfl,rfl,h1,gP,_,_,rfl,rfl,di zy.top zx.bot (by omega),rfl,?_⟩
 have e:x.1*y.2=y.1*x.2:=by
  have z1:((x.2:Int):Rat)≠0:=cL (aaV x2)
  have z2:((y.2:Int):Rat)≠0:=cL (aaV y2)
  have k:vl x=vl y:=by rw [x3,y3]
  unfold vl at k
  have:((x.1*y.2:Int):Rat)=((y.1*x.2:Int):Rat):=by
   push_cast
   grind
  exact Rat.intCast_inj.mp this
 have e' :decide (V.int (x.1*y.2)=V.int (y.1*x.2))=true:=decide_eq_true (by rw [e])
 rw [← e'] at q
 exact q
theorem r_ {α β:Type}{nm:α→Str}(b0:β){l:List α}(nd:(l.map nm).Nodup)(f:Nat→β):∃T:Str→β,∀(i:Nat) (x:α),l[i]? =some x→T (nm x)=f i:=by
 classical
 refine ⟨fun s=>if h:∃i,(l.map nm)[i]? =some s then f h.choose else b0,fun i x e=> ?_⟩
 have e' :(l.map nm)[i]? =some (nm x):=by rw [Wp,e];rfl
 have h:∃i,(l.map nm)[i]? =some (nm x):=⟨i,e'⟩
 show (if h:∃i,(l.map nm)[i]? =some (nm x) then f h.choose else b0)=f i
 rw [dif_pos h]
 exact congrArg f (dh nd h.choose_spec e')
theorem oA {t b:Int}(h:0 < b)(h1:t.natAbs < 2048)(h2:b < 2048):Sz 11 (vl (t,b)):=rm (aaV h) (intBits_le_iff.mpr (by show _ < 2048;omega)) (intBits_le_iff.mpr (by show _ < 2048;omega))
theorem kO {H:Hp}{p:Addr}{t b:Int}(e:H p=some (.tup [.int t,.int b]))(h:0 < b)(h1:t.natAbs < 2048)(h2:b < 2048):dY K H (.ref p) 11 (vl (t,b)):=⟨(t,b),⟨p,rfl,bQ.of e⟩,h,rfl,(by show _≤2048;omega),(by show _≤2048;omega)⟩
theorem jt {α:Type}{R:V→α→Prop}:∀(n:Nat) {us:List V} {zs:List α},Paired R us zs→Paired R (us.take n) (zs.take n)
 | 0,_,_,_=>by simpa using Paired.nil
 | n+1,_,_,.nil=>by simpa using Paired.nil
 | n+1,_,_,.cons h t=>by
  rw [aka,aka]
  exact .cons h (jt n t)
inductive oB (K:Frag)(vs:List V)(H:Hp)(Q:VK)(E_:XK):Prop where
 | mk (sA pA bA:Addr) (ns:List Int) (us ws:List V) (pins:List aC) (bars:List a8) (_:vs=[.ref sA,.ref pA,.ref bA]) (_:aT K H sA (ns.map V.int)) (_:BE K H pA bA us ws pins bars) (_:(bars.map (·.nm)).Nodup) (_:∀(l tA uA:Addr) (ts xs:List V) (T:Str→Rat) (U:Str→List Rat) (H' :Hp),ar H H' →H' l=some (.lst [.ref tA,.ref uA])→BF K H' tA uA ts xs pins bars T U 11→(∀b∈bars,Sz 11 (T b.nm))→(∀p∈pins,∀u∈U p.nm,Sz 11 u)→Q (.ref l) H'):oB K vs H Q E_
theorem ju:aA ["_law_script","_law_pins_here","_law_bars_here","_law_pulls","_law_k","_law_cell","_law_pushes","_law_some"] ["_law_script","_law_pins_here","_law_bars_here"] (af vA):=sq
theorem Nk (D:Def K mg "_law_drawn" vA ["_law_script","_law_pins_here","_law_bars_here"])(aZ:mg "len"=none)(a9:mg "range"=none)(jC:Fn P w K mg base (aX P w) 1 "_law_cell_at" ["_law_script","_law_k"] (i_ K))(cB:Fn P w K mg base (aX P w) 1 "_law_field" ["_law_cell","_law_prime","_law_many"] dz):
  Fn P w K mg base (aX P w) 2 "_law_drawn" ["_law_script","_law_pins_here","_law_bars_here"] (oB K):=by
 refine D.ok ju (fun vs H Q E h=> ?_) (fun f bx A outer s H vs Q E hr h=> ?_)
 ·obtain ⟨sA,pA,bA,ns,us,ws,pins,bars,rfl,_⟩:=h
  rfl
 obtain ⟨sA,pA,bA,ns,us,ws,pins,bars,rfl,hS,fr,nb,q⟩:=h
 have L2:2≤sizeLine:=by decide
 have lp:=fr.lp
 have lb:=fr.lb
 have lu:us.length=pins.length:=Paired.length fr.pp
 have lw:ws.length=bars.length:=Paired.length fr.pb
 refine ⟨_,(ae (aw (i:=3) ju.nd rfl (aan rfl) (bD aa))
  (ae (bo PassesOwn.never rfl (bu rfl a9 (aq (aQ aE rfl aZ bT (aq (pv 2) aa)) aa)) (aG (i:=4) ju.nd rfl (aan rfl)) (ae (aw (i:=5) ju.nd rfl (aan rfl) (ay jC hr.mo pX (aq (pv 0) (aq (aH bO ag (pv 4)) aa))))
   (aj (bF (fN PySem.F.plainAttrs_list PySem.F.slot_list_append PySem.F.type_list_append cg (pv 3) (aq (aR (aq (aH cu (ay cB hr.mo pX (aq (pv 5) (aq ag (aq ag aa)))) ag) (aq (aH bO ag (ay cB hr.mo pX (aq (pv 5) (aq ag (aq ag aa))))) aa))) aa))))))
  (ae (aw (i:=6) ju.nd rfl (aan rfl) (bD aa))
  (ae (bo PassesOwn.never rfl (bu rfl a9 (aq (aQ aE rfl aZ bT (aq (pv 1) aa)) aa)) (aG (i:=4) ju.nd rfl (aan rfl)) (ae (aw (i:=5) ju.nd rfl (aan rfl) (ay jC hr.mo pX (aq (pv 0) (aq (aH bO ag (pv 4)) aa))))
   (ae (aw (i:=7) ju.nd rfl (aan rfl) (bD (aq (aR (aq (aH cu (ay cB hr.mo pX (aq (pv 5) (aq ag (aq ag aa)))) ag) (aq ag aa))) (aq (aR (aq (aH cu (ay cB hr.mo pX (aq (pv 5) (aq ag (aq ag aa)))) ag) (aq ag aa))) aa))))
   (aj (bF (fN PySem.F.plainAttrs_list PySem.F.slot_list_append PySem.F.type_list_append cg (pv 6) (aq (cQ fe (pv 7) d3 (dc (aQ aE rfl aZ bT (aq (aJ (aS aK (pv 1) (pv 4) (fun _ _=>rfl))) aa)))) aa)))))))
  (aj (aI (bD (aq (pv 3) (aq (pv 6) aa))))))))),?_⟩
 refine ⟨(by show 0≤sizeLine;decide),?_⟩
 intro lT nT;generalize eX:upd _ lT _=H1;have ⟨s1,eT⟩:=nw nT eX;clear eX
 have en:((ws.length:Nat):Int).toNat=ws.length:=by omega
 refine ⟨_,rfl,bA,_,rfl,.inl (aT.of (s1 _ _ fr.hb)),((ws.length:Nat):Int),rfl,by omega,by omega,bz (lo:=0) (n:=((ws.length:Nat):Int).toNat) (fun i σ H' =>∃(o4 o5:Option V) (ts:List V) (rs:List Rat),σ=[some (.ref sA),some (.ref pA),some (.ref bA),some (.ref lT),o4,o5,none,none]∧ar H H' ∧H' lT=some (.lst ts)∧Paired (fun v r=>dY K H' v 11 r) ts rs∧rs.length=i∧∀r∈rs,Sz 11 r) ⟨none,none,[],[],rfl,s1,eT,.nil,rfl,by simp⟩ ?_ ?_⟩
 ·rintro i σ H2 hi ⟨o4,o5,ts,rs,rfl,s2,e2,pt,lr,zr⟩
  have ek:(0:Int)+(i:Int)=(i:Int):=aaS _
  rw [ek]
  have lt:ts.length=rs.length:=Paired.length pt
  refine ⟨_,rfl,_,rfl,_,_,rfl,rfl,sA,ns,_,rfl,s2.seq hS,by omega,by omega,?_⟩
  generalize cell ns (22+(i:Int))=c0
  have f1:=aV (c:=c0) (p:=4001) (m:=2001) (by decide)
  have f2:=aV (c:=c0) (p:=5003) (m:=9) (by decide)
  refine ⟨_,rfl,.inl ⟨rfl,_,aT.of e2⟩,_,rfl,_,_,_,rfl,by decide,by decide,by decide,_,_,rfl,rfl,_,rfl,_,_,_,rfl,by decide,by decide,by decide,_,_,rfl,rfl,L2,?_⟩
  intro p3 n3;generalize eX:upd _ p3 _=H3;have ⟨s3,e3⟩:=nw n3 eX;clear eX
  have e23:=s3 _ _ e2
  refine ⟨lT,_,_,rfl,rfl,e23,aar (show ts.length≤100 by omega) (by decide),?_⟩
  have st:bf H3 (upd H3 lT (.lst (ts++[.ref p3]))):=.list e23
  refine ⟨_,_,ts++[.ref p3],rs++[vl (field c0 4001 2001 - 1000,1+field c0 5003 9)],rfl,fun b o z=> ?_,ah,cw (Paired.bU pt fun _ _ z=>(z.same s3).aL st) ((kO e3 (by omega) (by omega) (by omega)).aL st),by simp [lr],fun r hr=> ?_⟩
  ·rw [ak (ao z nT)]
   exact s3 _ _ (s2 _ _ z)
  ·rcases aaH.mp hr with z | z
   ·exact zr r z
   ·rw [aaD.mp z]
    exact oA (by omega) (by omega) (by omega)
 rintro σ H2 ⟨o4,o5,ts,rs,rfl,s2,e2,pt,lr,zr⟩
 rw [en,lw] at lr
 refine ⟨(by show 0≤sizeLine;decide),?_⟩
 intro lU nU;generalize eX:upd _ lU _=H3;have ⟨s3,eU⟩:=nw nU eX;clear eX
 have wg:=s2.trans s3
 have Ng:((us.length:Nat):Int).toNat=us.length:=by omega
 refine ⟨_,rfl,pA,_,rfl,.inl (aT.of (wg _ _ fr.hp)),((us.length:Nat):Int),rfl,by omega,by omega,bz (lo:=0) (n:=((us.length:Nat):Int).toNat) (fun i σ H' =>∃(o4 o5 o7:Option V) (xs:List V) (wj:List (List Rat)),σ=[some (.ref sA),some (.ref pA),some (.ref bA),some (.ref lT),o4,o5,some (.ref lU),o7]∧ar H2 H' ∧H' lU=some (.lst xs)∧Paired (fun v rs=>∃la ys,v=.ref la∧la≠lU∧H' la=some (.lst ys)∧Paired (fun v r=>dY K H' v 11 r) ys rs) xs wj∧wj.length=i∧∀(j:Nat) (rs:List Rat) (p:aC),wj[j]? =some rs→pins[j]? =some p→rs.length=p.ws.length∧∀r∈rs,Sz 11 r) ⟨o4,o5,none,[],[],rfl,s3,eU,.nil,rfl,by simp⟩ ?_ ?_⟩
 ·rintro i σ H4 hi ⟨o4,o5,o7,xs,wj,rfl,s4,e4,DF,Rq,zz⟩
  have ek:(0:Int)+(i:Int)=(i:Int):=aaS _
  rw [ek]
  have rX:=s2.trans s4
  have lx:xs.length=wj.length:=Paired.length DF
  have DS:i < us.length:=by omega
  obtain ⟨p,ep,yI⟩:=aF fr.pp (gE DS)
  have mp:=aai ep
  obtain ⟨ta,l,sv,eV,eu,h1,h2,h3,h4⟩:=yI.same rX
  have ai:dr us (i:Int)=some (.ref ta):=a_ (by rw [gE DS,eu])
  have lv:eV.length=p.ws.length:=Paired.length h4
  have lwp:=(fr.gp.ws p mp).len
  refine ⟨_,rfl,_,rfl,_,_,rfl,rfl,sA,ns,_,rfl,rX.seq hS,by omega,by omega,?_⟩
  generalize cell ns (16+(i:Int))=c0
  have f1:=aV (c:=c0) (p:=6007) (m:=201) (by decide)
  have f2:=aV (c:=c0) (p:=7001) (m:=201) (by decide)
  refine ⟨_,rfl,_,_,_,rfl,by decide,by decide,by decide,_,_,rfl,rfl,L2,?_⟩
  intro p5 n5;generalize eX:upd _ p5 _=H5;have ⟨s5,e5⟩:=nw n5 eX;clear eX
  refine ⟨_,rfl,_,_,_,rfl,by decide,by decide,by decide,_,_,rfl,rfl,L2,?_⟩
  intro p6 n6;generalize eX:upd _ p6 _=H6;have ⟨s6,e6⟩:=nw n6 eX;clear eX
  refine ⟨L2,?_⟩
  intro l7 n7;generalize eX:upd _ l7 _=H7;have ⟨s7,e7⟩:=nw n7 eX;clear eX
  have Nl:=s5.trans (s6.trans s7)
  have T8:=Nl _ _ e4
  refine ⟨_,rfl,.inl ⟨rfl,_,aT.of T8⟩,_,rfl,_,rfl,_,rfl,pA,_,_,_,rfl,rfl,aT.of ((rX.trans Nl) _ _ fr.hp),ai,ta,_,_,_,rfl,rfl,Ty.ar.cO Nl h1,rfl,l,_,rfl,.inl (aT.of (Nl _ _ h3)),_,rfl,l7,_,rfl,aT.of e7,?_⟩
  rw [jM (show eV.length≤[V.ref p5,V.ref p6].length by show eV.length≤2;omega)]
  intro la n8;generalize eX:upd _ la _=H8;have ⟨s8,e8⟩:=nw n8 eX;clear eX
  have e48:=s8 _ _ T8
  have Jx:=Nl.trans s8
  refine ⟨lU,_,_,rfl,rfl,e48,aar (show xs.length≤100 by omega) (by decide),?_⟩
  have st:bf H8 (upd H8 lU (.lst (xs++[.ref la]))):=.list e48
  have y_:la≠lU:=fun z=>by rw [z,T8] at n8;cases n8
  have two:Paired (fun v r=>dY K H8 v 11 r) [V.ref p5,V.ref p6] [vl (field c0 6007 201 - 100,1),vl (field c0 7001 201 - 100,2)]:=.cons (kO (s8 _ _ (s7 _ _ (s6 _ _ e5))) (by decide) (by omega) (by decide)) (.cons (kO (s8 _ _ (s7 _ _ e6)) (by decide) (by omega) (by decide)) .nil)
  refine ⟨_,_,_,xs++[.ref la],wj++[[vl (field c0 6007 201 - 100,1),vl (field c0 7001 201 - 100,2)].take eV.length],rfl,fun b o z=> ?_,ah,cw (Paired.bU DF fun v rs ⟨T9,ys,a,b,c,d⟩=>⟨T9,ys,a,b,by rw [ak b];exact Jx _ _ c,Paired.bU d fun _ _ z=>(z.same Jx).aL st⟩) ⟨la,_,rfl,y_,by rw [ak y_];exact e8,Paired.bU (jt _ two) fun _ _ z=>z.aL st⟩,by simp [Rq],fun j rs p' ej oG => ?_⟩
  ·rw [ak (ao z nU)]
   exact Jx _ _ (s4 _ _ z)
  ·by_cases c:j < wj.length
   ·rw [aaq c] at ej
    exact zz j rs p' ej oG
   ·rw [aat (by omega)] at ej
    have T_:j=i:=by
     by_cases z:j - wj.length=0
     ·omega
     ·rw [aam (by simp;omega)] at ej
      cases ej
    subst T_
    rw [show j - wj.length=0 by omega] at ej
    cases ej
    rw [ep] at oG
    cases oG
    refine ⟨?_,fun r hr=> ?_⟩
    ·rw [aaG]
     show min eV.length 2=p.ws.length
     omega
    ·have:=aj_ hr
     rcases aaJ.mp this with z | z
     ·rw [z]
      exact oA (by decide) (by omega) (by decide)
     ·rw [aaD.mp z]
      exact oA (by decide) (by omega) (by decide)
 rintro σ H4 ⟨o4,o5,o7,xs,wj,rfl,s4,e4,DF,Rq,zz⟩
 rw [Ng,lu] at Rq
 refine ⟨_,rfl,_,rfl,L2,?_⟩
 intro l5 n5;generalize eX:upd _ l5 _=H5;have ⟨s5,e5⟩:=nw n5 eX;clear eX
 have v3:=s4.trans s5
 obtain ⟨T,hT⟩:=r_ (nm:=a8.nm) (0:Rat) nb fun i=>rs.getD i 0
 obtain ⟨U,hU⟩:=r_ (nm:=aC.nm) ([]:List Rat) fr.gp.np fun i=>wj.getD i []
 have tT:∀(i:Nat) (b:a8),bars[i]? =some b→rs[i]? =some (T b.nm):=fun i b e=>by
  have hi:=(be.mp e).1
  rw [hT i b e,aaz,gE (by omega)]
  rfl
 have tU:∀(i:Nat) (p:aC),pins[i]? =some p→wj[i]? =some (U p.nm):=fun i p e=>by
  have hi:=(be.mp e).1
  rw [hU i p e,aaz,gE (by omega)]
  rfl
 refine q l5 lT lU ts xs T U H5 (s2.trans v3) e5 ⟨v3 _ _ e2,eW (by rw [Paired.length pt,lr]) fun i v e=> ?_,s5 _ _ e4,eW (by rw [Paired.length DF,Rq]) fun i v e=> ?_,fun p hp=> ?_,by decide⟩ (fun b hb=> ?_) fun p hp u hu=> ?_
 ·obtain ⟨r,er,nr⟩:=aF pt e
  have hi:=(be.mp er).1
  obtain ⟨b,eb⟩:∃b,bars[i]? =some b:=⟨_,gE (by omega)⟩
  have:=tT i b eb
  rw [er] at this
  exact ⟨b,eb,by rw [← aaE this];exact nr.same v3⟩
 ·obtain ⟨rs',er,la,ys,a,b,c,d⟩:=aF DF e
  have hi:=(be.mp er).1
  obtain ⟨p,ep⟩:∃p,pins[i]? =some p:=⟨_,gE (by omega)⟩
  have:=tU i p ep
  rw [er] at this
  exact ⟨p,ep,la,ys,a,s5 _ _ c,by rw [← aaE this];exact Paired.bU d fun _ _ z=>z.same s5⟩
 ·obtain ⟨i,ei⟩:=aas hp
  exact (zz i _ p (tU i p ei) ei).1
 ·obtain ⟨i,ei⟩:=aas hb
  exact zr _ (aai (tT i b ei))
 ·obtain ⟨i,ei⟩:=aas hp
  exact (zz i _ p (tU i p ei) ei).2 u hu
theorem yP {α:Type}{k:Nat}{f:α→Rat}:∀{l:List α},(∀x∈l,Sz k (f x))→Sz (l.length*(k+1)+1) (l.map f).sum
 | [],_=>by
  rw [aaW,abh]
  exact df (by simp)
 | x::l,h=>by
  rw [aaj,aaO,aaP]
  refine ((h x aax).add (yP fun y hy=>h y (aav _ hy))).up ?_
  rw [abz]
  omega
theorem DT {k m:Nat}:∀{us ws:List Rat},(∀u∈us,Sz k u)→(∀w∈ws,Sz m w)→Sz (us.length*(k+m+1)+1) (sP us ws)
 | [],ws,_,_=>by
  rw [dR]
  exact df (by simp)
 | u::us,[],_,_=>by
  have:sP (u::us) []=0:=by simp [sP]
  rw [this]
  exact df (by simp)
 | u::us,w::ws,h1,h2=>by
  rw [bR,aaP]
  refine (((h1 u aax).mul (h2 w aax)).add (DT (us:=us) (ws:=ws) (fun y hy=>h1 y (aav _ hy)) fun y hy=>h2 y (aav _ hy))).up ?_
  rw [abz]
  omega
theorem qB {pins:List aC}{bars:List a8}(g:cU pins bars){T:Str→Rat}{U:Str→List Rat}(zT:∀b∈bars,Sz 11 (T b.nm))(zU:∀p∈pins,∀u∈U p.nm,Sz 11 u)(lU:∀p∈pins,(U p.nm).length=p.ws.length){p:aC}(hp:p∈pins){c:Rat×Rat→Rat}(hc:∀{n:Nat} {w:Rat×Rat},Sz n w.1∧Sz n w.2→Sz n (c w)):Sz 600 (bP bars T U p c):=by
 unfold bP
 have z1:Sz ((U p.nm).length*(11+22+1)+1) (sP (U p.nm) (p.ws.map c)):=DT (zU p hp) fun w hw=>by
  obtain ⟨w',Ls,rfl⟩:=aal.mp hw
  exact hc ((g.sz p hp).2.2 w' Ls)
 have z2:Sz (bars.length*(61+1)+1) (bars.map fun b=>T b.nm*c (mv (ck b) p.nm)).sum:=yP fun b hb=>((zT b hb).mul (hc (yn g hb p.nm))).up (by decide)
 have l1:=g.lw p hp
 have l2:=g.lb
 have l3:=lU p hp
 have m1:(U p.nm).length*(11+22+1)≤2*34:=aaK 34 (by omega)
 have m2:bars.length*(61+1)≤8*62:=aaK 62 l2
 exact (z1.add z2).up (by omega)
def kQ (bars:List a8)(T:Str→Rat)(U:Str→List Rat)(p:aC):Rat×Rat:=(-(bP bars T U p (·.1)), -(bP bars T U p (·.2)))
theorem tW {q:Int×Int}{r:Rat}(h:0 < q.2)(e:vl q=r):low (0 - q.1) q.2=qr (-r):=by
 rw [dN (aaV h), ← e]
 congr 1
 unfold vl
 push_cast
 grind
inductive oC (K:Frag)(vs:List V)(H:Hp)(Q:VK)(E_:XK):Prop where
 | mk (pA bA l tA uA:Addr) (us ws ts xs:List V) (pins:List aC) (bars:List a8) (T:Str→Rat) (U:Str→List Rat) (N:Nat) (_:vs=[.ref pA,.ref bA,.ref l]) (_:BE K H pA bA us ws pins bars) (_:H l=some (.lst [.ref tA,.ref uA])) (_:BF K H tA uA ts xs pins bars T U N) (_:cU pins bars) (_:(∀b∈bars,Sz 11 (T b.nm))) (_:(∀p∈pins,∀u∈U p.nm,Sz 11 u)) (_:∀(d:Addr) (kvs:List (Key×V)) (L:Str→Rat×Rat) (H' :Hp),ar H H' →BG K H' d kvs pins L→(∀p∈pins,L p.nm=kQ bars T U p)→Q (.ref d) H'):oC K vs H Q E_
theorem mK:aA ["_law_pins_here","_law_bars_here","_law_drawn_here","_law_found","_law_load_here","_law_k","_law_x","_law_y"] ["_law_pins_here","_law_bars_here","_law_drawn_here"] (af s_by):=sq
theorem Nn (D:Def K mg "_law_load" s_by ["_law_pins_here","_law_bars_here","_law_drawn_here"])(aZ:mg "len"=none)(a9:mg "range"=none)(IJ:Fn P w K mg base (aX P w) 3 "_law_forces" ["_law_pins_here","_law_bars_here","_law_pulls","_law_pushes"] (iF K))(lL:Fn P w K mg base (aX P w) 33 "_law_lowest" ["_law_top","_law_bottom"] cG):
  Fn P w K mg base (aX P w) 34 "_law_load" ["_law_pins_here","_law_bars_here","_law_drawn_here"] (oC K):=by
 refine D.ok mK (fun vs H Q E h=> ?_) (fun f bx A outer s H vs Q E hr h=> ?_)
 ·obtain ⟨pA,bA,l,tA,uA,us,ws,ts,xs,pins,bars,T,U,N,rfl,_⟩:=h
  rfl
 obtain ⟨pA,bA,l,tA,uA,us,ws,ts,xs,pins,bars,T,U,N,rfl,fr,hl,fo,g,zT,zU,q⟩:=h
 have L2:2≤sizeLine:=by decide
 have lp:=fr.lp
 have lu:us.length=pins.length:=Paired.length fr.pp
 refine ⟨_,(ae (aw (i:=3) mK.nd rfl (aan rfl) (ay IJ hr.mo pX (aq (pv 0) (aq (pv 1) (aq (gk (pv 2)) (aq (gk (pv 2)) aa))))))
  (ae (aw (i:=4) mK.nd rfl (aan rfl) dI)
  (ae (bo PassesOwn.never rfl (bu rfl a9 (aq (aQ aE rfl aZ bT (aq (pv 0) aa)) aa)) (aG (i:=5) mK.nd rfl (aan rfl)) (ae (aw (i:=6) mK.nd rfl (aan rfl) (ay lL hr.mo pX (aq (aH cu ag (aJ (gk (aS aK (pv 3) (pv 5) (fun _ _=>rfl))))) (aq (aJ (gk (aS aK (pv 3) (pv 5) (fun _ _=>rfl)))) aa))))
   (ae (aw (i:=7) mK.nd rfl (aan rfl) (ay lL hr.mo pX (aq (aH cu ag (aJ (gk (aS aK (pv 3) (pv 5) (fun _ _=>rfl))))) (aq (aJ (gk (aS aK (pv 3) (pv 5) (fun _ _=>rfl)))) aa))))
   (aj (d6 (cy hr) (pv 4) (aJ (aS aK (pv 0) (pv 5) (fun _ _=>rfl))) (aR (aq (pv 6) (aq (pv 7) aa))) rfl)))))
  (aj (aI (pv 4)))))),?_⟩
 have sl:=aT.of (K:=K) hl
 refine ⟨_,rfl,_,rfl,_,rfl,l,_,_,_,rfl,rfl,sl,rfl,_,rfl,l,_,_,_,rfl,rfl,sl,rfl,pA,bA,tA,uA,us,ws,ts,xs,pins,bars,T,U,N,rfl,fr,fo,fun fA ls F H1 s1 ll hF eF=> ?_⟩
 obtain ⟨L,hL⟩:=r_ (nm:=aC.nm) ((0,0):Rat×Rat) fr.gp.np fun i=>(pins[i]?.map (kQ bars T U)).getD (0,0)
 have eL:∀(i:Nat) (p:aC),pins[i]? =some p→L p.nm=kQ bars T U p:=fun i p e=>by
  rw [hL i p e,e]
  rfl
 intro d nd;generalize eX:upd _ d _=H2;have ⟨s2,e2⟩:=nw nd eX;clear eX
 have vV:=s1.trans s2
 have en:((us.length:Nat):Int).toNat=us.length:=by omega
 refine ⟨_,rfl,pA,_,rfl,.inl (aT.of (vV _ _ fr.hp)),((us.length:Nat):Int),rfl,by omega,by omega,bz (lo:=0) (n:=((us.length:Nat):Int).toNat) (fun i σ H' =>∃(o5 o6 o7:Option V) (kvs:List (Key×V)),σ=[some (.ref pA),some (.ref bA),some (.ref l),some (.ref fA),some (.ref d),o5,o6,o7]∧ar H1 H' ∧H' d=some (.dK kvs)∧kvs.map (·.1)=(pins.take i).map (fun p=>(aaT p.nm:Key))∧∀(j:Nat) (p:aC),(pins.take i)[j]? =some p→∃v,kvs[j]? =some (.inr p.nm,v)∧dC K H' v (L p.nm)) ⟨none,none,none,[],rfl,s2,e2,by simp,fun j p e=>by simp at e⟩ ?_ ?_⟩
 ·rintro i σ H3 hi ⟨o5,o6,o7,kvs,rfl,s3,e3,ky,tv⟩
  have ek:(0:Int)+(i:Int)=(i:Int):=aaS _
  rw [ek]
  have wg:=s1.trans s3
  have DS:i < us.length:=by omega
  obtain ⟨p,ep,yI⟩:=aF fr.pp (gE DS)
  have mp:=aai ep
  obtain ⟨ta,lw,sv,eV,eu,h1,_,_,_⟩:=yI.same wg
  have ai:dr us (i:Int)=some (.ref ta):=a_ (by rw [gE DS,eu])
  have F3:=hF.same s3
  obtain ⟨lr,Np⟩:∃lr,ls[i]? =some lr:=⟨_,gE (by omega)⟩
  obtain ⟨w1,w2,Rr,⟨q1,⟨a1,rfl,m1⟩,b1,c1,_⟩,⟨q2,⟨a2,rfl,m2⟩,b2,c2,_⟩⟩:=F3.row i lr Np
  obtain ⟨f1,f2⟩:=eF i p ep
  have JC:dr (ls.map V.ref) (i:Int)=some (.ref lr):=a_ (by rw [Wp,Np];rfl)
  have lf:=aT.of (K:=K) F3.hf
  have lrq:=aT.of (K:=K) Rr
  refine ⟨_,rfl,_,rfl,fA,_,_,_,rfl,rfl,lf,JC,lr,_,_,_,rfl,rfl,lrq,rfl,a1,_,_,_,rfl,rfl,m1,g9,_,_,rfl,rfl,_,rfl,_,rfl,fA,_,_,_,rfl,rfl,lf,JC,lr,_,_,_,rfl,rfl,lrq,rfl,a1,_,_,_,rfl,rfl,m1,gP,_,_,rfl,b1,fun p4 H4 s4 e4=> ?_⟩
  rw [tW b1 (c1.trans f1)] at e4
  have lf4:=aT.of (K:=K) (s4 _ _ F3.hf)
  have lr4:=aT.of (K:=K) (s4 _ _ Rr)
  have m24:=Ty.ar.cO s4 m2
  refine ⟨_,rfl,_,rfl,fA,_,_,_,rfl,rfl,lf4,JC,lr,_,_,_,rfl,rfl,lr4,rfl,a2,_,_,_,rfl,rfl,m24,g9,_,_,rfl,rfl,_,rfl,_,rfl,fA,_,_,_,rfl,rfl,lf4,JC,lr,_,_,_,rfl,rfl,lr4,rfl,a2,_,_,_,rfl,rfl,m24,gP,_,_,rfl,b2,fun p5 H5 s5 e5=> ?_⟩
  rw [tW b2 (c2.trans f2)] at e5
  refine ⟨_,rfl,_,rfl,L2,?_⟩
  intro p6 n6;generalize eX:upd _ p6 _=H6;have ⟨s6,e6⟩:=nw n6 eX;clear eX
  have Nq:=s4.trans (s5.trans s6)
  have Ua:=Nq _ _ e3
  have lk:kvs.length=i:=by
   have:=congrArg abk ky
   rw [ir,ir,aaG] at this
   omega
  refine ⟨_,rfl,_,rfl,_,rfl,pA,_,_,_,rfl,rfl,aT.of ((wg.trans Nq) _ _ fr.hp),ai,ta,_,_,_,rfl,rfl,Ty.ar.cO Nq h1,eY,d,_,rfl,iR.k (k:=.inr p.nm) Ua (aar (show kvs.length≤100 by omega) (by decide)),?_⟩
  have new:bV kvs (.inr p.nm)=none:=bY (by
   rw [ky]
   intro z
   obtain ⟨p',iq,e'⟩:=aal.mp z
   exact dO (nm:=aC.nm) fr.gp.np ep iq (by injection e'))
  rw [cF _ new]
  have t6:bf H6 (upd H6 d (.dK (kvs++[(.inr p.nm,.ref p6)]))):=fun b zs r=>by
   rcases r with r | ⟨o',r⟩
   ·exact .inl (by rw [ak (fun e=>by rw [e,Ua] at r;cases r)];exact r)
   ·exact .inr ⟨o',by rw [ak (fun e=>by rw [e,Ua] at r;cases r)];exact r⟩
  have pv:dC K H6 (.ref p6) (L p.nm):=by
   rw [eL i p ep]
   exact ⟨p6,_,_,rfl,bQ.of e6,gs (s6 _ _ (s5 _ _ e4)),gs (s6 _ _ e5)⟩
  refine ⟨_,_,_,kvs++[(.inr p.nm,.ref p6)],rfl,fun b o z=> ?_,ah,?_,fun j p' ej=> ?_⟩
  ·rw [ak (ao z nd)]
   exact Nq _ _ (s3 _ _ z)
  ·rw [aaA,ky,take_snoc ep,aaA]
   rfl
  ·rw [take_snoc ep] at ej
   have l0:(pins.take i).length=i:=by rw [aaG];omega
   by_cases c:j < i
   ·rw [aaq (by omega)] at ej
    obtain ⟨v,e1,e2⟩:=tv j p' ej
    exact ⟨v,by rw [aaq (by omega)];exact e1,(e2.same Nq).aL t6⟩
   ·have T_:j=i:=by
     rw [aat (by omega)] at ej
     by_cases z:j - (pins.take i).length=0
     ·omega
     ·rw [aam (by simp only [aj5];omega)] at ej
      cases ej
    subst T_
    rw [aat (by omega),show j - (pins.take j).length=0 by omega] at ej
    cases ej
    exact ⟨.ref p6,by rw [aat (by omega),show j - kvs.length=0 by omega];rfl,pv.aL t6⟩
 ·rintro σ H3 ⟨o5,o6,o7,kvs,rfl,s3,e3,ky,tv⟩
  rw [en,lu,aaQ] at ky tv
  refine ⟨_,rfl,q d kvs L H3 (s1.trans s3) ⟨e3,ky,tv,fun p hp=> ?_⟩ fun p hp=> ?_⟩
  ·obtain ⟨i,ei⟩:=aas hp
   rw [eL i p ei]
   exact ⟨(qB g zT zU fo.lU hp (fun h=>h.1)).neg,(qB g zT zU fo.lU hp (fun h=>h.2)).neg⟩
  ·obtain ⟨i,ei⟩:=aas hp
   exact eL i p ei
structure BH (K:Frag)(H:Hp)(pins:List aC)(bars:List a8)(dT dU:Addr)(kT kU:List (Key×V))(T:Str→Rat)(U:Str→List Rat)(N:Nat):Prop where
 hT:H dT=some (.dK kT)
 hU:H dU=some (.dK kU)
 yi:kT.map (·.1)=bars.map (fun b=>(aaT b.nm:Key))
 yj:kU.map (·.1)=pins.map (fun p=>(aaT p.nm:Key))
 tT:∀b∈bars,∃v,bV kT (.inr b.nm)=some v∧dq K H v (T b.nm)
 tU:∀p∈pins,∃la vs,bV kU (.inr p.nm)=some (.ref la)∧H la=some (.lst vs)∧Paired (dq K H) vs (U p.nm)
 lU:∀p∈pins,(U p.nm).length=p.ws.length
 zT:∀b∈bars,Zb N (T b.nm)
 zU:∀p∈pins,∀u∈U p.nm,Zb N u
 hN:N≤2000000
theorem BH.same {H H' :Hp}{pins:List aC}{bars:List a8}{dT dU:Addr}{kT kU:List (Key×V)}{T:Str→Rat}{U:Str→List Rat}{N:Nat}(h:BH K H pins bars dT dU kT kU T U N)(s:ar H H'):BH K H' pins bars dT dU kT kU T U N:=⟨s _ _ h.hT,s _ _ h.hU,h.yi,h.yj,fun b hb=>by
 obtain ⟨v,a,b⟩:=h.tT b hb
 exact ⟨v,a,b.same s⟩,fun p hp=>by
 obtain ⟨la,vs,a,b,c⟩:=h.tU p hp
 exact ⟨la,vs,a,s _ _ b,Paired.bU c fun _ _ z=>z.same s⟩,h.lU,h.zT,h.zU,h.hN⟩
theorem BH.Ub {H:Hp}{pins:List aC}{bars:List a8}{dT dU:Addr}{kT kU:List (Key×V)}{T:Str→Rat}{U:Str→List Rat}{N:Nat}(h:BH K H pins bars dT dU kT kU T U N){b:a8}(hb:b∈bars):∃v,cJ H dT (.str b.nm) (some v)∧dq K H v (T b.nm):=by
 obtain ⟨v,a,c⟩:=h.tT b hb
 refine ⟨v,?_,c⟩
 have:=cJ.k (k:=.inr b.nm) h.hT
 rw [a] at this
 exact this
theorem BH.Uc {H:Hp}{pins:List aC}{bars:List a8}{dT dU:Addr}{kT kU:List (Key×V)}{T:Str→Rat}{U:Str→List Rat}{N:Nat}(h:BH K H pins bars dT dU kT kU T U N){p:aC}(hp:p∈pins):∃la vs,cJ H dU (.str p.nm) (some (.ref la))∧H la=some (.lst vs)∧Paired (dq K H) vs (U p.nm):=by
 obtain ⟨la,vs,a,b,c⟩:=h.tU p hp
 refine ⟨la,vs,?_,b,c⟩
 have:=cJ.k (k:=.inr p.nm) h.hU
 rw [a] at this
 exact this
theorem BG.get {H:Hp}{d:Addr}{kvs:List (Key×V)}{pins:List aC}{L:Str→Rat×Rat}(h:BG K H d kvs pins L)(nd:(pins.map (·.nm)).Nodup){i:Nat}{p:aC}(e:pins[i]? =some p):∃v,bV kvs (.inr p.nm)=some v∧cJ H d (.str p.nm) (some v)∧dC K H v (L p.nm):=by
 obtain ⟨v,a,b⟩:=h.tv i p e
 have nk:(kvs.map (·.1)).Nodup:=by
  rw [h.ky]
  have:(pins.map fun p=>(aaT p.nm:Key))=(pins.map (·.nm)).map aaT:=by rw [aaI];rfl
  rw [this]
  exact akr _ (fun a b n z=>n (by injection z)) nd
 have ev:=hV nk a
 refine ⟨v,ev,?_,b⟩
 have:=cJ.k (k:=.inr p.nm) h.hd
 rw [ev] at this
 exact this
def kR (T0 T1:Str→Rat)(x:Str):Rat:=T0 x+2*T1 x
def fX (U0 U1:Str→List Rat)(x:Str):List Rat:=aba (fun a b=>a+2*b) (U0 x) (U1 x)
theorem qC:∀{as bs:List Rat} (cs:List Rat),as.length=bs.length→sP (aba (fun a b=>a+2*b) as bs) cs=sP as cs+2*sP bs cs
 | [],[],cs,_=>by
  simp only [List.zipWith_nil_left,dR]
  grind
 | a::as,b::bs,[],_=>by
  simp [sP]
  grind
 | a::as,b::bs,c::cs,h=>by
  rw [ag_,bR,bR,bR,qC cs (by simpa using h)]
  grind
theorem jw {bars:List a8}{T0 T1:Str→Rat}{U0 U1:Str→List Rat}{p:aC}(l:(U0 p.nm).length=(U1 p.nm).length)(c:Rat×Rat→Rat):bP bars (kR T0 T1) (fX U0 U1) p c=bP bars T0 U0 p c+2*bP bars T1 U1 p c:=by
 unfold bP fX
 rw [qC _ l]
 have e:(bars.map fun b=>kR T0 T1 b.nm*c (mv (ck b) p.nm)).sum=(bars.map fun b=>T0 b.nm*c (mv (ck b) p.nm)).sum+2*(bars.map fun b=>T1 b.nm*c (mv (ck b) p.nm)).sum:=by
  clear l
  induction bars with
  | nil=>
   simp only [aaW,abh]
   grind
  | cons b bars ih=>
   simp only [aaj,aaO]
   rw [ih]
   unfold kR
   grind
 rw [e]
 grind
inductive oE (K:Frag)(vs:List V)(H:Hp)(Q:VK)(E_:XK):Prop where
 | mk (pA bA l tA uA po dT dU d:Addr) (us ws ts xs:List V) (pins:List aC) (bars:List a8) (T0 T1:Str→Rat) (U0 U1:Str→List Rat) (kT kU kvs:List (Key×V)) (L:Str→Rat×Rat) (N:Nat) (_:vs=[.ref pA,.ref bA,.ref l,.ref po,.ref d]) (_:BE K H pA bA us ws pins bars) (_:H l=some (.lst [.ref tA,.ref uA])) (_:BF K H tA uA ts xs pins bars T0 U0 11) (_:H po=some (.tup [.ref dT,.ref dU])) (_:BH K H pins bars dT dU kT kU T1 U1 N) (_:oi pins bars T1 U1) (_:BG K H d kvs pins L) (_:(∀p∈pins,L p.nm=kQ bars T0 U0 p)) (_:N≤1500000) (_:∀H',ar H H' →Q (.bl true) H'):oE K vs H Q E_
theorem iH:aA ["_law_pins_here","_law_bars_here","_law_drawn_here","_law_own","_law_load_here","_law_pulls","_law_k","_law_pushes","_law_some","_law_found","_law_axis"] ["_law_pins_here","_law_bars_here","_law_drawn_here","_law_own","_law_load_here"] (af vC):=sq
theorem Nr (D:Def K mg "_law_twice_more" vC ["_law_pins_here","_law_bars_here","_law_drawn_here","_law_own","_law_load_here"])(aZ:mg "len"=none)(a9:mg "range"=none)(jb:Fn P w K mg base (aX P w) 1 "_law_sum" ["_law_one","_law_other"] (bJ K dW))(qz:Fn P w K mg base (aX P w) 1 "_law_times" ["_law_one","_law_other"] (bJ K gf))(IJ:Fn P w K mg base (aX P w) 3 "_law_forces" ["_law_pins_here","_law_bars_here","_law_pulls","_law_pushes"] (iF K)):
  Fn P w K mg base (aX P w) 4 "_law_twice_more" ["_law_pins_here","_law_bars_here","_law_drawn_here","_law_own","_law_load_here"] (oE K):=by
 refine D.ok iH (fun vs H Q E h=> ?_) (fun f bx A outer s H vs Q E hr h=> ?_)
 ·obtain ⟨pA,bA,l,tA,uA,po,dT,dU,d,us,ws,ts,xs,pins,bars,T0,T1,U0,U1,kT,kU,kvs,L,N,rfl,_⟩:=h
  rfl
 obtain ⟨pA,bA,l,tA,uA,po,dT,dU,d,us,ws,ts,xs,pins,bars,T0,T1,U0,U1,kT,kU,kvs,L,N,rfl,fr,hl,fo,hpo,pl,no,ld,eL,hN,q⟩:=h
 have L2:2≤sizeLine:=by decide
 have lp:=fr.lp
 have lb:=fr.lb
 have lu:us.length=pins.length:=Paired.length fr.pp
 have lw:ws.length=bars.length:=Paired.length fr.pb
 have two:∀{H' :Hp} {p:Addr},H' p=some (.tup [.int 2,.int 1])→dY K H' (.ref p) 2 2:=fun {H' p} e=>⟨(2,1),⟨p,rfl,bQ.of e⟩,by decide,by decide+kernel,by decide,by decide⟩
 refine ⟨_,(ae (aw (i:=5) iH.nd rfl (aan rfl) (bD aa))
  (ae (bo PassesOwn.never rfl (bu rfl a9 (aq (aQ aE rfl aZ bT (aq (pv 1) aa)) aa)) (aG (i:=6) iH.nd rfl (aaZ rfl)) (aj (bF (fN PySem.F.plainAttrs_list PySem.F.slot_list_append PySem.F.type_list_append cg (pv 5) (aq (ay jb hr.mo pX (aq (aS aK (gk (pv 2)) (pv 6) (fun _ _=>rfl)) (aq (ay qz hr.mo pX (aq (aR (aq ag (aq ag aa))) (aq (dw (cy hr) (aJ (pv 3)) (aJ (aS aK (pv 1) (pv 6) (fun _ _=>rfl))) (fun _ _=>rfl)) aa))) aa))) aa)))))
  (ae (aw (i:=7) iH.nd rfl (aan rfl) (bD aa))
  (ae (bo PassesOwn.never rfl (bu rfl a9 (aq (aQ aE rfl aZ bT (aq (pv 0) aa)) aa)) (aG (i:=6) iH.nd rfl (aaZ rfl)) (ae (aw (i:=8) iH.nd rfl (aaZ rfl) (dw (cy hr) (aJ (pv 3)) (aJ (aS aK (pv 0) (pv 6) (fun _ _=>rfl))) (fun _ _=>rfl)))
   (aj (bF (fN PySem.F.plainAttrs_list PySem.F.slot_list_append PySem.F.type_list_append cg (pv 7) (aq (de (tn:=["_law_j"]) (fr:=["_law_some","_law_k","_law_drawn_here"]) (caps:=[8,6,2]) rfl ⟨rfl,by decide+kernel,rfl,by decide+kernel,by decide+kernel,rfl,⟨(by first | exact aan rfl | exact aaZ rfl),⟨(by first | exact aan rfl | exact aaZ rfl),⟨(by first | exact aan rfl | exact aaZ rfl),trivial⟩⟩⟩,⟨(by first | exact aan rfl | exact aaZ rfl),⟨(by first | exact aan rfl | exact aaZ rfl),⟨(by first | exact aan rfl | exact aaZ rfl),trivial⟩⟩⟩⟩ (bu rfl a9 (aq (aQ aE rfl aZ bT (aq (pv 8) aa)) aa)) (fun _ _ _ _=>(aG (i:=0) (show (["_law_j","_law_some","_law_k","_law_drawn_here"]:List Str).Nodup from by decide+kernel) rfl (aan rfl))) (fun _ _ _ _=>cR) (fun _ _ _ _=>(ay jb hr.mo (pD (by first | assumption | exact aX.m9) rfl) (aq (aS (eA (K:=K) rfl) (aS (eA (K:=K) rfl) (aS (eA (K:=K) rfl) (pv 3) ag (fun _ _=>rfl)) (pv 2) (fun _ _=>rfl)) (pv 0) (fun _ _=>rfl)) (aq (ay qz hr.mo (pD (by first | assumption | exact aX.m9) rfl) (aq (aR (aq ag (aq ag aa))) (aq (aS (eA (K:=K) rfl) (pv 1) (pv 0) (fun _ _=>rfl)) aa))) aa))))) aa))))))
  (ae (aw (i:=9) iH.nd rfl (aan rfl) (ay IJ hr.mo pX (aq (pv 0) (aq (pv 1) (aq (pv 5) (aq (pv 7) aa))))))
  (ae (bo PassesOwn.never rfl (bu rfl a9 (aq (aQ aE rfl aZ bT (aq (pv 0) aa)) aa)) (aG (i:=6) iH.nd rfl (aaZ rfl)) (aj (bo PassesOwn.never rfl (bu rfl a9 (aq ag aa)) (aG (i:=10) iH.nd rfl (aan rfl)) (aj (bG (aU oR (aJ (ay jb hr.mo pX (aq (aS aK (aS aK (pv 9) (pv 6) (fun _ _=>rfl)) (pv 10) (fun _ _=>rfl)) (aq (aS gx (dw (cy hr) (pv 4) (aJ (aS aK (pv 0) (pv 6) (fun _ _=>rfl))) (fun _ _=>rfl)) (pv 10) (fun _ _=>rfl)) aa)))) ag (ba _)) (aj (aI oM)) aY)))))
  (aj (aI oM)))))))),?_⟩
 refine ⟨(by show 0≤sizeLine;decide),?_⟩
 intro lT nT;generalize eX:upd _ lT _=H1;have ⟨s1,eT⟩:=nw nT eX;clear eX
 have en:((ws.length:Nat):Int).toNat=ws.length:=by omega
 refine ⟨_,rfl,bA,_,rfl,.inl (aT.of (s1 _ _ fr.hb)),((ws.length:Nat):Int),rfl,by omega,by omega,bz (lo:=0) (n:=((ws.length:Nat):Int).toNat) (fun i σ H' =>∃(o6:Option V) (vs:List V),σ=[some (.ref pA),some (.ref bA),some (.ref l),some (.ref po),some (.ref d),some (.ref lT),o6,none,none,none,none]∧ar H H' ∧H' lT=some (.lst vs)∧Paired (fun v (b:a8)=>dY K H' v (N+14) (kR T0 T1 b.nm)) vs (bars.take i)) ⟨none,[],rfl,s1,eT,by simpa using Paired.nil⟩ ?_ ?_⟩
 ·rintro i σ H2 hi ⟨o6,vs,rfl,s2,e2,pv⟩
  have ek:(0:Int)+(i:Int)=(i:Int):=aaS _
  rw [ek]
  have hiw:i < ws.length:=by omega
  obtain ⟨b,eb,Jz⟩:=aF fr.pb (gE hiw)
  have mb:=aai eb
  obtain ⟨ta,i1,i2,eta,DR,_,_⟩:=Jz.same s2
  have za:dr ws (i:Int)=some (.ref ta):=a_ (by rw [gE hiw,eta])
  obtain ⟨tv,Nd,Nf⟩:=aF (bB fo.pt) eb
  have T4:dr ts (i:Int)=some tv:=a_ Nd
  have lv:vs.length=i:=by
   rw [Paired.length pv,aaG]
   omega
  refine ⟨_,rfl,.inl ⟨rfl,_,aT.of e2⟩,_,rfl,l,_,_,_,rfl,rfl,aT.of (s2 _ _ hl),rfl,_,rfl,tA,_,_,_,rfl,rfl,aT.of (s2 _ _ fo.ht),T4,L2,?_⟩
  intro p3 n3;generalize eX:upd _ p3 _=H3;have ⟨s3,e3⟩:=nw n3 eX;clear eX
  have wg:=s2.trans s3
  obtain ⟨v,dg,nv⟩:=(pl.same wg).Ub mb
  refine ⟨_,rfl,po,_,_,_,rfl,rfl,bQ.of (wg _ _ hpo),rfl,_,rfl,_,rfl,bA,_,_,_,rfl,rfl,aT.of (wg _ _ fr.hb),za,ta,_,_,_,rfl,rfl,Ty.ar.cO s3 DR,eY,dT,_,rfl,dg,?_⟩
  dsimp only [fL]
  show bJ K gf [_,_] _ _ E0
  refine f_ (two e3) (dS nv (pl.zT b mb)) (by omega) fun p4 H4 s4 n4=> ?_
  show bJ K dW [_,_] _ _ E0
  refine fw ((Nf.same wg).same s4) n4 (by omega) fun p5 H5 s5 n5=> ?_
  have v3:=s3.trans (s4.trans s5)
  have e25:=v3 _ _ e2
  refine ⟨lT,_,_,rfl,rfl,e25,aar (show vs.length≤100 by omega) (by decide),?_⟩
  have st:bf H5 (upd H5 lT (.lst (vs++[.ref p5]))):=.list e25
  refine ⟨_,vs++[.ref p5],rfl,fun b o z=> ?_,ah,?_⟩
  ·rw [ak (ao z nT)]
   exact v3 _ _ (s2 _ _ z)
  ·rw [take_snoc eb]
   exact cw (Paired.bU pv fun _ _ z=>(z.same v3).aL st) ((n5.up (by omega)).aL st)
 rintro σ H2 ⟨o6,vs,rfl,s2,e2,pv⟩
 rw [en,lw,aaQ] at pv
 refine ⟨(by show 0≤sizeLine;decide),?_⟩
 intro lU nU;generalize eX:upd _ lU _=H3;have ⟨s3,eU⟩:=nw nU eX;clear eX
 have Ng:((us.length:Nat):Int).toNat=us.length:=by omega
 refine ⟨_,rfl,pA,_,rfl,.inl (aT.of ((s2.trans s3) _ _ fr.hp)),((us.length:Nat):Int),rfl,by omega,by omega,bz (lo:=0) (n:=((us.length:Nat):Int).toNat) (fun i σ H' =>∃(o6 o8:Option V) (xv:List V),σ=[some (.ref pA),some (.ref bA),some (.ref l),some (.ref po),some (.ref d),some (.ref lT),o6,some (.ref lU),o8,none,none]∧ar H2 H' ∧H' lU=some (.lst xv)∧Paired (fun v (p:aC)=>∃la ys,v=.ref la∧la≠lU∧H' la=some (.lst ys)∧Paired (fun v r=>dY K H' v (N+14) r) ys (fX U0 U1 p.nm)) xv (pins.take i)) ⟨o6,none,[],rfl,s3,eU,by simpa using Paired.nil⟩ ?_ ?_⟩
 ·rintro i σ H4 hi ⟨o6,o8,xv,rfl,s4,e4,Nt⟩
  have ek:(0:Int)+(i:Int)=(i:Int):=aaS _
  rw [ek]
  have rX:=s2.trans s4
  have DS:i < us.length:=by omega
  obtain ⟨p,ep,yI⟩:=aF fr.pp (gE DS)
  have mp:=aai ep
  obtain ⟨ta,lw',sv,eV,eu,h1,_,_,_⟩:=yI.same rX
  have ai:dr us (i:Int)=some (.ref ta):=a_ (by rw [gE DS,eu])
  have lx:xv.length=i:=by
   rw [Paired.length Nt,aaG]
   omega
  obtain ⟨la,DU,dg,Rp,pu1⟩:=(pl.same rX).Uc mp
  obtain ⟨xv0,ex0,la0,Jt,Ud,Ue,pu0⟩:=aF (bB fo.pu) ep
  subst Ud
  have ax0:dr xs (i:Int)=some (.ref la0):=a_ ex0
  have l1:DU.length=(U1 p.nm).length:=Paired.length pu1
  have l0:Jt.length=(U0 p.nm).length:=Paired.length pu0
  have k1:=pl.lU p mp
  have k0:=fo.lU p mp
  have lwp:=(fr.gp.ws p mp).len
  refine ⟨_,rfl,po,_,_,_,rfl,rfl,bQ.of (rX _ _ hpo),rfl,_,rfl,_,rfl,pA,_,_,_,rfl,rfl,aT.of (rX _ _ fr.hp),ai,ta,_,_,_,rfl,rfl,h1,eY,dU,_,rfl,dg,?_⟩
  have eny:((DU.length:Nat):Int).toNat=DU.length:=by omega
  refine ⟨_,rfl,.inl ⟨rfl,_,aT.of e4⟩,_,rfl,la,_,rfl,.inl (aT.of Rp),((DU.length:Nat):Int),rfl,by omega,by omega,fun D5 n5=> ?_⟩
  refine q5 (lo:=0) (n:=((DU.length:Nat):Int).toNat) (cap:=[some (.ref la),some (.int (i:Int)),some (.ref l)]) (fun j v H=>∃r,(fX U0 U1 p.nm)[j]? =some r∧dY K H v (N+14) r) n5 (aar (show ((DU.length:Nat):Int).toNat≤100 by omega) (by decide)) (fun _ _ _ _ _ h0 ks ⟨r,e,h⟩=>⟨r,e,h.aL (bf.ks h0 ks)⟩) ?_ ?_
  ·intro j H6 R hj s6 kk
   have ek:(0:Int)+(j:Int)=(j:Int):=aaS _
   rw [ek]
   have yO:=rX.trans s6
   obtain ⟨r1,Ri,nr1⟩:=aF pu1 (gE (show j < DU.length by omega))
   obtain ⟨r0,er0,nr0⟩:=aF pu0 (gE (show j < Jt.length by omega))
   refine ⟨_,rfl,l,_,_,_,rfl,rfl,aT.of (yO _ _ hl),rfl,_,rfl,uA,_,_,_,rfl,rfl,aT.of (yO _ _ fo.hu),ax0,_,rfl,la0,_,_,_,rfl,rfl,aT.of (yO _ _ Ue),a_ (gE (show j < Jt.length by omega)),L2,?_⟩
   intro p7 n7;generalize eX:upd _ p7 _=H7;have ⟨s7,e7⟩:=nw n7 eX;clear eX
   refine ⟨_,rfl,_,rfl,la,_,_,_,rfl,rfl,aT.of (s7 _ _ (s6 _ _ Rp)),a_ (gE (show j < DU.length by omega)),?_⟩
   dsimp only [fL]
   show bJ K gf [_,_] _ _ E0
   refine f_ (two e7) (dS ((nr1.same s6).same s7) (pl.zU p mp r1 (aai Ri))) (by omega) fun p8 H8 s8 n8=> ?_
   show bJ K dW [_,_] _ _ E0
   refine fw (((nr0.same yO).same s7).same s8) n8 (by omega) fun p9 H9 s9 n9=> ?_
   refine kk _ _ (s7.trans (s8.trans s9)) ⟨r0+2*r1,?_,n9.up (by omega)⟩
   unfold fX
   rw [abu,er0,Ri]
  ·intro zs H6 lz hz s6 hD
   have DK:=s6 _ _ e4
   refine ⟨lU,_,_,rfl,rfl,DK,aar (show xv.length≤100 by omega) (by decide),?_⟩
   have st:bf H6 (upd H6 lU (.lst (xv++[.ref D5]))):=.list DK
   have Rt:D5≠lU:=fun z=>by rw [z,e4] at n5;cases n5
   refine ⟨_,_,xv++[.ref D5],rfl,fun b o z=> ?_,ah,?_⟩
   ·rw [ak (ao z nU)]
    exact s6 _ _ (s4 _ _ z)
   ·rw [take_snoc ep]
    refine cw (Paired.bU Nt fun v p ⟨T9,ys,a,b,c,d⟩=>⟨T9,ys,a,b,by rw [ak b];exact s6 _ _ c,Paired.bU d fun _ _ z=>(z.same s6).aL st⟩) ⟨D5,zs,rfl,Rt,by rw [ak Rt];exact hD,eW ?_ fun j v e=> ?_⟩
    ·unfold fX
     rw [akb]
     omega
    ·obtain ⟨r,er,nr⟩:=hz j v e
     exact ⟨r,er,nr.aL st⟩
 rintro σ H4 ⟨o6,o8,xv,rfl,s4,e4,Nt⟩
 rw [Ng,lu,aaQ] at Nt
 have rX:=s2.trans s4
 have fo' :BF K H4 lT lU vs xv pins bars (kR T0 T1) (fX U0 U1) (N+14):=⟨s4 _ _ e2,Paired.bU pv fun _ _ z=>z.same s4,e4,Paired.bU Nt fun _ _ ⟨la,ys,a,_,c,d⟩=>⟨la,ys,a,c,d⟩,fun p hp=>by
  unfold fX
  rw [akb,fo.lU p hp,pl.lU p hp]
  omega,by omega⟩
 refine ⟨_,rfl,_,rfl,_,rfl,_,rfl,pA,bA,lT,lU,us,ws,vs,xv,pins,bars,_,_,N+14,rfl,fr.same rX,fo',fun fA ls F H5 s5 ll hF eF=> ?_⟩
 have Mn:=rX.trans s5
 refine ⟨_,rfl,pA,_,rfl,.inl (aT.of (Mn _ _ fr.hp)),((us.length:Nat):Int),rfl,by omega,by omega,bz (lo:=0) (n:=((us.length:Nat):Int).toNat) (fun t σ H' =>∃(o6 DV:Option V),σ=[some (.ref pA),some (.ref bA),some (.ref l),some (.ref po),some (.ref d),some (.ref lT),o6,some (.ref lU),o8,some (.ref fA),DV]∧ar H5 H') ⟨o6,none,rfl,ar.refl _⟩ ?_ ?_⟩
 ·rintro t σ H6 ht ⟨o6,DV,rfl,s6⟩
  have ek:(0:Int)+(t:Int)=(t:Int):=aaS _
  rw [ek]
  have yO:=Mn.trans s6
  have htu:t < us.length:=by omega
  obtain ⟨p,ep,yI⟩:=aF fr.pp (gE htu)
  have mp:=aai ep
  obtain ⟨c,lw',sv,gH,ec,h1,_,_,_⟩:=yI
  have atu:dr us (t:Int)=some (.ref c):=a_ (by rw [gE htu,ec])
  refine ⟨(2:Int),rfl,by decide,by decide,bz (lo:=0) (n:=2) (fun k σ H' =>∃(DV:Option V),σ=[some (.ref pA),some (.ref bA),some (.ref l),some (.ref po),some (.ref d),some (.ref lT),some (.int (t:Int)),some (.ref lU),o8,some (.ref fA),DV]∧ar H6 H') ⟨DV,rfl,ar.refl _⟩ ?_ ?_⟩
  ·rintro k σ zI hk ⟨DV,rfl,sO⟩
   have ek:(0:Int)+(k:Int)=(k:Int):=aaS _
   rw [ek]
   have II:(k:Int)=0∨(k:Int)=1:=by omega
   have IK:=yO.trans sO
   have F10:=hF.same (s6.trans sO)
   obtain ⟨lr,Np⟩:∃lr,ls[t]? =some lr:=⟨_,gE (by omega)⟩
   obtain ⟨w1,w2,Rr,nw1,nw2⟩:=F10.row t lr Np
   obtain ⟨f1,f2⟩:=eF t p ep
   obtain ⟨v,ev,dg,hv⟩:=(ld.same IK).get fr.gp.np ep
   obtain ⟨da,u1,u2,rfl,T7,DH,hd2⟩:=hv
   have zd:=ld.sz p mp
   have ll1:(U0 p.nm).length=(U1 p.nm).length:=by rw [fo.lU p mp,pl.lU p mp]
   have g1:=jw (bars:=bars) (T0:=T0) (T1:=T1) ll1 (·.1)
   have g2:=jw (bars:=bars) (T0:=T0) (T1:=T1) ll1 (·.2)
   obtain ⟨z1,z2⟩:=no p mp
   rw [z1] at g1
   rw [z2] at g2
   have el:=eL p mp
   have el1:(L p.nm).1= -(bP bars T0 U0 p (·.1)):=by rw [el];rfl
   have el2:(L p.nm).2= -(bP bars T0 U0 p (·.2)):=by rw [el];rfl
   obtain ⟨x,y,X,Y,a1,a2,nx,ny,zy,e0⟩:∃(x y:V) (X Y:Rat),dr [w1,w2] (k:Int)=some x∧dr [u1,u2] (k:Int)=some y∧dY K zI x (1+52*(N+14+51)) X∧dq K zI y Y∧Sz 600 Y∧X+Y=0:=by
    rcases II with e | e
    ·exact ⟨w1,u1,_,_,by rw [e];rfl,by rw [e];rfl,nw1,DH,zd.1,by rw [f1,g1,el1];grind⟩
    ·exact ⟨w2,u2,_,_,by rw [e];rfl,by rw [e];rfl,nw2,hd2,zd.2,by rw [f2,g2,el2];grind⟩
   have JC:dr (ls.map V.ref) (t:Int)=some (.ref lr):=a_ (by rw [Wp,Np];rfl)
   refine ⟨_,rfl,_,rfl,fA,_,_,_,rfl,rfl,aT.of F10.hf,JC,_,rfl,lr,_,_,_,rfl,rfl,aT.of Rr,a1,_,rfl,_,rfl,_,rfl,pA,_,_,_,rfl,rfl,aT.of (IK _ _ fr.hp),atu,c,_,_,_,rfl,rfl,Ty.ar.cO IK h1,eY,d,_,rfl,dg,_,rfl,da,_,_,_,rfl,rfl,T7,a2,?_⟩
   dsimp only [fL]
   show bJ K dW [_,_] _ _ E0
   refine fw nx (dS ny (mI zy (aao _))) (by omega) fun Td H12 v_ Jv=> ?_
   rw [e0] at Jv
   obtain ⟨z,⟨anf,e12,k1⟩,k2,k3,_⟩:=Jv
   cases e12
   have z0:z.1=0:=(AW k2).mpr k3
   rw [z0] at k1
   refine ⟨Td,_,_,_,rfl,rfl,k1,g9,rfl,_,rfl,?_⟩
   refine bI (fun c=>by simp at c) (fun _=> ?_)
   exact ⟨_,rfl,sO.trans v_⟩
  ·rintro σ zI ⟨DV,rfl,sO⟩
   exact ⟨_,_,rfl,s6.trans sO⟩
 ·rintro σ H6 ⟨o6,DV,rfl,s6⟩
  exact q H6 (Mn.trans s6)
def ToldF (K:Frag)(H:Hp)(pins:List aC)(bars:List a8)(x:Str)(p:Addr)(N:Nat):Prop:=∃(dT dU:Addr) (kT kU:List (Key×V)) (T:Str→Rat) (U:Str→List Rat),H p=some (.tup [.str "less",.ref dT,.ref dU])∧BH K H pins bars dT dU kT kU T U N∧oi pins bars T U∧T x=1
structure Nu (K:Frag)(H:Hp)(pA bA l tA uA d dP:Addr)(us ws ts xs:List V)(kvs kP:List (Key×V))(pins:List aC)(bars:List a8)(T0:Str→Rat)(U0:Str→List Rat)(T:Str→Rat)(L:Str→Rat×Rat):Prop where
 fr:BE K H pA bA us ws pins bars
 hl:H l=some (.lst [.ref tA,.ref uA])
 fo:BF K H tA uA ts xs pins bars T0 U0 11
 ld:BG K H d kvs pins L
 eL:∀p∈pins,L p.nm=kQ bars T0 U0 p
 g:cU pins bars
 hP:H dP=some (.dK kP)
 tP:∀b∈bars,∃v,bV kP (.inr b.nm)=some v∧dq K H v (T b.nm)
 zP:∀b∈bars,Zb (zL pins.length) (T b.nm)
 r1:∃U,eo pins bars T U fun x=>some (L x)
theorem Nu.same {H H' :Hp}{pA bA l tA uA d dP:Addr}{us ws ts xs:List V}{kvs kP:List (Key×V)}{pins:List aC}{bars:List a8}{T0:Str→Rat}{U0:Str→List Rat}{T:Str→Rat}{L:Str→Rat×Rat}(h:Nu K H pA bA l tA uA d dP us ws ts xs kvs kP pins bars T0 U0 T L)(s:ar H H'):Nu K H' pA bA l tA uA d dP us ws ts xs kvs kP pins bars T0 U0 T L:=⟨h.fr.same s,s _ _ h.hl,h.fo.same s,h.ld.same s,h.eL,h.g,s _ _ h.hP,fun b hb=>by
 obtain ⟨v,a,c⟩:=h.tP b hb
 exact ⟨v,a,c.same s⟩,h.zP,h.r1⟩
theorem mL {pins:List aC}{bars:List a8}{T0:Str→Rat}{U0:Str→List Rat}{L:Str→Rat×Rat}(eL:∀p∈pins,L p.nm=kQ bars T0 U0 p):eo pins bars T0 U0 fun x=>some (L x):=fun p hp=>by
 show bP bars T0 U0 p (·.1)+(L p.nm).1=0∧bP bars T0 U0 p (·.2)+(L p.nm).2=0
 rw [eL p hp]
 unfold kQ
 constructor <;> grind
theorem zL5 {n:Nat}(h:n≤5):zL n≤20000000:=by
 have:n=0∨n=1∨n=2∨n=3∨n=4∨n=5:=by omega
 rcases this with rfl | rfl | rfl | rfl | rfl | rfl <;> decide
inductive kX (K:Frag)(vs:List V)(H:Hp)(Q:VK)(E_:XK):Prop where
 | mk (pA bA l tA uA d dP p:Addr) (us ws ts xs:List V) (kvs kP:List (Key×V)) (pins:List aC) (bars:List a8) (T0:Str→Rat) (U0:Str→List Rat) (T:Str→Rat) (L:Str→Rat×Rat) (k:Nat) (b:a8) (N:Nat) (_:vs=[.ref pA,.ref bA,.int (k:Int),.ref l,.ref d,.ref p,.ref dP]) (_:Nu K H pA bA l tA uA d dP us ws ts xs kvs kP pins bars T0 U0 T L) (_:bars[k]? =some b) (_:N≤1500000) (_:((∃(dM:Addr) (kM:List (Key×V)) (M:Str→Rat×Rat),H p=some (.tup [.str "looser",.ref dM])∧dM≠d∧M_ K H pins dM kM M N∧oh pins bars b.nm M)∨ToldF K H pins bars b.nm p N)) (_:∀H',ar H H' →Q (.bl true) H'):kX K vs H Q E_
theorem Ug {x:V}{xs:List V}:dE (x::xs) (some 1) none=xs:=by
 unfold dE
 have h:HT.cW (x::xs).length 0 (some 1)=1:=by
  simp only [HT.cW,aaP]
  split <;> omega
 have h2:HT.cW (x::xs).length (x::xs).length none=(x::xs).length:=rfl
 rw [h,h2,List.drop_succ_cons,List.drop_zero,aaP,Nat.add_sub_cancel,aaQ]
theorem DW:aA ["_law_pins_here","_law_bars_here","_law_k","_law_drawn_here","_law_load_here","_law_told","_law_pulls","_law_work_here"] ["_law_pins_here","_law_bars_here","_law_k","_law_drawn_here","_law_load_here","_law_told","_law_pulls"] (af vD):=sq
theorem Nv (D:Def K mg "_law_right" vD ["_law_pins_here","_law_bars_here","_law_k","_law_drawn_here","_law_load_here","_law_told","_law_pulls"])(Uh:Fn P w K mg base (aX P w) 3 "_law_work" ["_law_load_here","_law_motion"] (r9 K))(Nw:Fn P w K mg base (aX P w) 1 "_law_alike" ["_law_one","_law_other"] (oz K))(Ui:Fn P w K mg base (aX P w) 4 "_law_twice_more" ["_law_pins_here","_law_bars_here","_law_drawn_here","_law_own","_law_load_here"] (oE K)):
  Fn P w K mg base (aX P w) 5 "_law_right" ["_law_pins_here","_law_bars_here","_law_k","_law_drawn_here","_law_load_here","_law_told","_law_pulls"] (kX K):=by
 refine D.ok DW (fun vs H Q E h=> ?_) (fun f bx A outer s H vs Q E hr h=> ?_)
 ·obtain ⟨pA,bA,l,tA,uA,d,dP,p,us,ws,ts,xs,kvs,kP,pins,bars,T0,U0,T,L,k,b,N,rfl,_⟩:=h
  rfl
 obtain ⟨pA,bA,l,tA,uA,d,dP,p,us,ws,ts,xs,kvs,kP,pins,bars,T0,U0,T,L,k,b,N,rfl,R,eb,hN,told,q⟩:=h
 have lp:=R.fr.lp
 have mb:=aai eb
 refine ⟨_,(ae (bG (aU cD (aJ (pv 5)) cI (ba _)) (ae (aw (i:=7) DW.nd rfl (aan rfl) (ay Uh hr.mo pX (aq (pv 4) (aq (aJ (pv 5)) aa))))
   (aj (aI (wB (ay Nw hr.mo pX (aq (pv 7) (aq (aS aK (gk (pv 3)) (pv 2) (fun _ _=>rfl)) aa))) (wA (ay Nw hr.mo pX (aq (pv 7) (aq (dw (cy hr) (pv 6) (aJ (aS aK (pv 1) (pv 2) (fun _ _=>rfl))) (fun _ _=>rfl)) aa)))))))) aY)
  (aj (aI (wB (mT cD (aJ (pv 5)) cI (ba _)) (wA (ay Ui hr.mo pX (aq (pv 0) (aq (pv 1) (aq (pv 3) (aq (cQ FA (pv 5) (dc ag) d3) (aq (pv 4) aa))))))))))),?_⟩
 rcases told with ⟨dM,kM,M,hp,Rt,mo,tk⟩ | ⟨dT,dU,kT,kU,T1,U1,hp,pl,no,tx⟩
 ·refine ⟨_,rfl,p,_,_,_,rfl,rfl,bQ.of hp,rfl,rfl,_,rfl,?_⟩
  refine bI (fun _=> ?_) (fun c=>absurd (by simp [jg]) c)
  refine ⟨_,rfl,_,rfl,p,_,_,_,rfl,rfl,bQ.of hp,rfl,d,dM,kvs,kM,pins,L,M,N,rfl,R.ld,mo,Rt,lp,by omega,fun v H1 s1 n1=> ?_⟩
  have hx:b.nm∈bars.map (·.nm):=aal.mpr ⟨b,mb,rfl⟩
  obtain ⟨U,r1⟩:=R.r1
  have e0:iG pins L M=T0 b.nm:=mH R.g (mL R.eL) tk hx
  have e1:iG pins L M=T b.nm:=mH R.g r1 tk hx
  obtain ⟨tv,Nd,Nf⟩:=aF (bB R.fo.pt) eb
  obtain ⟨wv,Uj,Uk⟩:=aF (bB R.fr.pb) eb
  obtain ⟨ta,i1,i2,rfl,DR,_,_⟩:=Uk.same s1
  have za:dr ws (k:Int)=some (.ref ta):=a_ Uj
  obtain ⟨pv,evp,npv⟩:=R.tP b mb
  have dg:cJ H1 dP (.str b.nm) (some pv):=by
   have:=cJ.k (k:=.inr b.nm) (s1 _ _ R.hP)
   rw [evp] at this
   exact this
  have z5:=zL5 lp
  refine ⟨_,rfl,_,rfl,l,_,_,_,rfl,rfl,aT.of (s1 _ _ R.hl),rfl,_,rfl,tA,_,_,_,rfl,rfl,aT.of (s1 _ _ R.fo.ht),a_ Nd,?_⟩
  refine ⟨v,tv,_,_,T0 b.nm,rfl,e0▸n1,Nf.same s1,by omega,?_⟩
  refine ⟨_,rfl,?_⟩
  refine bI (fun _=> ?_) (fun c=>absurd rfl c)
  refine ⟨_,rfl,_,rfl,_,rfl,_,rfl,bA,_,_,_,rfl,rfl,aT.of (s1 _ _ R.fr.hb),za,ta,_,_,_,rfl,rfl,DR,eY,dP,_,rfl,dg,?_⟩
  exact ⟨v,pv,_,_,T b.nm,rfl,e1▸n1,dS (npv.same s1) (R.zP b mb),by omega,q H1 s1⟩
 ·refine ⟨_,rfl,p,_,_,_,rfl,rfl,bQ.of hp,rfl,rfl,_,rfl,?_⟩
  refine bI (fun c=>absurd c (by simp [jg];decide+kernel)) (fun _=> ?_)
  refine ⟨_,rfl,p,_,_,_,rfl,rfl,bQ.of hp,rfl,rfl,?_⟩
  refine ⟨_,rfl,?_⟩
  refine bI (fun _=> ?_) (fun c=>absurd (by simp [jg]) c)
  refine ⟨_,rfl,_,rfl,_,rfl,_,rfl,1,rfl,p,_,rfl,bQ.of hp,(fun z=>absurd z.1 (by show ¬ HT.cW 3 0 (some 1)=0;decide)),?_⟩
  rw [Ug]
  intro po n1;generalize eX:upd _ po _=H1;have ⟨s1,e1⟩:=nw n1 eX;clear eX
  have R1:=R.same s1
  exact ⟨_,rfl,pA,bA,l,tA,uA,po,dT,dU,d,us,ws,ts,xs,pins,bars,T0,T1,U0,U1,kT,kU,kvs,L,N,rfl,R1.fr,R1.hl,R1.fo,e1,pl.same s1,no,R1.ld,R.eL,hN,fun H2 s2=>q H2 (s1.trans s2)⟩
theorem zR5 {n:Nat}(h:n≤5):zR n≤1500000:=by
 have:n=0∨n=1∨n=2∨n=3∨n=4∨n=5:=by omega
 rcases this with rfl | rfl | rfl | rfl | rfl | rfl <;> decide
theorem BI:∀j:Fin 3,∃m:Int,dr [V.int 1009,.int 2003,.int 3001] (j.val:Int)=some (.int m)∧0 < m∧m≤3001:=by
 intro j
 match j with
 | ⟨0,_⟩=>exact ⟨1009,rfl,by decide,by decide⟩
 | ⟨1,_⟩=>exact ⟨2003,rfl,by decide,by decide⟩
 | ⟨2,_⟩=>exact ⟨3001,rfl,by decide,by decide⟩
theorem fC:aA ["_law_script","_law_pins_here","_law_bars_here","_law_frame_here","_law_drawn_here","_law_load_here","_law_pulls","_law_j","_law_k"] ["_law_script"] (af g8):=sq
theorem IL {f:Addr}{fd:FuncData}{C:Addr}(F:kZ K "law" "law" g8 f fd)(a9:mg "range"=none)(aZ:mg "len"=none)
  (jC:Fn P w K mg base (aX P w) 1 "_law_cell_at" ["_law_script","_law_k"] (i_ K)) (cB:Fn P w K mg base (aX P w) 1 "_law_field" ["_law_cell","_law_prime","_law_many"] dz)
  (Ul:Fn P w K mg base (aX P w) 35 "_law_pins" ["_law_script"] (ou K)) (Um:Fn P w K mg base (aX P w) 3 "_law_bars" ["_law_script","_law_pins_here"] (ow K)) (Uo:Fn P w K mg base (aX P w) 4 "_law_frame" ["_law_pins_here","_law_bars_here"] (kN K C))
  (Up:Fn P w K mg base (aX P w) 2 "_law_drawn" ["_law_script","_law_pins_here","_law_bars_here"] (oB K)) (Uq:Fn P w K mg base (aX P w) 34 "_law_load" ["_law_pins_here","_law_bars_here","_law_drawn_here"] (oC K)) (Ur:Fn P w K mg base (aX P w) 39 "rest_of" ["F","load"] (rV K C)) (Us:Fn P w K mg base (aX P w) 39 "would_take" ["F","name"] (rT K C))
  (Ut:Fn P w K mg base (aX P w) 5 "_law_right" ["_law_pins_here","_law_bars_here","_law_k","_law_drawn_here","_law_load_here","_law_told","_law_pulls"] (kX K)):
  cj P w K mg base (aX P w) 42 f fd ["_law_script"] (xj K):=by
 refine F.okG fC (fun vs H Q E h=> ?_) (fun bx A outer s H vs Q E hr h=> ?_)
 ·obtain ⟨a,ns,rfl,_⟩:=h
  rfl
 obtain ⟨sA,ns,rfl,hS,hn,hb,q⟩:=h
 refine ⟨_,(ae (aw (i:=1) fC.nd rfl (aan rfl) (ay Ul hr.mo pX (aq (pv 0) aa)))
  (ae (aw (i:=2) fC.nd rfl (aan rfl) (ay Um hr.mo pX (aq (pv 0) (aq (pv 1) aa))))
  (ae (bG (aU cD (aQ aE rfl aZ bT (aq (pv 2) aa)) ag (ba _)) (aj (aI oM)) aY)
  (ae (aw (i:=3) fC.nd rfl (aan rfl) (ay Uo hr.mo pX (aq (pv 1) (aq (pv 2) aa))))
  (ae (aw (i:=4) fC.nd rfl (aan rfl) (ay Up hr.mo pX (aq (pv 0) (aq (pv 1) (aq (pv 2) aa)))))
  (ae (aw (i:=5) fC.nd rfl (aan rfl) (ay Uq hr.mo pX (aq (pv 1) (aq (pv 2) (aq (pv 4) aa)))))
  (ae (aw (i:=6) fC.nd rfl (aan rfl) (aJ (ay Ur hr.mo pX (aq (pv 3) (aq (pv 5) aa)))))
  (ae (bo PassesOwn.never rfl (bu rfl a9 (aq ag aa)) (aG (i:=7) fC.nd rfl (aan rfl)) (ae (aw (i:=8) fC.nd rfl (aan rfl) (ay cB hr.mo pX (aq (ay jC hr.mo pX (aq (pv 0) (aq ag aa))) (aq (aS aK (bD (aq ag (aq ag (aq ag aa)))) (pv 7) (fun _ _=>rfl)) (aq (aQ aE rfl aZ bT (aq (pv 2) aa)) aa)))))
   (aj (bG (EN (wu (ay Ut hr.mo pX (aq (pv 1) (aq (pv 2) (aq (pv 8) (aq (pv 4) (aq (pv 5) (aq (ay Us hr.mo pX (aq (pv 3) (aq (aJ (aS aK (pv 2) (pv 8) (fun _ _=>rfl))) aa))) (aq (pv 6) aa)))))))))) (aj (aI oM)) aY))))
  (aj (aI oM)))))))))),?_⟩
 refine ⟨_,rfl,sA,ns,rfl,hS,fun lP us pins H1 s1 nP eP pp gp lp pn=> ?_⟩
 have lu:us.length=pins.length:=Paired.length pp
 refine ⟨_,rfl,_,rfl,sA,lP,ns,us,pins,rfl,s1.seq hS,eP,lu,gp.np,by omega,fun lB vs bars H2 s2 nB eB pb gb lb=> ?_⟩
 have lv:vs.length=bars.length:=Paired.length pb
 refine ⟨_,rfl,lB,_,rfl,.inl (aT.of eB),rfl,_,rfl,?_⟩
 refine bI (fun _=>q _) (fun c=> ?_)
 have hb0:0 < bars.length:=by
  rcases Nat.eq_zero_or_pos bars.length with z | z
  ·exact absurd (decide_eq_true (by rw [lv,z];rfl)) c
  ·exact z
 have pp2:Paired (ja K H2) us pins:=Paired.bU pp fun _ _ z=>z.same s2
 have eP2:=s2 _ _ eP
 refine ⟨_,rfl,_,rfl,lP,lB,us,vs,pins,bars,rfl,eP2,pp2,eB,pb,gp,gb,by omega,by omega,fun fA H3 s3 R=> ?_⟩
 have g:=MV gp gb (by omega) (by omega)
 have JV:BE K H3 lP lB us vs pins bars:=⟨s3 _ _ eP2,Paired.bU pp2 fun _ _ z=>z.same s3,gp,s3 _ _ eB,Paired.bU pb fun _ _ z=>z.same s3,fun b hb=>(gb.ends b hb).2.2,lp,by omega⟩
 have wg:=s1.trans (s2.trans s3)
 refine ⟨_,rfl,_,rfl,_,rfl,sA,lP,lB,ns,us,vs,pins,bars,rfl,wg.seq hS,JV,gb.nb,fun l tA uA ts xs T0 U0 H4 s4 hl fo zT zU=> ?_⟩
 have JA:=JV.same s4
 refine ⟨_,rfl,_,rfl,_,rfl,lP,lB,l,tA,uA,us,vs,ts,xs,pins,bars,T0,U0,11,rfl,JA,hl,fo,g,zT,zU,fun d kvs L H5 s5 ld eL=> ?_⟩
 have R5:=(R.same s4).same s5
 have nk:(kvs.map (·.1)).Nodup:=by
  rw [ld.ky]
  have:(pins.map fun p=>(aaT p.nm:Key))=(pins.map (·.nm)).map aaT:=by rw [aaI];rfl
  rw [this]
  exact akr _ (fun a b n z=>n (by injection z)) gp.np
 have pt:z4 K H5 kvs fun x=>if x∈pins.map (·.nm) then some (L x) else none:=fun x=>by
  by_cases c:x∈pins.map (·.nm)
  ·obtain ⟨p,mp,rfl⟩:=aal.mp c
   obtain ⟨i,ei⟩:=aas mp
   obtain ⟨v,a,b⟩:=ld.tv i p ei
   exact .inr ⟨v,L p.nm,hV nk a,if_pos c,b⟩
  ·refine .inl ⟨bY (fun z=>c ?_),if_neg c⟩
   rw [ld.ky] at z
   obtain ⟨p,mp,e⟩:=aal.mp z
   exact aal.mpr ⟨p,mp,by injection e⟩
 have Uu:∀p∈pins,mv (fun x=>if x∈pins.map (·.nm) then some (L x) else none) p.nm=L p.nm:=fun p hp=>by
  show (if p.nm∈pins.map (·.nm) then some (L p.nm) else none).getD (0,0)=L p.nm
  rw [if_pos (aal.mpr ⟨p,hp,rfl⟩)]
  rfl
 have zl:mvL fun x=>if x∈pins.map (·.nm) then some (L x) else none:=fun x=>by
  by_cases c:x∈pins.map (·.nm)
  ·obtain ⟨p,mp,rfl⟩:=aal.mp c
   rw [Uu p mp]
   exact ld.sz p mp
  ·show Sz 600 ((if x∈pins.map (·.nm) then some (L x) else none).getD (0,0)).1∧Sz 600 ((if x∈pins.map (·.nm) then some (L x) else none).getD (0,0)).2
   rw [if_neg c]
   exact ⟨df (by decide),df (by decide)⟩
 have toL:∀{T:Str→Rat} {U:Str→List Rat},eo pins bars T U (fun x=>if x∈pins.map (·.nm) then some (L x) else none)→eo pins bars T U fun x=>some (L x):=fun {T U} h p hp=>by
  have:=h p hp
  rw [Uu p hp] at this
  exact this
 have ofL:eo pins bars T0 U0 fun x=>if x∈pins.map (·.nm) then some (L x) else none:=fun p hp=>by
  have:=mL eL p hp
  rw [Uu p hp]
  exact this
 refine ⟨_,rfl,_,rfl,fA,d,pins,bars,kvs,_,rfl,R5,g,lp,ld.hd,pt,zl,fun kv hkv=> ?_,fun M p dM kM H6 _ _ _ mo wk _=>(yz g ofL mo wk).elim,fun T U Lx p dT dU kT kU H6 s6 ep PR rest zT' zU' => ?_⟩
 ·have:kv.1∈kvs.map (·.1):=aal.mpr ⟨kv,hkv,rfl⟩
  rw [ld.ky] at this
  obtain ⟨p',mp,e⟩:=aal.mp this
  exact ⟨p'.nm,aal.mpr ⟨p',mp,rfl⟩,e.symm⟩
 refine ⟨p,_,_,_,rfl,rfl,bQ.of ep,rfl,?_⟩
 have qI:=s5.trans s6
 have RR:Nu K H6 lP lB l tA uA d dT us vs ts xs kvs kT pins bars T0 U0 T L:=⟨JA.same qI,qI _ _ hl,fo.same qI,ld.same s6,eL,g,PR.hT,PR.tT,zT',U,toL rest⟩
 have R6:=R5.same s6
 have yO:=wg.trans (s4.trans qI)
 have z5:=zR5 lp
 refine ⟨(3:Int),rfl,by decide,by decide,bz (lo:=0) (n:=3) (fun j σ H' =>∃(o7 o8:Option V),σ=[some (.ref sA),some (.ref lP),some (.ref lB),some (.ref fA),some (.ref l),some (.ref d),some (.ref dT),o7,o8]∧ar H6 H') ⟨none,none,rfl,ar.refl _⟩ ?_ ?_⟩
 ·rintro j σ H7 hj ⟨o7,o8,rfl,s7⟩
  have ek:(0:Int)+(j:Int)=(j:Int):=aaS _
  rw [ek]
  obtain ⟨m,am,m0,m1⟩:=BI ⟨j,by omega⟩
  have am' :dr [V.int 1009,.int 2003,.int 3001] (j:Int)=some (.int m):=am
  refine ⟨_,rfl,sA,ns,2,rfl,(yO.trans s7).seq hS,by decide,by decide,(by show 3≤sizeLine;decide),?_⟩
  intro l8 n8;generalize eX:upd _ l8 _=H8;have ⟨s8,e8⟩:=nw n8 eX;clear eX
  have Ru:=s7.trans s8
  have R8:=RR.same Ru
  have f1:=aV (c:=cell ns 2) (p:=m) (m:=(vs.length:Int)) (by omega)
  obtain ⟨k1,ek1⟩:∃n:Nat,field (cell ns 2) m (vs.length:Int)=(n:Int):=⟨(field (cell ns 2) m (vs.length:Int)).toNat,by omega⟩
  rw [ek1] at f1
  obtain ⟨b,eb⟩:∃b,bars[k1]? =some b:=⟨_,gE (by omega)⟩
  have mb:=aai eb
  refine ⟨_,rfl,l8,_,_,_,rfl,rfl,aT.of e8,am',_,rfl,lB,_,rfl,.inl (aT.of R8.fr.hb),_,_,_,rfl,by omega,by omega,by omega,?_⟩
  rw [ek1]
  obtain ⟨wv,Uj,Uk⟩:=aF (bB R8.fr.pb) eb
  obtain ⟨ta,i1,i2,rfl,DR,_,_⟩:=Uk
  have za:dr vs (k1:Int)=some (.ref ta):=a_ Uj
  refine ⟨_,rfl,_,rfl,_,rfl,_,rfl,_,rfl,_,rfl,_,rfl,_,rfl,lB,_,_,_,rfl,rfl,aT.of R8.fr.hb,za,ta,_,_,_,rfl,rfl,DR,eY,fA,pins,bars,b.nm,rfl,R6.same Ru,g,aal.mpr ⟨b,mb,rfl⟩,?_,?_⟩
  ·intro M p9 dM kM H9 s9 e9 mo tk zb
   have R9:=R8.same s9
   refine ⟨_,rfl,lP,lB,l,tA,uA,d,dT,p9,us,vs,ts,xs,kvs,kT,pins,bars,T0,U0,T,L,k1,b,zR pins.length,rfl,R9,eb,z5,.inl ⟨dM,kM,M,e9,(fun z=>by
    have:=mo.nM
    rw [z,R8.ld.hd] at this
    cases this),⟨mo.hM,mo.keys,mo.tM,zb,by omega⟩,tk⟩,fun zI sO=>⟨_,rfl,?_⟩⟩
   refine bI (fun c=>nomatch c) (fun _=> ?_)
   exact ⟨_,_,rfl,Ru.trans (s9.trans sO)⟩
  ·intro T1 U1 Lx1 p9 dT1 dU1 kT1 kU1 H9 s9 e9 pr no tx z1 z2
   have R9:=R8.same s9
   refine ⟨_,rfl,lP,lB,l,tA,uA,d,dT,p9,us,vs,ts,xs,kvs,kT,pins,bars,T0,U0,T,L,k1,b,zR pins.length,rfl,R9,eb,z5,.inr ⟨dT1,dU1,kT1,kU1,T1,U1,e9,⟨pr.hT,pr.hU,pr.yi,pr.yj,pr.tT,fun q hq=>by
    obtain ⟨vs,a,_,c,d⟩:=pr.tU q hq
    exact ⟨_,vs,a,c,d⟩,pr.lU,z1,z2,by omega⟩,no,tx⟩,fun zI sO=>⟨_,rfl,?_⟩⟩
   refine bI (fun c=>nomatch c) (fun _=> ?_)
   exact ⟨_,_,rfl,Ru.trans (s9.trans sO)⟩
 ·rintro σ H7 ⟨o7,o8,rfl,s7⟩
  exact q _
end
theorem all_mk {l:PySem.W.OpenLaw}{w:World}{K:Frag}{h:Heap}{mg:Str→Option Value}{fa:Addr}(X:K.In h)(G:h.Ns mainGlobals mg)(hfa:mg "law"=some (.ref fa))
  (Uv:nsIn K mainGlobals "difference_of"=some (some (.ref Ny))) (Uw:K.lookup Ny=some ⟨ace,acf,.func (fnOf "difference_of" "difference_of" (av rE) (au rE) (af rE) .none acg ach aci acj Nz ack),acm⟩) (Ux:codeIn K Nz "difference_of"=true) (Uy:keepIn K (.ref Ny)=true) (Uz:nsIn K mainGlobals "lowest_terms"=some (some (.ref NA))) (UA:K.lookup NA=some ⟨acn,aco,.func (fnOf "lowest_terms" "lowest_terms" (av qf) (au qf) (af qf) .none acp acq acr acs NC acu),acv⟩) (UB:codeIn K NC "lowest_terms"=true) (UC:keepIn K (.ref NA)=true) (UD:nsIn K mainGlobals "greatest_shared"=some (some (.ref NF))) (UE:K.lookup NF=some ⟨acw,acx,.func (fnOf "greatest_shared" "greatest_shared" (av uT) (au uT) (af uT) .none acy acz acA acB NG acC),acD⟩) (UG:codeIn K NG "greatest_shared"=true) (UH:keepIn K (.ref NF)=true) (UI:nsIn K mainGlobals "arm_between"=some (some (.ref NH))) (UJ:K.lookup NH=some ⟨acE,acF,.func (fnOf "arm_between" "arm_between" (av uU) (au uU) (af uU) .none acG acH acI acJ NI acK),acL⟩) (UK:codeIn K NI "arm_between"=true) (UL:keepIn K (.ref NH)=true) (UM:nsIn K mainGlobals "pair_difference"=some (some (.ref NJ))) (UN:K.lookup NJ=some ⟨acM,acN,.func (fnOf "pair_difference" "pair_difference" (av rF) (au rF) (af rF) .none acO acP acQ acR NK acS),acT⟩) (UO:codeIn K NK "pair_difference"=true) (UP:keepIn K (.ref NJ)=true) (UQ:nsIn K mainGlobals "pair_row"=some (some (.ref NL))) (UR:K.lookup NL=some ⟨acU,acV,.func (fnOf "pair_row" "pair_row" (av uV) (au uV) (af uV) .none acW acX acY acZ NM ac0),ac1⟩) (US:codeIn K NM "pair_row"=true) (UT:keepIn K (.ref NL)=true) (UU:nsIn K mainGlobals "load_row"=some (some (.ref NO))) (UW:K.lookup NO=some ⟨ac2,ac3,.func (fnOf "load_row" "load_row" (av uW) (au uW) (af uW) .none ac4 ac5 ac6 ac7 NP ac8),ac9⟩) (UX:codeIn K NP "load_row"=true) (UY:keepIn K (.ref NO)=true) (UZ:nsIn K mainGlobals "bar_row"=some (some (.ref NQ))) (U2:K.lookup NQ=some ⟨ac',ada,.func (fnOf "bar_row" "bar_row" (av uX) (au uX) (af uX) .none adb ade adf adg NR adh),adi⟩) (U3:codeIn K NR "bar_row"=true) (U4:keepIn K (.ref NQ)=true) (U5:nsIn K mainGlobals "draw_rows"=some (some (.ref NS))) (U6:K.lookup NS=some ⟨adj,adk,.func (fnOf "draw_rows" "draw_rows" (av uY) (au uY) (af uY) .none adl adm adn ado NT adp),adq⟩) (U7:codeIn K NT "draw_rows"=true) (U8:keepIn K (.ref NS)=true) (U9:nsIn K mainGlobals "pulls_and_pushes"=some (some (.ref NU))) (U_:K.lookup NU=some ⟨ads,adt,.func (fnOf "pulls_and_pushes" "pulls_and_pushes" (av uZ) (au uZ) (af uZ) .none adu adv adw adx NV ady),adz⟩) (Va:codeIn K NV "pulls_and_pushes"=true) (Vb:keepIn K (.ref NU)=true) (Vc:nsIn K mainGlobals "motion_from"=some (some (.ref NW))) (Vd:K.lookup NW=some ⟨adA,adB,.func (fnOf "motion_from" "motion_from" (av u0) (au u0) (af u0) .none adC adD adE adF NX adG),adH⟩) (Ve:codeIn K NX "motion_from"=true) (Vf:keepIn K (.ref NW)=true) (Vg:nsIn K mainGlobals "signs_turned"=some (some (.ref NY))) (Vh:K.lookup NY=some ⟨adI,adJ,.func (fnOf "signs_turned" "signs_turned" (av u3) (au u3) (af u3) .none adK adL adM adN NZ adO),adP⟩) (Vi:codeIn K NZ "signs_turned"=true) (Vj:keepIn K (.ref NY)=true) (Vk:nsIn K mainGlobals "solve_rows"=some (some (.ref N0))) (Vl:K.lookup N0=some ⟨adQ,adR,.func (fnOf "solve_rows" "solve_rows" (av u4) (au u4) (af u4) .none adS adT adU adV N1 adW),adX⟩) (Vm:codeIn K N1 "solve_rows"=true) (Vn:keepIn K (.ref N0)=true) (Vo:nsIn K mainGlobals "turned"=some (some (.ref N2))) (Vp:K.lookup N2=some ⟨adY,adZ,.func (fnOf "turned" "turned" (av u5) (au u5) (af u5) .none ad0 ad1 ad2 ad3 N3 ad4),ad5⟩) (Vq:codeIn K N3 "turned"=true) (Vr:keepIn K (.ref N2)=true) (Vs:nsIn K mainGlobals "whole_row"=some (some (.ref N4))) (Vt:K.lookup N4=some ⟨ad6,ad7,.func (fnOf "whole_row" "whole_row" (av u6) (au u6) (af u6) .none ad8 ad9 ad' aea N5 aeb),aec⟩) (Vu:codeIn K N5 "whole_row"=true) (Vv:keepIn K (.ref N4)=true) (Vw:nsIn K mainGlobals "solution_of"=some (some (.ref N6))) (Vx:K.lookup N6=some ⟨aed,aee,.func (fnOf "solution_of" "solution_of" (av u9) (au u9) (af u9) .none aef aeg aeh aei N7 aej),aek⟩) (Vy:codeIn K N7 "solution_of"=true) (Vz:keepIn K (.ref N6)=true) (VA:nsIn K mainGlobals "reduced"=some (some (.ref N8))) (VB:K.lookup N8=some ⟨ael,aem,.func (fnOf "reduced" "reduced" (av u_) (au u_) (af u_) .none aen aeo aep aeq N9 aer),aes⟩) (VC:codeIn K N9 "reduced"=true) (VD:keepIn K (.ref N8)=true) (VE:nsIn K mainGlobals "first_not_nought"=some (some (.ref N_))) (VF:K.lookup N_=some ⟨aet,aeu,.func (fnOf "first_not_nought" "first_not_nought" (av va) (au va) (af va) .none aev aew aex aey N' aez),aeA⟩) (VG:codeIn K N' "first_not_nought"=true) (VH:keepIn K (.ref N_)=true) (VI:nsIn K mainGlobals "cleared"=some (some (.ref Oa))) (VJ:K.lookup Oa=some ⟨aeB,aeC,.func (fnOf "cleared" "cleared" (av vb) (au vb) (af vb) .none aeD aeE aeF aeG Ob aeH),aeI⟩) (VL:codeIn K Ob "cleared"=true) (VM:keepIn K (.ref Oa)=true) (VN:nsIn K mainGlobals "divided"=some (some (.ref Oc))) (VO:K.lookup Oc=some ⟨aeJ,aeK,.func (fnOf "divided" "divided" (av vc) (au vc) (af vc) .none aeL aeM aeN aeO Od aeP),aeQ⟩) (VP:codeIn K Od "divided"=true) (VQ:keepIn K (.ref Oc)=true) (VR:nsIn K mainGlobals "would_take"=some (some (.ref Oe))) (VS:K.lookup Oe=some ⟨aeR,aeS,.func (fnOf "would_take" "would_take" (av vd) (au vd) (af vd) .none aeT aeU aeV aeW Of aeX),aeY⟩) (VT:codeIn K Of "would_take"=true) (VU:keepIn K (.ref Oe)=true) (VW:nsIn K mainGlobals "stretch_of"=some (some (.ref Og))) (VX:K.lookup Og=some ⟨aeZ,ae0,.func (fnOf "stretch_of" "stretch_of" (av ve) (au ve) (af ve) .none ae1 ae2 ae3 ae4 Oh ae5),ae6⟩) (VY:codeIn K Oh "stretch_of"=true) (VZ:keepIn K (.ref Og)=true) (V0:nsIn K mainGlobals "rest_of"=some (some (.ref Oi))) (V1:K.lookup Oi=some ⟨ae7,ae8,.func (fnOf "rest_of" "rest_of" (av vf) (au vf) (af vf) .none ae9 ae' afa afb Oj afc),afd⟩) (V2:codeIn K Oj "rest_of"=true) (V3:keepIn K (.ref Oi)=true) (V4:nsIn K mainGlobals "_law_cell_at"=some (some (.ref Ol))) (V5:K.lookup Ol=some ⟨afe,aff,.func (fnOf "_law_cell_at" "_law_cell_at" (av vg) (au vg) (af vg) .none afg afh afi afj Om afk),afl⟩) (V6:codeIn K Om "_law_cell_at"=true) (V7:keepIn K (.ref Ol)=true) (V8:nsIn K mainGlobals "_law_field"=some (some (.ref Oo))) (V9:K.lookup Oo=some ⟨afm,afn,.func (fnOf "_law_field" "_law_field" (av vh) (au vh) (af vh) .none afo afp afq afr Oq afs),aft⟩) (V_:codeIn K Oq "_law_field"=true) (V':keepIn K (.ref Oo)=true) (Wa:nsIn K mainGlobals "_law_lowest"=some (some (.ref Ot))) (Wb:K.lookup Ot=some ⟨afu,afv,.func (fnOf "_law_lowest" "_law_lowest" (av vi) (au vi) (af vi) .none afw afx afy afz Ou afA),afB⟩) (Wc:codeIn K Ou "_law_lowest"=true) (Wd:keepIn K (.ref Ot)=true) (We:nsIn K mainGlobals "_law_sum"=some (some (.ref Ov))) (Wf:K.lookup Ov=some ⟨afC,afD,.func (fnOf "_law_sum" "_law_sum" (av vj) (au vj) (af vj) .none afE afF afG afH Ow afI),afJ⟩) (Wg:codeIn K Ow "_law_sum"=true) (Wh:keepIn K (.ref Ov)=true) (Wi:nsIn K mainGlobals "_law_times"=some (some (.ref Ox))) (Wj:K.lookup Ox=some ⟨afK,afL,.func (fnOf "_law_times" "_law_times" (av vk) (au vk) (af vk) .none afM afN afO afP Oy afQ),afR⟩) (Wk:codeIn K Oy "_law_times"=true) (Wm:keepIn K (.ref Ox)=true) (Wn:nsIn K mainGlobals "_law_turned"=some (some (.ref Oz))) (Wo:K.lookup Oz=some ⟨afS,afT,.func (fnOf "_law_turned" "_law_turned" (av vm) (au vm) (af vm) .none afU afV afW afX OA afY),afZ⟩) (Wq:codeIn K OA "_law_turned"=true) (Wr:keepIn K (.ref Oz)=true) (Ws:nsIn K mainGlobals "_law_name"=some (some (.ref OB))) (Wt:K.lookup OB=some ⟨af0,af1,.func (fnOf "_law_name" "_law_name" (av rG) (au rG) (af rG) .none af2 af3 af4 af5 OC af6),af7⟩) (Wu:codeIn K OC "_law_name"=true) (Wv:keepIn K (.ref OB)=true) (Ww:nsIn K mainGlobals "_law_spot"=some (some (.ref OD))) (Wx:K.lookup OD=some ⟨af8,af9,.func (fnOf "_law_spot" "_law_spot" (av vn) (au vn) (af vn) .none af' aga agb agc OE agd),age⟩) (Wy:codeIn K OE "_law_spot"=true) (Wz:keepIn K (.ref OD)=true) (WA:nsIn K mainGlobals "_law_ways"=some (some (.ref OF))) (WC:K.lookup OF=some ⟨agf,agg,.func (fnOf "_law_ways" "_law_ways" (av vo) (au vo) (af vo) .none agh agi agj agk OG agl),agm⟩) (WD:codeIn K OG "_law_ways"=true) (WE:keepIn K (.ref OF)=true) (WG:nsIn K mainGlobals "_law_pins"=some (some (.ref OH))) (WH:K.lookup OH=some ⟨agn,ago,.func (fnOf "_law_pins" "_law_pins" (av vp) (au vp) (af vp) .none agp agq agr ags OI agt),agu⟩) (WI:codeIn K OI "_law_pins"=true) (WJ:keepIn K (.ref OH)=true) (WK:nsIn K mainGlobals "_law_bars"=some (some (.ref OJ))) (WL:K.lookup OJ=some ⟨agv,agw,.func (fnOf "_law_bars" "_law_bars" (av vq) (au vq) (af vq) .none agx agy agz agA OK agB),agC⟩) (WM:codeIn K OK "_law_bars"=true) (WN:keepIn K (.ref OJ)=true) (WO:nsIn K mainGlobals "_law_frame"=some (some (.ref OL))) (WQ:K.lookup OL=some ⟨agD,agE,.func (fnOf "_law_frame" "_law_frame" (av vt) (au vt) (af vt) .none agF agG agH agI OM agJ),agK⟩) (WR:codeIn K OM "_law_frame"=true) (WS:keepIn K (.ref OL)=true) (WT:nsIn K mainGlobals "_law_arm"=some (some (.ref ON))) (WU:K.lookup ON=some ⟨agL,agM,.func (fnOf "_law_arm" "_law_arm" (av vv) (au vv) (af vv) .none agN agO agP agQ OO agR),agS⟩) (WV:codeIn K OO "_law_arm"=true) (WW:keepIn K (.ref ON)=true) (WX:nsIn K mainGlobals "_law_add"=some (some (.ref OP))) (WY:K.lookup OP=some ⟨agT,agU,.func (fnOf "_law_add" "_law_add" (av vw) (au vw) (af vw) .none agV agW agX agY OQ agZ),ag0⟩) (WZ:codeIn K OQ "_law_add"=true) (W0:keepIn K (.ref OP)=true) (W5:nsIn K mainGlobals "_law_forces"=some (some (.ref OR))) (W7:K.lookup OR=some ⟨ag1,ag2,.func (fnOf "_law_forces" "_law_forces" (av vx) (au vx) (af vx) .none ag3 ag4 ag5 ag6 OS ag7),ag8⟩) (W9:codeIn K OS "_law_forces"=true) (W_:keepIn K (.ref OR)=true) (Xa:nsIn K mainGlobals "_law_dot"=some (some (.ref OT))) (Xb:K.lookup OT=some ⟨ag9,ag',.func (fnOf "_law_dot" "_law_dot" (av vy) (au vy) (af vy) .none aha ahb ahc ahd OU ahe),ahf⟩) (Xc:codeIn K OU "_law_dot"=true) (Xd:keepIn K (.ref OT)=true) (Xe:nsIn K mainGlobals "_law_work"=some (some (.ref OV))) (Xf:K.lookup OV=some ⟨ahg,ahh,.func (fnOf "_law_work" "_law_work" (av vz) (au vz) (af vz) .none ahi ahj ahk ahl OW ahm),ahn⟩) (Xg:codeIn K OW "_law_work"=true) (Xh:keepIn K (.ref OV)=true) (Xi:nsIn K mainGlobals "_law_drawn"=some (some (.ref OX))) (Xj:K.lookup OX=some ⟨aho,ahp,.func (fnOf "_law_drawn" "_law_drawn" (av vA) (au vA) (af vA) .none ahq ahr ahs aht OY ahu),ahv⟩) (Xk:codeIn K OY "_law_drawn"=true) (Xl:keepIn K (.ref OX)=true) (Xm:nsIn K mainGlobals "_law_load"=some (some (.ref OZ))) (Xn:K.lookup OZ=some ⟨ahw,ahx,.func (fnOf "_law_load" "_law_load" (av s_by) (au s_by) (af s_by) .none ahy ahz ahA ahB O0 ahC),ahD⟩) (Xo:codeIn K O0 "_law_load"=true) (Xp:keepIn K (.ref OZ)=true) (Xq:nsIn K mainGlobals "_law_alike"=some (some (.ref O1))) (Xr:K.lookup O1=some ⟨ahE,ahF,.func (fnOf "_law_alike" "_law_alike" (av vB) (au vB) (af vB) .none ahG ahH ahI ahJ O2 ahK),ahL⟩) (Xs:codeIn K O2 "_law_alike"=true) (Xt:keepIn K (.ref O1)=true) (Xu:nsIn K mainGlobals "_law_twice_more"=some (some (.ref O3))) (Xv:K.lookup O3=some ⟨ahM,ahN,.func (fnOf "_law_twice_more" "_law_twice_more" (av vC) (au vC) (af vC) .none ahO ahP ahQ ahR O4 ahS),ahT⟩) (Xw:codeIn K O4 "_law_twice_more"=true) (Xx:keepIn K (.ref O3)=true) (Xy:nsIn K mainGlobals "_law_right"=some (some (.ref O5))) (Xz:K.lookup O5=some ⟨ahU,ahV,.func (fnOf "_law_right" "_law_right" (av vD) (au vD) (af vD) .none ahW ahX ahY ahZ O6 ah0),ah1⟩) (XA:codeIn K O6 "_law_right"=true) (XB:keepIn K (.ref O5)=true) (O7:nsIn K mainGlobals "law"=some (some (.ref DX))) (O8:K.lookup DX=some ⟨XC,XD,.func (fnOf "law" "law" (av g8) (au g8) (af g8) .none IM IP IQ IS yQ IT),XE⟩) (O9:codeIn K yQ "law"=true) (O_:keepIn K (.ref DX)=true) (XF:nsIn K mainGlobals "MOST_PINS"=some (some (.int 24 ah2))) (XG:nsIn K mainGlobals "MOST_BARS"=some (some (.int 60 ah3))) (XH:nsIn K mainGlobals "NOUGHT"=some (some (.ref IU))) (XI:K.lookup IU=some ⟨.type "tuple",ah4,.seq #[.int 0 XJ,.int 1 XM] ah5,ah6⟩) (XN:nsIn K mainGlobals "ONE"=some (some (.ref IV))) (XO:K.lookup IV=some ⟨.type "tuple",ah7,.seq #[.int 1 XQ,.int 1 XR] ah8,ah9⟩) (XS:nsIn K mainGlobals "NO_MOVE"=some (some (.ref IW))) (XT:K.lookup IW=some ⟨.type "tuple",ah',.seq #[.ref Pa,.ref Pb] aia,aib⟩) (XU:K.lookup Pa=some ⟨.type "tuple",aic,.seq #[.int 0 XW,.int 1 XX] aid,aie⟩) (XY:K.lookup Pb=some ⟨.type "tuple",aif,.seq #[.int 0 XZ,.int 1 X0] aih,aii⟩) (oF:nsIn K mainGlobals "ValueError"=some none) (Pc:nsIn K mainGlobals "abs"=some none) (Pd:nsIn K mainGlobals "any"=some none) (IX:nsIn K mainGlobals "dict"=some none) (qD:nsIn K mainGlobals "enumerate"=some none) (Pe:nsIn K mainGlobals "len"=some none) (IY:nsIn K mainGlobals "list"=some none) (Pf:nsIn K mainGlobals "min"=some none) (BJ:nsIn K mainGlobals "range"=some none) (Pg:nsIn K mainGlobals "str"=some none) (Ph:nsIn K mainGlobals "zip"=some none) (X1:nsIn K mainGlobals "YardError"=some (some (.ref X2))) (X3:nsIn K mainGlobals "NoWay"=some (some (.ref X4))) (X5:nsIn K mainGlobals "PinThere"=some (some (.ref X6))) (X7:nsIn K mainGlobals "SpotTaken"=some (some (.ref X8))) (X9:nsIn K mainGlobals "NoPin"=some (some (.ref X_))) (X':nsIn K mainGlobals "BarThere"=some (some (.ref Ya))) (Yb:nsIn K mainGlobals "NoBar"=some (some (.ref Yc))) (Yd:nsIn K mainGlobals "NoLength"=some (some (.ref Ye))) (Yf:nsIn K mainGlobals "TooMany"=some (some (.ref Yg))) (Yh:nsIn K mainGlobals "Frame"=some (some (.ref bM))) (Yi:nsIn K mainGlobals "Hold"=some (some (.ref jD))) (Yj:nsIn K mainGlobals "Roller"=some (some (.ref gh))) (Yk:nsIn K mainGlobals "Fixed"=some (some (.ref jc))) (Pj:PySem.W.plainGet K bM Str.empty=true) (Pk:PySem.W.hasDictIn K bM=true) (Pl:PySem.W.plainOver K bM=true) (Pm:PySem.W.findIn K (.ref bM) "__setattr__"=some (some (.builtin "object.__setattr__"))) (Pn:PySem.W.makesIn K bM=true) (Po:keepIn K (.ref bM)=true) (Pp:PySem.W.findIn K (.ref bM) "__init__"=some (some (.ref yR))) (Pq:PySem.W.isFn K (.ref yR)=true) (Yl:K.lookup yR=some ⟨aij,aik,.func (fnOf "__init__" "Frame.__init__" (av vE) (au vE) (af vE) .none ail aim ain aio Pr aip),aiq⟩) (Ym:codeIn K Pr "Frame.__init__"=true) (Pu:keepIn K (.ref yR)=true) (Yn:PySem.W.findIn K (.ref bM) "put_pin"=some (some (.ref BK))) (Yo:PySem.W.isFn K (.ref BK)=true) (Yp:K.lookup BK=some ⟨air,ais,.func (fnOf "put_pin" "Frame.put_pin" (av jB) (au jB) (af jB) (.ref yS) DY DZ D_ D' yT EA),ait⟩) (Pw:K.lookup yS=some ⟨aiu,Yq,.seq #[.none] aiv,Yr⟩) (Ys:codeIn K yT "Frame.put_pin"=true) (Px:keepIn K (.ref BK)=true) (Yt:PySem.W.findIn K (.ref bM) "put_bar"=some (some (.ref BL))) (Yu:PySem.W.isFn K (.ref BL)=true) (Yv:K.lookup BL=some ⟨aiw,aix,.func (fnOf "put_bar" "Frame.put_bar" (av vF) (au vF) (af vF) .none aiy aiz aiA aiB Py aiC),aiD⟩) (Yw:codeIn K Py "Frame.put_bar"=true) (Pz:keepIn K (.ref BL)=true) (Yx:PySem.W.findIn K (.ref bM) "check_bar"=some (some (.ref BM))) (Yy:PySem.W.isFn K (.ref BM)=true) (Yz:K.lookup BM=some ⟨aiE,aiF,.func (fnOf "check_bar" "Frame.check_bar" (av vG) (au vG) (af vG) .none aiG aiH aiI aiJ PD aiK),aiL⟩) (YA:codeIn K PD "Frame.check_bar"=true) (PH:keepIn K (.ref BM)=true) (YB:PySem.W.findIn K (.ref bM) "check_pin"=some (some (.ref BN))) (YC:PySem.W.isFn K (.ref BN)=true) (YD:K.lookup BN=some ⟨aiM,aiN,.func (fnOf "check_pin" "Frame.check_pin" (av vH) (au vH) (af vH) .none aiO aiP aiQ aiR PJ aiS),aiT⟩) (YE:codeIn K PJ "Frame.check_pin"=true) (PK:keepIn K (.ref BN)=true) (YF:PySem.W.findIn K (.ref bM) "pins"=some (some (.ref BO))) (YG:PySem.W.isFn K (.ref BO)=true) (YH:K.lookup BO=some ⟨aiU,aiV,.func (fnOf "pins" "Frame.pins" (av vI) (au vI) (af vI) .none aiW aiX aiY aiZ PL ai0),ai1⟩) (YI:codeIn K PL "Frame.pins"=true) (PM:keepIn K (.ref BO)=true) (YJ:PySem.W.findIn K (.ref bM) "bars"=some (some (.ref BP))) (YK:PySem.W.isFn K (.ref BP)=true) (YL:K.lookup BP=some ⟨ai2,ai3,.func (fnOf "bars" "Frame.bars" (av vJ) (au vJ) (af vJ) .none ai4 ai5 ai6 ai7 PN ai8),ai9⟩) (YM:codeIn K PN "Frame.bars"=true) (PQ:keepIn K (.ref BP)=true) (YN:PySem.W.findIn K (.ref bM) "place"=some (some (.ref BQ))) (YO:PySem.W.isFn K (.ref BQ)=true) (YQ:K.lookup BQ=some ⟨ai',aja,.func (fnOf "place" "Frame.place" (av vK) (au vK) (af vK) .none ajb ajc ajd aje PU ajf),ajg⟩) (YR:codeIn K PU "Frame.place"=true) (PV:keepIn K (.ref BQ)=true) (YS:PySem.W.findIn K (.ref bM) "ways"=some (some (.ref BR))) (YT:PySem.W.isFn K (.ref BR)=true) (YU:K.lookup BR=some ⟨ajh,aji,.func (fnOf "ways" "Frame.ways" (av vL) (au vL) (af vL) .none ajj ajk ajl ajm PX ajn),ajo⟩) (YV:codeIn K PX "Frame.ways"=true) (PY:keepIn K (.ref BR)=true) (YW:PySem.W.findIn K (.ref bM) "ends"=some (some (.ref BS))) (YX:PySem.W.isFn K (.ref BS)=true) (YY:K.lookup BS=some ⟨ajp,ajq,.func (fnOf "ends" "Frame.ends" (av vM) (au vM) (af vM) .none ajr ajs ajt aju PZ ajv),ajw⟩) (YZ:codeIn K PZ "Frame.ends"=true) (P0:keepIn K (.ref BS)=true) (P1:PySem.W.plainGet K jD Str.empty=true) (P2:PySem.W.hasDictIn K jD=true) (P4:PySem.W.plainOver K jD=true) (P5:PySem.W.findIn K (.ref jD) "__setattr__"=some (some (.builtin "object.__setattr__"))) (P6:PySem.W.makesIn K jD=true) (P7:keepIn K (.ref jD)=true) (P8:PySem.W.findIn K (.ref jD) "__init__"=some (some (.builtin "object.__init__"))) (Y0:PySem.W.findIn K (.ref jD) "ways"=some (some (.ref BU))) (Y1:PySem.W.isFn K (.ref BU)=true) (Y2:K.lookup BU=some ⟨ajx,ajy,.func (fnOf "ways" "Hold.ways" (av z8) (au z8) (af z8) .none ajz ajA ajB ajC P9 ajD),ajE⟩) (Y3:codeIn K P9 "Hold.ways"=true) (P_:keepIn K (.ref BU)=true) (P':PySem.W.plainGet K gh Str.empty=true) (Qa:PySem.W.hasDictIn K gh=true) (Qb:PySem.W.plainOver K gh=true) (Qc:PySem.W.findIn K (.ref gh) "__setattr__"=some (some (.builtin "object.__setattr__"))) (Qd:PySem.W.makesIn K gh=true) (Qe:keepIn K (.ref gh)=true) (Qf:PySem.W.findIn K (.ref gh) "__init__"=some (some (.ref yU))) (Qg:PySem.W.isFn K (.ref yU)=true) (Y4:K.lookup yU=some ⟨ajF,ajG,.func (fnOf "__init__" "Roller.__init__" (av vN) (au vN) (af vN) .none ajH ajI ajJ ajK Qh ajL),ajM⟩) (Y5:codeIn K Qh "Roller.__init__"=true) (Qi:keepIn K (.ref yU)=true) (Y6:PySem.W.findIn K (.ref gh) "ways"=some (some (.ref BV))) (Y7:PySem.W.isFn K (.ref BV)=true) (Y8:K.lookup BV=some ⟨ajN,ajO,.func (fnOf "ways" "Roller.ways" (av vO) (au vO) (af vO) .none ajP ajQ ajR ajS Qj ajT),ajU⟩) (Y9:codeIn K Qj "Roller.ways"=true) (Qk:keepIn K (.ref BV)=true) (Ql:PySem.W.plainGet K jc Str.empty=true) (Qm:PySem.W.hasDictIn K jc=true) (Qn:PySem.W.plainOver K jc=true) (Qo:PySem.W.findIn K (.ref jc) "__setattr__"=some (some (.builtin "object.__setattr__"))) (Qp:PySem.W.makesIn K jc=true) (Qq:keepIn K (.ref jc)=true) (Qr:PySem.W.findIn K (.ref jc) "__init__"=some (some (.builtin "object.__init__"))) (Y_:PySem.W.findIn K (.ref jc) "ways"=some (some (.ref BW))) (Y':PySem.W.isFn K (.ref BW)=true) (Za:K.lookup BW=some ⟨ajV,ajW,.func (fnOf "ways" "Fixed.ways" (av vP) (au vP) (af vP) .none ajX ajY ajZ aj0 Qs aj1),aj2⟩) (Zc:codeIn K Qs "Fixed.ways"=true) (Qt:keepIn K (.ref BW)=true) (yV:PySem.W.findIn K (.ref bM) "pin_places"=some none) (IZ:PySem.W.findIn K (.ref bM) "pin_ways"=some none) (I_:PySem.W.findIn K (.ref bM) "bar_ends"=some none) (EB:PySem.W.findIn K (.ref gh) "way"=some none) (ht:l.prog.given.tree=none):
  ∃fd:FuncData,(∀(s:Shared) (v:Value),BindsTo s fd ⟨[v],[]⟩ [("_law_script",v)])∧∀base:Heap,K.In base→base.Ns mainGlobals mg→cj l.prog w K mg base (aX l.prog w) 42 fa fd ["_law_script"] (xj K):=by
 have e:=hfa.symm.trans (mg_of X G O7)
 cases e
 have Zd:Def K mg "difference_of" rE ["one","other"]:=d0 X G Uw Ux Uy Uv
 have Ze:Def K mg "lowest_terms" qf ["top","bottom"]:=d0 X G UA UB UC Uz
 have Zf:Def K mg "greatest_shared" uT ["one","other"]:=d0 X G UE UG UH UD
 have Zg:Def K mg "arm_between" uU ["F","one","other"]:=d0 X G UJ UK UL UI
 have Zh:Def K mg "pair_difference" rF ["one","other"]:=d0 X G UN UO UP UM
 have Zi:Def K mg "pair_row" uV ["F","draws"]:=d0 X G UR US UT UQ
 have Zj:Def K mg "load_row" uW ["F","load"]:=d0 X G UW UX UY UU
 have Zk:Def K mg "bar_row" uX ["F","one","other"]:=d0 X G U2 U3 U4 UZ
 have Zl:Def K mg "draw_rows" uY ["F"]:=d0 X G U6 U7 U8 U5
 have Zm:Def K mg "pulls_and_pushes" uZ ["F","numbers"]:=d0 X G U_ Va Vb U9
 have Zn:Def K mg "motion_from" u0 ["F","numbers"]:=d0 X G Vd Ve Vf Vc
 have Zo:Def K mg "signs_turned" u3 ["numbers"]:=d0 X G Vh Vi Vj Vg
 have Zp:Def K mg "solve_rows" u4 ["rows","due","many"]:=d0 X G Vl Vm Vn Vk
 have Zq:Def K mg "turned" u5 ["rows","many"]:=d0 X G Vp Vq Vr Vo
 have Zr:Def K mg "whole_row" u6 ["row"]:=d0 X G Vt Vu Vv Vs
 have Zs:Def K mg "solution_of" u9 ["lines","many"]:=d0 X G Vx Vy Vz Vw
 have Zt:Def K mg "reduced" u_ ["lines","many"]:=d0 X G VB VC VD VA
 have Zu:Def K mg "first_not_nought" va ["lines","column"]:=d0 X G VF VG VH VE
 have Zv:Def K mg "cleared" vb ["line","lead","column"]:=d0 X G VJ VL VM VI
 have Zw:Def K mg "divided" vc ["line"]:=d0 X G VO VP VQ VN
 have Zx:Def K mg "would_take" vd ["F","name"]:=d0 X G VS VT VU VR
 have Zy:Def K mg "stretch_of" ve ["F","rows","at"]:=d0 X G VX VY VZ VW
 have Zz:Def K mg "rest_of" vf ["F","load"]:=d0 X G V1 V2 V3 V0
 have ZA:Def K mg "_law_cell_at" vg ["_law_script","_law_k"]:=d0 X G V5 V6 V7 V4
 have ZC:Def K mg "_law_field" vh ["_law_cell","_law_prime","_law_many"]:=d0 X G V9 V_ V' V8
 have ZD:Def K mg "_law_lowest" vi ["_law_top","_law_bottom"]:=d0 X G Wb Wc Wd Wa
 have ZE:Def K mg "_law_sum" vj ["_law_one","_law_other"]:=d0 X G Wf Wg Wh We
 have ZF:Def K mg "_law_times" vk ["_law_one","_law_other"]:=d0 X G Wj Wk Wm Wi
 have ZG:Def K mg "_law_turned" vm ["_law_one"]:=d0 X G Wo Wq Wr Wn
 have ZH:Def K mg "_law_name" rG ["_law_cell","_law_k"]:=d0 X G Wt Wu Wv Ws
 have ZI:Def K mg "_law_spot" vn ["_law_cell","_law_kind"]:=d0 X G Wx Wy Wz Ww
 have ZJ:Def K mg "_law_ways" vo ["_law_cell"]:=d0 X G WC WD WE WA
 have ZK:Def K mg "_law_pins" vp ["_law_script"]:=d0 X G WH WI WJ WG
 have ZL:Def K mg "_law_bars" vq ["_law_script","_law_pins_here"]:=d0 X G WL WM WN WK
 have ZM:Def K mg "_law_frame" vt ["_law_pins_here","_law_bars_here"]:=d0 X G WQ WR WS WO
 have ZN:Def K mg "_law_arm" vv ["_law_pins_here","_law_bar","_law_axis"]:=d0 X G WU WV WW WT
 have ZO:Def K mg "_law_add" vw ["_law_found","_law_k","_law_axis","_law_draw"]:=d0 X G WY WZ W0 WX
 have ZP:Def K mg "_law_forces" vx ["_law_pins_here","_law_bars_here","_law_pulls","_law_pushes"]:=d0 X G W7 W9 W_ W5
 have ZQ:Def K mg "_law_dot" vy ["_law_one","_law_other"]:=d0 X G Xb Xc Xd Xa
 have ZR:Def K mg "_law_work" vz ["_law_load_here","_law_motion"]:=d0 X G Xf Xg Xh Xe
 have ZS:Def K mg "_law_drawn" vA ["_law_script","_law_pins_here","_law_bars_here"]:=d0 X G Xj Xk Xl Xi
 have ZT:Def K mg "_law_load" s_by ["_law_pins_here","_law_bars_here","_law_drawn_here"]:=d0 X G Xn Xo Xp Xm
 have ZU:Def K mg "_law_alike" vB ["_law_one","_law_other"]:=d0 X G Xr Xs Xt Xq
 have ZV:Def K mg "_law_twice_more" vC ["_law_pins_here","_law_bars_here","_law_drawn_here","_law_own","_law_load_here"]:=d0 X G Xv Xw Xx Xu
 have ZW:Def K mg "_law_right" vD ["_law_pins_here","_law_bars_here","_law_k","_law_drawn_here","_law_load_here","_law_told","_law_pulls"]:=d0 X G Xz XA XB Xy
 have dX:qE K bM:=⟨Pj,Pk,Pl,Pm⟩
 have Iw:Mk K bM yR:=⟨Pn,Pp,Pq,Po⟩
 have Qu:=cA (st:=vE) Yl Ym Pu
 have Iz:=Qu.uS (ps:=["self"])
 have anw:Meth K bM "__init__" yR:=⟨Pp,Pq,Pu⟩
 have ZX:=zX (st:=jB) Yp Ys Px
 have ZY:Binds K (fnOf "put_pin" "Frame.put_pin" (av jB) (au jB) (af jB) (.ref yS) DY DZ D_ D' yT EA) ["self","name","x","y","hold"] []:=fun s us X hl=>match us,hl with | [_,_,_,_,_],_=>BindsTo.of_defaults rfl (X _ _ Pw) rfl rfl rfl
 have Qv:Binds K (fnOf "put_pin" "Frame.put_pin" (av jB) (au jB) (af jB) (.ref yS) DY DZ D_ D' yT EA) ["self","name","x","y","hold"] [.none]:=fun s us X hl=>match us,(show us.length=4 by simpa using hl) with | [_,_,_,_],_=>BindsTo.of_defaults rfl (X _ _ Pw) rfl rfl rfl
 have Qw:Meth K bM "put_pin" BK:=⟨Yn,Yo,Px⟩
 have Qx:=cA (st:=vF) Yv Yw Pz
 have ZZ:=Qx.uS (ps:=["self","name","one","other"])
 have Z0:Meth K bM "put_bar" BL:=⟨Yt,Yu,Pz⟩
 have Qy:=cA (st:=vG) Yz YA PH
 have Z1:=Qy.uS (ps:=["self","name","one","other"])
 have Z2:Meth K bM "check_bar" BM:=⟨Yx,Yy,PH⟩
 have Qz:=cA (st:=vH) YD YE PK
 have Z3:=Qz.uS (ps:=["self","pin"])
 have Z4:Meth K bM "check_pin" BN:=⟨YB,YC,PK⟩
 have QC:=cA (st:=vI) YH YI PM
 have Z5:=QC.uS (ps:=["self"])
 have Z6:Meth K bM "pins" BO:=⟨YF,YG,PM⟩
 have QD:=cA (st:=vJ) YL YM PQ
 have Z7:=QD.uS (ps:=["self"])
 have Z8:Meth K bM "bars" BP:=⟨YJ,YK,PQ⟩
 have QE:=cA (st:=vK) YQ YR PV
 have Z9:=QE.uS (ps:=["self","pin"])
 have Z_:Meth K bM "place" BQ:=⟨YN,YO,PV⟩
 have QF:=cA (st:=vL) YU YV PY
 have Z':=QF.uS (ps:=["self","pin"])
 have aaa:Meth K bM "ways" BR:=⟨YS,YT,PY⟩
 have QG:=cA (st:=vM) YY YZ P0
 have aab:=QG.uS (ps:=["self","bar"])
 have aac:Meth K bM "ends" BS:=⟨YW,YX,P0⟩
 have cls_cm:qE K jD:=⟨P1,P2,P4,P5⟩
 have anx:Kn K jD:=⟨P6,P8,P7⟩
 have aad:=cA (st:=z8) Y2 Y3 P_
 have anz:=aad.uS (ps:=["self"])
 have anA:Meth K jD "ways" BU:=⟨Y0,Y1,P_⟩
 have se:qE K gh:=⟨P',Qa,Qb,Qc⟩
 have IE:Mk K gh yU:=⟨Qd,Qf,Qg,Qe⟩
 have QH:=cA (st:=vN) Y4 Y5 Qi
 have IF:=QH.uS (ps:=["self","x","y"])
 have anB:Meth K gh "__init__" yU:=⟨Qf,Qg,Qi⟩
 have QI:=cA (st:=vO) Y8 Y9 Qk
 have aae:=QI.uS (ps:=["self"])
 have aaf:Meth K gh "ways" BV:=⟨Y6,Y7,Qk⟩
 have Ja:qE K jc:=⟨Ql,Qm,Qn,Qo⟩
 have ID:Kn K jc:=⟨Qp,Qr,Qq⟩
 have QJ:=cA (st:=vP) Za Zc Qt
 have aag:=QJ.uS (ps:=["self"])
 have aah:Meth K jc "ways" BW:=⟨Y_,Y',Qt⟩
 have HF:=mg_of X G XF
 have HH:=mg_of X G XG
 have nN:mg "NOUGHT"=some (.ref IU):=mg_of X G XH
 have HW:mg "ONE"=some (.ref IV):=mg_of X G XN
 have HI:mg "NO_MOVE"=some (.ref IW):=mg_of X G XS
 have anC:mg "YardError"=some (.ref X2):=mg_of X G X1
 have anD:mg "NoWay"=some (.ref X4):=mg_of X G X3
 have anE:mg "PinThere"=some (.ref X6):=mg_of X G X5
 have anF:mg "SpotTaken"=some (.ref X8):=mg_of X G X7
 have anG:mg "NoPin"=some (.ref X_):=mg_of X G X9
 have anH:mg "BarThere"=some (.ref Ya):=mg_of X G X'
 have anI:mg "NoBar"=some (.ref Yc):=mg_of X G Yb
 have anJ:mg "NoLength"=some (.ref Ye):=mg_of X G Yd
 have anK:mg "TooMany"=some (.ref Yg):=mg_of X G Yf
 have Iy:mg "Frame"=some (.ref bM):=mg_of X G Yh
 have anL:mg "Hold"=some (.ref jD):=mg_of X G Yi
 have IA:mg "Roller"=some (.ref gh):=mg_of X G Yj
 have IC:mg "Fixed"=some (.ref jc):=mg_of X G Yk
 have BX:mg "ValueError"=none:=mg_none_of X G oF
 have my:mg "abs"=none:=mg_none_of X G Pc
 have xW:mg "any"=none:=mg_none_of X G Pd
 have rQ:mg "dict"=none:=mg_none_of X G IX
 have cM:mg "enumerate"=none:=mg_none_of X G qD
 have aZ:mg "len"=none:=mg_none_of X G Pe
 have cK:mg "list"=none:=mg_none_of X G IY
 have yH:mg "min"=none:=mg_none_of X G Pf
 have a9:mg "range"=none:=mg_none_of X G BJ
 have yC:mg "str"=none:=mg_none_of X G Pg
 have gm:mg "zip"=none:=mg_none_of X G Ph
 have F:=cA (st:=g8) O8 O9 O_
 refine ⟨fnOf "law" "law" (av g8) (au g8) (af g8) .none IM IP IQ IS yQ IT,fun s v=>.of_eq rfl,fun base _ _=> ?_⟩
 have hM:ph (aX l.prog w):=aX.m9
 have hN:∀H:Hp,bQ K H IU [.int 0,.int 1]:=fun H=>.inr ⟨_,_,_,XI,rfl,rfl,(by show 2≤sizeLine;decide),.cons ⟨_,rfl⟩ (.cons ⟨_,rfl⟩ .nil)⟩
 have hO:∀H:Hp,bQ K H IV [.int 1,.int 1]:=fun H=>.inr ⟨_,_,_,XO,rfl,rfl,(by show 2≤sizeLine;decide),.cons ⟨_,rfl⟩ (.cons ⟨_,rfl⟩ .nil)⟩
 have nm:∀{c:Addr} {o:Option Addr} {k0 k1:Tok} {n:Nat} {sl:Array (Option Value)},K.lookup c=some ⟨.type "tuple",o,.seq #[.int 0 k0,.int 1 k1] n,sl⟩→∀H:Hp,dq K H (.ref c) 0:=fun t H=>⟨_,rfl,by rw [cN];exact .inr ⟨_,_,_,t,rfl,rfl,(by show 2≤sizeLine;decide),.cons ⟨_,rfl⟩ (.cons ⟨_,rfl⟩ .nil)⟩⟩
 have hMo:∀H:Hp,dC K H (.ref IW) (0,0):=fun H=>⟨_,.ref Pa,.ref Pb,rfl,.inr ⟨_,_,_,XT,rfl,rfl,(by show 2≤sizeLine;decide),.cons rfl (.cons rfl .nil)⟩,nm XU H,nm XY H⟩
 have fc:xH K bM:=⟨dX,yV,IZ,I_⟩
 have G1:=K9 (P:=l.prog) (w:=w) (base:=base) (CX:=aX l.prog w) Zf my
 have G2:=K_ ht Ze G1
 have GW:=La Zr G1
 have GDv:=Lb ht Zw G1
 have GCl:=Lc ht Zv gm G1 GDv
 have GF:=Ld (P:=l.prog) (w:=w) (base:=base) Zu cM
 have GR:=Lf Zt a9 cK GF GCl
 have GS:=Lk hN nN Zs xW GR G2
 have QK:=Lq Zp gm aZ GW GS (Lo Zq a9) G2
 have GD:=G' (LC hM Zd G2)
 have GPD:=LF hM Zh GD
 have GI:=LI (P:=l.prog) (w:=w) (mg:=mg) (base:=base) Qu fc
 have MBs:bE l.prog w K mg base (aX l.prog w) 1 bM "bars" ["self"] (i7 K bM):=⟨_,_,dX,Z8,LK QD fc cK,Z7⟩
 have Jb:bE l.prog w K mg base (aX l.prog w) 1 bM "pins" ["self"] (eh K bM):=⟨_,_,dX,Z6,LM QC fc cK,Z5⟩
 have MCp:bE l.prog w K mg base (aX l.prog w) 1 bM "check_pin" ["self","pin"] (c7 K bM):=⟨_,_,dX,Z4,LO Qz fc,Z3⟩
 have MCb:bE l.prog w K mg base (aX l.prog w) 2 bM "check_bar" ["self","name","one","other"] (fk K bM):=⟨_,_,dX,Z2,Ma Qy fc HH aZ MCp,Z1⟩
 have TQ:bE l.prog w K mg base (aX l.prog w) 3 bM "put_bar" ["self","name","one","other"] (ie K bM):=⟨_,_,dX,Z0,Mc Qx fc MCb,ZZ⟩
 have okP:=L9 (P:=l.prog) (w:=w) (mg:=mg) (base:=base) ZX fc HF aZ cK
 have Rm:bE l.prog w K mg base (aX l.prog w) 3 bM "put_pin" ["self","name","x","y","hold"] (c8 l.prog w K mg base bM):=⟨_,_,dX,Qw,okP,ZY⟩
 have TR:rl l.prog w K mg base (aX l.prog w) 3 bM "put_pin" ["self","name","x","y","hold"] [.none] (c8 l.prog w K mg base bM):=⟨_,_,dX,Qw,okP,Qv⟩
 have MPl:bE l.prog w K mg base (aX l.prog w) 2 bM "place" ["self","pin"] (jO K bM):=⟨_,_,dX,Z_,LQ QE fc MCp,Z9⟩
 have ME:bE l.prog w K mg base (aX l.prog w) 1 bM "ends" ["self","bar"] (nR K bM):=⟨_,_,dX,aac,LS QG fc,aab⟩
 have MW:bE l.prog w K mg base (aX l.prog w) 2 bM "ways" ["self","pin"] (kD K bM):=⟨_,_,dX,aaa,LV QF fc cK MCp,Z'⟩
 have wR:bE l.prog w K mg base (aX l.prog w) 1 gh "ways" ["self"] (ia K gh):=⟨_,_,se,aaf,LZ QI se EB,aae⟩
 have wF:bE l.prog w K mg base (aX l.prog w) 1 jc "ways" ["self"] (ib K):=⟨_,_,Ja,aah,L7 QJ,aag⟩
 have GRI:=LX (P:=l.prog) (w:=w) (mg:=mg) (base:=base) QH se EB
 have GA:=Mf Zg MPl GPD
 have GPR:=Mg hMo HI Zi Jb
 have GBR:=Mj Zk GA GPR
 have GDR:=Mm Zl Jb MW MBs ME GPR GBR
 have GPP:=Mo Zm aZ rQ gm Jb MW MBs
 have GMF:=Mq Zn cM Jb
 have GSg:=Ms (P:=l.prog) (w:=w) (base:=base) Zo
 have GSf:=Mt hN nN Zy aZ Jb QK
 have GWT:=Mw Zx aZ MBs GDR GSf GSg GMF GPP
 have GLR:=Mh Zj Jb GPR
 have GRO:=My hN nN hO HW Zz aZ Jb GDR GLR QK GMF GPP
 have GC:=MD (P:=l.prog) (w:=w) (base:=base) (CX:=aX l.prog w) ZA aZ
 have Jc:=MG (P:=l.prog) (w:=w) (base:=base) (CX:=aX l.prog w) ZC
 have GLo:=MI (w:=w) (base:=base) ht ZD my
 have JD:=MK (P:=l.prog) (w:=w) (base:=base) ZE
 have GTi:=MO (P:=l.prog) (w:=w) (base:=base) ZF
 have GTu:=MR (P:=l.prog) (w:=w) (base:=base) ZG
 have GNa:=MS hM ZH yC Jc
 have GSp:=MT ZI Jc GLo
 have GWy:=MU ZJ Jc GLo
 have GPi:=MZ ZK a9 yH GC Jc GSp GWy GNa JD
 have GBa:=M0 ZL a9 aZ GC Jc GNa
 have GFr:=M1 ZM aZ Iw Iy GI Iz IA IC ID IE GRI IF (wR.mono (by decide)) (wF.mono (by decide)) TQ Rm TR
 have GAr:=M7 ZN JD GTu
 have GDo:=M9 ZQ JD GTi
 have GAd:=Nb ZO JD
 have GFo:=Nc ZP aZ a9 GTi GTu GAr GAd
 have GWk:=Nh ZR JD GDo
 have GAl:=Nj (P:=l.prog) (w:=w) (base:=base) ZU
 have GDw:=Nk ZS aZ a9 GC Jc
 have GLd:=Nn ZT aZ a9 GFo GLo
 have GTw:=Nr ZV aZ a9 JD GTi GFo
 have GRt:=Nv ZW GWk GAl GTw
 exact IL F a9 aZ GC Jc GPi GBa GFr GDw GLd GRO GWT GRt
end T_k53
open PySem PySem.W PyProof.Rows
set_option maxRecDepth 100000 in
set_option maxHeartbeats 0 in
theorem PySem.Challenge.cw_trussyard_k53_influence_holds : PySem.Challenge.rw_trussyard_k53_influence.Holds := by
 w_on;o_law;k_head;(case hw=>w_witness2)
 k_fill
 refine Ty.walk (l:=PySem.Challenge.rw_trussyard_k53_influence) (x:="_law_script") (k:=42) (CX:=fun w=>Ty.aX (PySem.Challenge.rw_trussyard_k53_influence).prog w) rfl rfl (by first | rfl | decide+kernel) ⟨rfl,by decide,by decide⟩ (fun w h Y=>PySem.W.kIn_of Y) (fun w=>Ty.aX.m9) ?F
 case F=>
  intro w mg fa h KX G Kj
  refine' T_k53.all_mk KX G Kj ?A0 ?A1 ?A2 ?A3 ?A4 ?A5 ?A6 ?A7 ?A8 ?A9 ?Aa ?Ab ?Ac ?Ad ?Ae ?Af ?Ag ?Ah ?Ai ?Aj ?Ak ?Al ?Am ?An ?Ao ?Ap ?Aq ?Ar ?As ?At ?Au ?Av ?Aw ?Ax ?Ay ?Az ?B0 ?B1 ?B2 ?B3 ?B4 ?B5 ?B6 ?B7 ?B8 ?B9 ?Ba ?Bb ?Bc ?Bd ?Be ?Bf ?Bg ?Bh ?Bi ?Bj ?Bk ?Bl ?Bm ?Bn ?Bo ?Bp ?Bq ?Br ?Bs ?Bt ?Bu ?Bv ?Bw ?Bx ?By ?Bz ?C0 ?C1 ?C2 ?C3 ?C4 ?C5 ?C6 ?C7 ?C8 ?C9 ?Ca ?Cb ?Cc ?Cd ?Ce ?Cf ?Cg ?Ch ?Ci ?Cj ?Ck ?Cl ?Cm ?Cn ?Co ?Cp ?Cq ?Cr ?Cs ?Ct ?Cu ?Cv ?Cw ?Cx ?Cy ?Cz ?D0 ?D1 ?D2 ?D3 ?D4 ?D5 ?D6 ?D7 ?D8 ?D9 ?Da ?Db ?Dc ?Dd ?De ?Df ?Dg ?Dh ?Di ?Dj ?Dk ?Dl ?Dm ?Dn ?Do ?Dp ?Dq ?Dr ?Ds ?Dt ?Du ?Dv ?Dw ?Dx ?Dy ?Dz ?E0 ?E1 ?E2 ?E3 ?E4 ?E5 ?E6 ?E7 ?E8 ?E9 ?Ea ?Eb ?Ec ?Ed ?Ee ?Ef ?Eg ?Eh ?Ei ?Ej ?Ek ?El ?Em ?En ?Eo ?Ep ?Eq ?Er ?Es ?Et ?Eu ?Ev ?Ew ?Ex ?Ey ?Ez ?F0 ?F1 ?F2 ?F3 ?F4 ?F5 ?F6 ?F7 ?F8 ?F9 ?Fa ?Fb ?Fc ?Fd ?Fe ?Ff ?Fg ?Fh ?Fi ?Fj ?Fk ?Fl ?Fm ?Fn ?Fo ?Fp ?Fq ?Fr ?Fs ?Ft ?Fu ?Fv ?Fw ?Fx ?Fy ?Fz ?G0 ?G1 ?G2 ?G3 ?G4 ?G5 ?G6 ?G7 ?G8 ?G9 ?Ga ?Gb ?Gc ?Gd ?Ge ?Gf ?Gg ?Gh ?Gi ?Gj ?Gk ?Gl ?Gm ?Gn ?Go ?Gp ?Gq ?Gr ?Gs ?Gt ?Gu ?Gv ?Gw ?Gx ?Gy ?Gz ?H0 ?H1 ?H2 ?H3 ?H4 ?H5 ?H6 ?H7 ?H8 ?H9 ?Ha ?Hb ?Hc ?Hd ?He ?Hf ?Hg ?Hh ?Hi ?Hj ?Hk ?Hl ?Hm ?Hn ?Ho ?Hp ?Hq ?Hr ?Hs ?Ht ?Hu ?Hv ?Hw ?Hx ?Hy ?Hz ?I0 ?I1 ?I2 ?I3 ?I4 ?I5 ?I6 ?I7 ?I8 ?I9 ?Ia ?Ib ?Ic ?Id ?Ie ?If ?Ig ?Ih ?Ii ?Ij ?Ik ?Il ?Im ?In ?Io ?Ip ?Iq ?Ir ?Is ?It ?Iu ?Iv
  (case A0=>k_is);(case A1=>k_is);(case A2=>k_is);(case A3=>k_is);(case A4=>k_is);(case A5=>k_is);(case A6=>k_is);(case A7=>k_is);(case A8=>k_is);(case A9=>k_is);(case Aa=>k_is);(case Ab=>k_is);(case Ac=>k_is);(case Ad=>k_is);(case Ae=>k_is);(case Af=>k_is);(case Ag=>k_is);(case Ah=>k_is);(case Ai=>k_is);(case Aj=>k_is);(case Ak=>k_is);(case Al=>k_is);(case Am=>k_is);(case An=>k_is);(case Ao=>k_is);(case Ap=>k_is);(case Aq=>k_is);(case Ar=>k_is);(case As=>k_is);(case At=>k_is);(case Au=>k_is);(case Av=>k_is);(case Aw=>k_is);(case Ax=>k_is);(case Ay=>k_is);(case Az=>k_is);(case B0=>k_is);(case B1=>k_is);(case B2=>k_is);(case B3=>k_is);(case B4=>k_is);(case B5=>k_is);(case B6=>k_is);(case B7=>k_is);(case B8=>k_is);(case B9=>k_is);(case Ba=>k_is);(case Bb=>k_is);(case Bc=>k_is);(case Bd=>k_is);(case Be=>k_is);(case Bf=>k_is);(case Bg=>k_is);(case Bh=>k_is);(case Bi=>k_is);(case Bj=>k_is);(case Bk=>k_is);(case Bl=>k_is);(case Bm=>k_is);(case Bn=>k_is);(case Bo=>k_is);(case Bp=>k_is);(case Bq=>k_is);(case Br=>k_is);(case Bs=>k_is);(case Bt=>k_is);(case Bu=>k_is);(case Bv=>k_is);(case Bw=>k_is);(case Bx=>k_is);(case By=>k_is);(case Bz=>k_is);(case C0=>k_is);(case C1=>k_is);(case C2=>k_is);(case C3=>k_is);(case C4=>k_is);(case C5=>k_is);(case C6=>k_is);(case C7=>k_is);(case C8=>k_is);(case C9=>k_is);(case Ca=>k_is);(case Cb=>k_is);(case Cc=>k_is);(case Cd=>k_is);(case Ce=>k_is);(case Cf=>k_is);(case Cg=>k_is);(case Ch=>k_is);(case Ci=>k_is);(case Cj=>k_is);(case Ck=>k_is);(case Cl=>k_is);(case Cm=>k_is);(case Cn=>k_is);(case Co=>k_is);(case Cp=>k_is);(case Cq=>k_is);(case Cr=>k_is);(case Cs=>k_is);(case Ct=>k_is);(case Cu=>k_is);(case Cv=>k_is);(case Cw=>k_is);(case Cx=>k_is);(case Cy=>k_is);(case Cz=>k_is);(case D0=>k_is);(case D1=>k_is);(case D2=>k_is);(case D3=>k_is);(case D4=>k_is);(case D5=>k_is);(case D6=>k_is);(case D7=>k_is);(case D8=>k_is);(case D9=>k_is);(case Da=>k_is);(case Db=>k_is);(case Dc=>k_is);(case Dd=>k_is);(case De=>k_is);(case Df=>k_is);(case Dg=>k_is);(case Dh=>k_is);(case Di=>k_is);(case Dj=>k_is);(case Dk=>k_is);(case Dl=>k_is);(case Dm=>k_is);(case Dn=>k_is);(case Do=>k_is);(case Dp=>k_is);(case Dq=>k_is);(case Dr=>k_is);(case Ds=>k_is);(case Dt=>k_is);(case Du=>k_is);(case Dv=>k_is);(case Dw=>k_is);(case Dx=>k_is);(case Dy=>k_is);(case Dz=>k_is);(case E0=>k_is);(case E1=>k_is);(case E2=>k_is);(case E3=>k_is);(case E4=>k_is);(case E5=>k_is);(case E6=>k_is);(case E7=>k_is);(case E8=>k_is);(case E9=>k_is);(case Ea=>k_is);(case Eb=>k_is);(case Ec=>k_is);(case Ed=>k_is);(case Ee=>k_is);(case Ef=>k_is);(case Eg=>k_is);(case Eh=>k_is);(case Ei=>k_is);(case Ej=>k_is);(case Ek=>k_is);(case El=>k_is);(case Em=>k_is);(case En=>k_is);(case Eo=>k_is);(case Ep=>k_is);(case Eq=>k_is);(case Er=>k_is);(case Es=>k_is);(case Et=>k_is);(case Eu=>k_is);(case Ev=>k_is);(case Ew=>k_is);(case Ex=>k_is);(case Ey=>k_is);(case Ez=>k_is);(case F0=>k_is);(case F1=>k_is);(case F2=>k_is);(case F3=>k_is);(case F4=>k_is);(case F5=>k_is);(case F6=>k_is);(case F7=>k_is);(case F8=>k_is);(case F9=>k_is);(case Fa=>k_is);(case Fb=>k_is);(case Fc=>k_is);(case Fd=>k_is);(case Fe=>k_is);(case Ff=>k_is);(case Fg=>k_is);(case Fh=>k_is);(case Fi=>k_is);(case Fj=>k_is);(case Fk=>k_is);(case Fl=>k_is);(case Fm=>k_is);(case Fn=>k_is);(case Fo=>k_is);(case Fp=>k_is);(case Fq=>k_is);(case Fr=>k_is);(case Fs=>k_is);(case Ft=>k_is);(case Fu=>k_is);(case Fv=>k_is);(case Fw=>k_is);(case Fx=>k_is);(case Fy=>k_is);(case Fz=>k_is);(case G0=>k_is);(case G1=>k_is);(case G2=>k_is);(case G3=>k_is);(case G4=>k_is);(case G5=>k_is);(case G6=>k_is);(case G7=>k_is);(case G8=>k_is);(case G9=>k_is);(case Ga=>k_is);(case Gb=>k_is);(case Gc=>k_is);(case Gd=>k_is);(case Ge=>k_is);(case Gf=>k_is);(case Gg=>k_is);(case Gh=>k_is);(case Gi=>k_is);(case Gj=>k_is);(case Gk=>k_is);(case Gl=>k_is);(case Gm=>k_is);(case Gn=>k_is);(case Go=>k_is);(case Gp=>k_is);(case Gq=>k_is);(case Gr=>k_is);(case Gs=>k_is);(case Gt=>k_is);(case Gu=>k_is);(case Gv=>k_is);(case Gw=>k_is);(case Gx=>k_is);(case Gy=>k_is);(case Gz=>k_is);(case H0=>k_is);(case H1=>k_is);(case H2=>k_is);(case H3=>k_is);(case H4=>k_is);(case H5=>k_is);(case H6=>k_is);(case H7=>k_is);(case H8=>k_is);(case H9=>k_is);(case Ha=>k_is);(case Hb=>k_is);(case Hc=>k_is);(case Hd=>k_is);(case He=>k_is);(case Hf=>k_is);(case Hg=>k_is);(case Hh=>k_is);(case Hi=>k_is);(case Hj=>k_is);(case Hk=>k_is);(case Hl=>k_is);(case Hm=>k_is);(case Hn=>k_is);(case Ho=>k_is);(case Hp=>k_is);(case Hq=>k_is);(case Hr=>k_is);(case Hs=>k_is);(case Ht=>k_is);(case Hu=>k_is);(case Hv=>k_is);(case Hw=>k_is);(case Hx=>k_is);(case Hy=>k_is);(case Hz=>k_is);(case I0=>k_is);(case I1=>k_is);(case I2=>k_is);(case I3=>k_is);(case I4=>k_is);(case I5=>k_is);(case I6=>k_is);(case I7=>k_is);(case I8=>k_is);(case I9=>k_is);(case Ia=>k_is);(case Ib=>k_is);(case Ic=>k_is);(case Id=>k_is);(case Ie=>k_is);(case If=>k_is);(case Ig=>k_is);(case Ih=>k_is);(case Ii=>k_is);(case Ij=>k_is);(case Ik=>k_is);(case Il=>k_is);(case Im=>k_is);(case In=>k_is);(case Io=>k_is);(case Ip=>k_is);(case Iq=>k_is);(case Ir=>k_is);(case Is=>k_is);(case It=>k_is);(case Iu=>k_is);(case Iv=>rfl)
#print axioms PySem.Challenge.cw_trussyard_k53_influence_holds
