import PyProof.Rows.All
import Wide.All
import OpenK.AllK
import Wide.FinOn
import Lean
import PyProof.EqAt
import PyProof.EqKinds
import PyProof.TupleCall
import PyProof.ZipIter
import PyProof.SumWalkG
import PyProof.ListCopy
import PyProof.ListStr
import PyProof.DictItems
import PyProof.DictWalks
import PyProof.DictTruth
import PyProof.EnumMake
import PyProof.InstStoreFacts
import PyProof.Rows.SortWalk
import PyProof.ListRange
import PyProof.DictValues
import KE.KRevSl
import KE.KDictOf
import PyProof.DictIter
import PyProof.FactsAll.dict_1
import PyProof.AttrMissHeap
import KE.KEqDict
import KE.KDictList
import KE.KItemsList
import PySem.Challenge.RW_trussyard_k47_whole_rest_by_motions
set_option Elab.async false
set_option linter.all false
set_option maxRecDepth 100000
theorem gE.{u}{α:Type u}{l:List α}{i:Nat}(h:i < l.length):l[i]? =some l[i]:=List.getElem?_eq_getElem h
namespace PySem.W.Fast
def tw12413382738491254803:Unit:=()
def tw3648508883413659822:Unit:=()
def tw12132358698553805325:Unit:=()
def tw17343501323203061262:Unit:=()
def tw7452677446938009659:Unit:=()
def tw16950426156970056505:Unit:=()
def tw16092039996296937659:Unit:=()
def tw15078593358840686276:Unit:=()
def tw17322021954320703611:Unit:=()
def tw15230568270796213061:Unit:=()
def tw9449828496901837148:Unit:=()
def tw16832218018816743707:Unit:=()
def tw11884671649166001009:Unit:=()
def tw79828578159625797:Unit:=()
def tw12516613058143704039:Unit:=()
def tw11677381163374249285:Unit:=()
def tw14415137845290202746:Unit:=()
def tw9330604797213208272:Unit:=()
def tw12045011971414155386:Unit:=()
def tw1231809980669729999:Unit:=()
def tw11583848748652208796:Unit:=()
def tw11515708855203162773:Unit:=()
def tw8102463085508904685:Unit:=()
def tw16300992015627723119:Unit:=()
def tw7100038453081469227:Unit:=()
def tw3855488513016860762:Unit:=()
def tw3623172389393156458:Unit:=()
def tw298738530540350919:Unit:=()
def tw13160323178663381495:Unit:=()
def tw10936698517625777527:Unit:=()
def tw10165701548633736401:Unit:=()
def tw13413400477243575497:Unit:=()
def tw2441641626085707768:Unit:=()
def tw17010076209515020001:Unit:=()
def tw1373962920902294000:Unit:=()
def tw11477111327942904952:Unit:=()
def tw14647274728247151023:Unit:=()
def tw8898216439915822760:Unit:=()
def tw1043475693265988948:Unit:=()
def tw12105673445595895200:Unit:=()
def tw9171641610646363185:Unit:=()
def tw4600165032811368008:Unit:=()
def tw7637650070965144571:Unit:=()
def tw2799136274219831884:Unit:=()
def tw1288271209347525537:Unit:=()
def tw2581227587328340428:Unit:=()
def tw17307458601461028794:Unit:=()
def tw6321544685006267166:Unit:=()
def tw17640520444867570992:Unit:=()
def tw9184027938875244105:Unit:=()
def tw1135488765429683016:Unit:=()
def tw5407898952465925357:Unit:=()
def tw14711682597375155338:Unit:=()
def tw12732618558490893785:Unit:=()
def tw6740769458877049034:Unit:=()
def tw9185873289435944057:Unit:=()
def tw6143629428480265988:Unit:=()
def tw1257109596079860183:Unit:=()
def tw15681741454430419457:Unit:=()
def tw9936630771859247025:Unit:=()
def tw7455889147187830740:Unit:=()
def tw497044248347711262:Unit:=()
def tw13348832905111629009:Unit:=()
def tw6105794395161458336:Unit:=()
def tw14179819360672201393:Unit:=()
def tw9536768977748468848:Unit:=()
def tw1890490065290043389:Unit:=()
def tw17819485518065020070:Unit:=()
def tw14655582607719858164:Unit:=()
def tw17778051728644240878:Unit:=()
def tw2010940497281790940:Unit:=()
def tw846863877594760862:Unit:=()
def tw2272345665784429686:Unit:=()
def tw5231164753426217630:Unit:=()
def tw14687792221281730918:Unit:=()
def tw3700053383147641344:Unit:=()
def tw17434939703999271553:Unit:=()
def tw17651037848759691152:Unit:=()
def tw854557792602063538:Unit:=()
def tw2318601325313089007:Unit:=()
def tw9412921284932337432:Unit:=()
def tw9462961456406407292:Unit:=()
def tw10459880688560470361:Unit:=()
def tw3528575845659320068:Unit:=()
def tw1170439283970622979:Unit:=()
def tw13214331202259448458:Unit:=()
def tw17339223784663249334:Unit:=()
def tw3914040275890549538:Unit:=()
def tw5545724295261239398:Unit:=()
def tw2762346681754496058:Unit:=()
def tw11256948661292317489:Unit:=()
def tw7673959183236329918:Unit:=()
def tw2288346642239473884:Unit:=()
def tw9112358049409831536:Unit:=()
def tw15924192406003195084:Unit:=()
def tw7038463453825521531:Unit:=()
def tw10251932141567163197:Unit:=()
def tw5855491814114366921:Unit:=()
def tw6983724428845457501:Unit:=()
def tw11503612012707630838:Unit:=()
def tw4549815518789086727:Unit:=()
def tw15858468741926073934:Unit:=()
def tw3601951811975082859:Unit:=()
def tw12937102273543833690:Unit:=()
def tw12731948563916432246:Unit:=()
def tw317177119415983977:Unit:=()
def tw8625413961414372416:Unit:=()
def tw5899327722158652799:Unit:=()
def tw12845426720354154632:Unit:=()
def tw3436763339663824131:Unit:=()
def tw14000835434947109737:Unit:=()
def tw12418620173590961269:Unit:=()
def tw6135824828938094276:Unit:=()
def tw1125173773495516035:Unit:=()
def tw11200158365397000233:Unit:=()
def tw1469196447842283156:Unit:=()
def tw16966652178292254528:Unit:=()
def tw9439583536192136740:Unit:=()
def tw15366254662570194729:Unit:=()
def tw9319362019401754720:Unit:=()
def tw11141577603672554097:Unit:=()
def tw7488978531937370037:Unit:=()
def tw13324359806411168505:Unit:=()
def tw8430070724925328725:Unit:=()
def tw3588959641090374162:Unit:=()
def tw7053495303881324489:Unit:=()
def tw10257429337779669777:Unit:=()
def tw4170106450480427524:Unit:=()
def tw15605269152950093321:Unit:=()
def tw14954616183753911658:Unit:=()
def tw2599380409019193759:Unit:=()
def tw12603534634287093304:Unit:=()
def tw16617450872788945051:Unit:=()
def tw9408044828419281241:Unit:=()
def tw11248045288506678473:Unit:=()
def tw17132523066056745336:Unit:=()
def tw969759138193190608:Unit:=()
def tw8332942167574717137:Unit:=()
def tw3105960856572299577:Unit:=()
def tw17798745119948024386:Unit:=()
def tw15555393879673998780:Unit:=()
def tw7151478724439586291:Unit:=()
def tw9647972837543629349:Unit:=()
def tw9631444127293110981:Unit:=()
def tw13201110175116309359:Unit:=()
def tw1124493214438411407:Unit:=()
def tw6105059020970424782:Unit:=()
def tw7522763647686891142:Unit:=()
def tw7374984461961580736:Unit:=()
def tw2522349680678176338:Unit:=()
def tw6916477429799039194:Unit:=()
def tw16809444967383672280:Unit:=()
def tw9286907546244939748:Unit:=()
def tw7712671213462559950:Unit:=()
def tw5362045559906951601:Unit:=()
def tw4520932851497596448:Unit:=()
def tw6470574394918676943:Unit:=()
def tw2974151612513967317:Unit:=()
def tw6948108392249527088:Unit:=()
def tw4464785770657332886:Unit:=()
def tw5579829101355170565:Unit:=()
def tw315379182643607284:Unit:=()
def tw17559620319346481176:Unit:=()
def tw5469002011457937709:Unit:=()
def tw2460851193091901318:Unit:=()
def tw14407901523922795097:Unit:=()
def tw16632784748507406919:Unit:=()
def tw488405744965058809:Unit:=()
def tw3178077089589251849:Unit:=()
def tw6234595650866383197:Unit:=()
def tw2931270027723932967:Unit:=()
def tw11431637609742490677:Unit:=()
def tw2422215155333912150:Unit:=()
def tw7337806176946268616:Unit:=()
def tw2347336348889465773:Unit:=()
def tw13267697623906334821:Unit:=()
def tw8631901745999671757:Unit:=()
def tw8193782805822667474:Unit:=()
def tw7211027696367432524:Unit:=()
def tw9224917704670711517:Unit:=()
def tw11502122914445472177:Unit:=()
def tw17795790675036670174:Unit:=()
def tw3823766329506079200:Unit:=()
def tw3512646422737366512:Unit:=()
def tw10875235019363301798:Unit:=()
def tw7539044608411399000:Unit:=()
def tw4376796983690311868:Unit:=()
def tw4009773069331351434:Unit:=()
def tw12637180248717206690:Unit:=()
def tw3244878386301985061:Unit:=()
def tw7960717544783648919:Unit:=()
def tw191405357102093599:Unit:=()
def tw6075995662465166760:Unit:=()
def tw9332532103306581745:Unit:=()
def tw16740417199527421096:Unit:=()
def tw7742896745094487621:Unit:=()
def tw10095677679727704805:Unit:=()
def tw2157476643993718384:Unit:=()
def tw12680624898094742075:Unit:=()
def tw158735665301095042:Unit:=()
def tw4487492554327437197:Unit:=()
def tw4288051038466570748:Unit:=()
def tw12929738256501952345:Unit:=()
def tw9675190291240305939:Unit:=()
def tw2032259051275126537:Unit:=()
def tw15824385861833968686:Unit:=()
def tw150756469117326265:Unit:=()
end PySem.W.Fast
open Array renaming length_toList→aeK, toList→am2
open Bool renaming false_ne_true→ads, and_eq_true→ael, false_eq_true→aem, eq_iff_iff→aeA, eq_false_iff→ag_, and_false→alA, or_false→amX, and_true→amY
open Classical renaming byContradiction→adN, propDecidable→ad8, not_imp→alL, not_forall→al'
open Int renaming ne_of_gt→adV, gcd→adW, zero_add→aed, natAbs_mul→aef, gcd_dvd_right→aeq, mul_comm→aer, mul_pos→aes, gcd_dvd_left→aew, fmod_nonneg_of_pos→aey, natAbs_dvd_natAbs→aeC, fdiv_eq_of_eq_mul_right→aeE, natAbs_add_le→aeF, mul_zero→aeP, mul_assoc→alo, fmod_lt_of_pos→alB, mul_neg_of_pos_of_neg→alD, toNat_natCast→alG, lt_trichotomy→alH, mul_eq_zero→al2, natAbs_neg→al8, gcd_zero_right→ame, fmod_def→ami, emod_eq_of_lt→amq, gcd_mul_left→amy, gcd_pos_iff→amE, mul_ne_zero→amF, dvd_coe_gcd→amJ
open List renaming getElem?_eq_some_iff→be, getElem?_map→ir, length_map→Wp, mem_of_getElem?→aa_, mem_map→ab_, getElem?_eq_none→ac_, map_cons→ada, mem_cons_of_mem→ade, getElem?_of_mem→adg, mem_cons_self→adh, mem_singleton→adj, getElem?_append_left→adl, replicate→adn, getD_eq_getElem?_getD→ado, length_append→adp, mem_append→adq, size_toArray→adt, getElem?_append_right→adu, map_append→adv, flatMap_cons→adw, map_congr_left→ady, mem_cons→adz, map_map→adC, mem_append_right→adE, sum_cons→adF, nodup_cons→adH, length_cons→adI, length_take→adJ, mem_append_left→adK, getElem?_set→adM, mem_flatMap→adP, take_length→adQ, getElem?_replicate→adS, ext_getElem?→adT, range→adY, map_nil→adZ, mem_range→ad1, zipWith→ad2, flatMap_append→ad3, mem_iff_getElem→ad9, mem_filter→ad_, length_replicate→ad', getElem_mem→aea, length→aee, append_assoc→aeg, nodup_append→aei, replicate_succ→aej, getElem?_zipWith→aen, lookup→aep, length_eraseIdx→aet, sum_nil→aeu, mem_of_mem_eraseIdx→aev, any_eq_true→aex, getElem?_eraseIdx→aez, find?_cons→aeB, length_filter_le→aeD, take_add_one→aeG, cons_append→aeH, nodup_range→aeI, filterMap_cons→aeJ, any_cons→aeL, nil_append→aeM, flatten_cons→aeO, range_succ_eq_map→aeQ, nodup_nil→aeS, getElem?_inj→aeT, pairwise_map→ae_, take_of_length_le→af_, take_append_drop→ai_, all_eq_true→aj_, filter_cons→ak_, all_cons→aln, append_nil→alr, mem_filterMap→alz, pairwise_iff_getElem→alE, length_range→alK, getElem?_take_of_lt→alN, length_drop→alP, length_eq_zero_iff→alR, length_eraseIdx_le→alS, filter_cons_of_neg→alU, filter_cons_of_pos→alV, getElem?_set_self→alW, zipWith_cons_cons→alY, getElem_cons_drop→alZ, of_mem_zip→al0, length_nil→al1, range_succ→al4, eq_nil_or_concat→al5, concat_eq_append→al6, getElem?_set_ne→al7, getElem?_range→ama, Nodup→amc, forIn_toArray→amd, zip_cons_cons→amf, filter_append→amg, all_map→amj, getElem_take→amn, getElem_inj→amw, lookup_cons→amz, getElem_map→amA, cons_ne_nil→amB, flatMap_nil→amC, forIn_cons→amG, foldl→amM, forIn_nil→amO
open List.Pairwise renaming imp_of_mem→alO
open Nat renaming le_trans→adb, le_refl→adf, lt_of_le_of_lt→adm, lt_of_lt_of_le→adx, pow_le_pow_right→adA, ne_of_lt→adD, zero_le→adL, lt_succ_self→adO, mul_le_mul_right→adR, lt_succ_iff_lt_or_eq→adX, mul_le_mul→ad5, not_lt_zero→ad6, one_le_two_pow→aeb, le_of_lt→aec, lt_succ_of_lt→aeh, lt_irrefl→aek, add_mul→aeN, pow_succ→aeR, pow_add→alq, min_eq_left→alu, pow_le_pow_left→alv, ne_of_gt→alx, mul_comm→aly, le_succ→alF, le_of_not_lt→alQ, le_add_right→alT, add_comm→alX, two_pow_pos→al3, pow_lt_pow_right→al9, one_mul→al_, le_of_eq→amh, lt_trans→amk, le_succ_of_le→amm
open Ne renaming symm→adG
open Option renaming map_eq_some_iff→adk, map_some→aeo, isSome_map→alI, isSome_iff_exists→alM, getD_none→amx, none→anc
open Option.some renaming inj→adB
open Or renaming inl→adi, inr→ad0
open Prod renaming ext→alC, fst→ang, snd→anh
open Prod.mk renaming inj→ano
open Rat renaming intCast_mul→ad7, intCast_le_intCast→ah_, intCast_inj→als, num_divInt_den→amb, divInt_eq_div→aml, intCast_add→amH, intCast_sub→amI
open Sum renaming inr→adU, inl→alw
open Sum.inl renaming inj→alp
open Sum.inr renaming inj→ad4
open PySem.W (Frag nsIn codeIn keepIn fnOf mg_of mg_none_of)
namespace L2
open PySem PySem.Spec PyProof.Rows
abbrev Key:=Sum Int Str
def nK:Key→Value→Bool
 | .inl k,v=>Value.isInt k v
 | .inr x,v=>Value.isStrOf x v
def Vt (w:World):Key→Int
 | .inl k=>hashInt k
 | .inr x=>hashStr w x
theorem bI:∀{k:Key} {v:Value},nK k v=true→(∃i t,k=alw i∧v=Value.int i t)∨(∃x t,k=adU x∧v=Value.str x t)
 | .inl i,v,h=>by
  obtain ⟨t,e⟩:=Value.isInt_shape (k:=i) (v:=v) h
  exact .inl ⟨i,t,rfl,e⟩
 | .inr x,v,h=>by
  obtain ⟨t,e⟩:=Value.isStrOf_shape (x:=x) (v:=v) h
  exact .inr ⟨x,t,rfl,e⟩
theorem w_ (i:Int)(t:Tok):nK (.inl i) (.int i t)=true:=by simp [nK,Value.isInt]
theorem xa (x:Str)(t:Tok):nK (.inr x) (.str x t)=true:=by simp [nK,Value.isStrOf]
theorem Ko (a b:Int):decide ((alw a:Key)=alw b)=(a==b):=by
 by_cases e:a=b
 ·subst e;simp
 ·have h:¬ (alw a:Key)=alw b:=fun q=>e (alp q)
  rw [decide_eq_false h]
  exact (beq_eq_false_iff_ne.mpr e).symm
theorem Kp (a b:Str):decide ((adU a:Key)=adU b)=decide (a=b):=by
 by_cases e:a=b
 ·subst e;simp
 ·have h:¬ (adU a:Key)=adU b:=fun q=>e (ad4 q)
  rw [decide_eq_false h,decide_eq_false e]
theorem Kq (a:Int)(b:Str):decide ((alw a:Key)=adU b)=false:=decide_eq_false (fun q=>nomatch q)
theorem Kr (a:Str)(b:Int):decide ((adU a:Key)=alw b)=false:=decide_eq_false (fun q=>nomatch q)
def aV (prog:Program)(w:World):PySem.KeyKind prog w Key where
 is:=nK
 hash:=Vt w
 inj:=fun v a b ha hb=>by
  rcases bI ha with ⟨i,t,rfl,rfl⟩ | ⟨x,t,rfl,rfl⟩
  ·rcases bI hb with ⟨j,u,rfl,e⟩ | ⟨y,u,rfl,e⟩
   ·injection e with e1 _;rw [e1]
   ·exact nomatch e
  ·rcases bI hb with ⟨j,u,rfl,e⟩ | ⟨y,u,rfl,e⟩
   ·exact nomatch e
   ·injection e with e1 _;rw [e1]
 byValue:=fun k v h=>by
  rcases bI h with ⟨i,t,rfl,rfl⟩ | ⟨x,t,rfl,rfl⟩ <;> rfl
 pyHash:=fun hv h=>by
  rcases bI hv with ⟨i,t,rfl,rfl⟩ | ⟨x,t,rfl,rfl⟩
  ·exact wpAny_pyHash_int h
  ·exact wpAny_pyHash_str h
 eqBool:=fun hu hv h=>by
  rcases bI hu with ⟨i,t,rfl,rfl⟩ | ⟨x,t,rfl,rfl⟩
  ·rcases bI hv with ⟨j,u,rfl,rfl⟩ | ⟨y,u,rfl,rfl⟩
   ·rw [Ko] at h;exact wpAny_eqBool_int h
   ·rw [Kq] at h;exact SeqAt.EqAt.int_str i t y u _ _ _ _ h
  ·rcases bI hv with ⟨j,u,rfl,rfl⟩ | ⟨y,u,rfl,rfl⟩
   ·rw [Kr] at h;exact SeqAt.EqAt.str_int x t j u _ _ _ _ h
   ·rw [Kp] at h;exact wpAny_eqBool_str h
 «strs»:=fun k x t v h=>by
  rcases bI h with ⟨i,u,rfl,e⟩ | ⟨y,u,rfl,e⟩
  ·exact nomatch e
  ·injection e with e1 _
   subst e1
   cases v <;> rfl
theorem rF (prog:Program)(w:World)(i:Int)(t:Tok):(aV prog w).is (.inl i) (.int i t)=true:=w_ i t
theorem rG (prog:Program)(w:World)(x:Str)(t:Tok):(aV prog w).is (.inr x) (.str x t)=true:=xa x t
end L2
namespace L2
open PySem PySem.Spec PyProof.Rows
inductive V where
 | cp | bl (b:Bool) | int (i:Int) | str (x:Str) | byt (b:Array UInt8) | UB (b:UInt64) | ref (a:Addr) | ty (n:String)
 deriving DecidableEq
def RelV:V→Value→Prop
 | .cp,u=>u=Value.none
 | .bl b,u=>u=Value.bool b
 | .int i,u=>∃t,u=Value.int i t
 | .str x,u=>∃t,u=Value.str x t
 | .byt b,u=>∃t,u=Value.bytes b t
 | .UB b,u=>∃t,u=Value.float b t
 | .ref a,u=>u=Value.ref a
 | .ty n,u=>u=Value.type n
abbrev Vals:List V→List Value→Prop:=Paired RelV
theorem Vals.length {xs:List V}{us:List Value}(r:Vals xs us):xs.length=us.length:=Paired.length r
theorem Vals.get:∀{xs:List V} {us:List Value} {i:Nat} {x:V},Vals xs us→xs[i]? =some x→∃u,us[i]? =some u∧RelV x u
 | _,_,_,_,.nil,e=>by simp at e
 | _,_,0,_,.cons r _,e=>by simp at e;subst e;exact ⟨_,rfl,r⟩
 | _,_,i+1,x,.cons _ t,e=>by
  obtain ⟨u,h1,h2⟩:=Vals.get (i:=i) (x:=x) t (by simpa using e)
  exact ⟨u,by simpa using h1,h2⟩
theorem Vals.set {x:V}{u:Value}(r:RelV x u):∀{xs:List V} {us:List Value} (i:Nat),Vals xs us→Vals (xs.set i x) (us.set i u)
 | _,_,_,.nil=>.nil
 | _,_,0,.cons _ t=>.cons r t
 | _,_,i+1,.cons q t=>.cons q (Vals.set r i t)
theorem Vals.append:∀{xs ys:List V} {us ws:List Value},Vals xs us→Vals ys ws→Vals (xs++ys) (us++ws)
 | _,_,_,_,.nil,s=>s
 | _,_,_,_,.cons r t,s=>.cons r (Vals.append t s)
theorem Vals.take:∀{xs:List V} {us:List Value} (n:Nat),Vals xs us→Vals (xs.take n) (us.take n)
 | _,_,0,_=>.nil
 | _,_,_+1,.nil=>.nil
 | _,_,n+1,.cons r t=>.cons r (Vals.take n t)
theorem Vals.drop:∀{xs:List V} {us:List Value} (n:Nat),Vals xs us→Vals (xs.drop n) (us.drop n)
 | _,_,0,r=>r
 | _,_,_+1,.nil=>.nil
 | _,_,n+1,.cons _ t=>Vals.drop n t
def gd:Option V→Option Value→Prop
 | some v,some u=>RelV v u
 | none,none=>True
 | _,_=>False
def KV {κ:Type}:List (κ×V)→List (κ×Value)→Prop:=Paired fun (p:κ×V) (q:κ×Value)=>p.1=q.1∧RelV p.2 q.2
def kV:Key→V
 | .inl i=>.int i
 | .inr x=>.str x
inductive HO where
 | lst (xs:List V)
 | tup (xs:List V)
 | dK (kvs:List (Key×V)) | dT (kvs:List (List Key×V))
 | set (S:Int→Bool) (n:Nat)
 | ins (C dx:Addr) (fs:List (Str×V))
 | own (x:Addr)
 | xd (fs:List (Str×V))
 | met (f x:Addr)
 | Vu (lo hi:Int)
 | bP (o:Obj) (u:HO)
 | Ks (ps:Array Value)
 | ext (φ:Heap→Prop)
abbrev Hp:=Addr→Option HO
def upd (H:Hp)(a:Addr)(o:HO):Hp:=fun b=>if b=a then some o else H b
theorem ag {H:Hp}{a:Addr}{o:HO}:upd H a o a=some o:=by unfold upd;rw [if_pos rfl]
theorem aj {H:Hp}{a b:Addr}{o:HO}(h:b≠a):upd H a o b=H b:=by unfold upd;rw [if_neg h]
theorem Nu {H:Hp}{a b:Addr}{o u:HO}(h:H a=some o)(h' :H b=some u)(d:o≠u):a≠b:=by
 intro e;subst e;rw [h] at h';exact d (adB h')
theorem ao {H:Hp}{a b:Addr}{o:HO}(h:H a=some o)(h' :H b=none):a≠b:=by
 intro e;subst e;rw [h] at h';cases h'
section
variable (P:Program)(w:World)
def bY (H:Hp)(h:Heap)(a:Addr):HO→Prop
 | .lst xs=>xs.length≤sizeLine∧∃(its:List Value) (n:Nat),Vals xs its∧h.get? a=some {cls:=.type "list",data:=.seq its.toArray n}
 | .tup xs=>xs.length≤sizeLine∧∃its:List Value,Vals xs its∧IsTup h a its.toArray
 | .dK kvs=>kvs.length≤sizeLine∧(a==sysModules)=false∧∃vs,KV kvs vs∧h.DictOf (aV P w) a vs
 | .dT kvs=>kvs.length≤sizeLine∧(a==sysModules)=false∧∃xs:List (List Key×Addr×Value),
   Paired (fun (p:List Key×V) (q:List Key×Addr×Value)=>p.1=q.1∧H q.2.1=some (.tup (p.1.map kV))∧RelV p.2 q.2.2) kvs xs∧
   ∃o es ep,h.get? a=some o∧o.ExactDict∧o.data=.dict es ep∧es.toList=xs.map (entryOfKey (tupleKind (aV P w)))∧(xs.map (·.1)).Nodup
 | .set S n=>h.SetOf (intKind P w) a S n
 | .ins C dx fs=>H dx=some (.own a)∧fs.length≤1000∧dx≠a∧h.get? a=some (PySem.W.instObj C dx)∧
   ∃mA,h.Ns1 dx mA∧(∀f,gd (fs.lookup f) (mA f))∧PySem.Within mA (fs.map (·.1))
 | .own _=>∃o,h.get? a=some o
 | .xd fs=>∃mA,h.Ns1 a mA∧∀f,gd (fs.lookup f) (mA f)
 | .Vu lo hi=>∃t u v,h.get? a=some {cls:=.type "range",data:=.fields #[.int lo t,.int hi u,.int 1 v]}
 | .bP o u=>h.get? a=some o∧bY H h a u
 | .Ks ps=>h.get? a=some {cls:=.none,data:=.fields ps}
 | .met f x=>h.get? a=some (PySem.W.methodObj (.ref f) (.ref x))
 | .ext φ=>φ h∧(∃o,h.get? a=some o)∧∀h1 h2:Heap,φ h1→(∀o,h1.get? a=some o→h2.get? a=some o)→φ h2
def gQ (H:Hp)(h:Heap):Prop:=∀a o,H a=some o→bY P w H h a o
end
section
variable {P:Program}{w:World}{H H' :Hp}{h h' :Heap}{a:Addr}{o:HO}
theorem bY.lt (x:bY P w H h a o):a < h.objs.size:=by
 cases o with
 | lst xs=>obtain ⟨_,_,_,_,e⟩:=x;exact Heap.lt_size e
 | tup xs=>obtain ⟨_,_,_,p⟩:=x;exact p.lt
 | dK kvs=>obtain ⟨_,_,_,_,o,_,_,e,_⟩:=x;exact Heap.lt_size e
 | dT kvs=>obtain ⟨_,_,_,_,o,_,_,e,_⟩:=x;exact Heap.lt_size e
 | set S n=>obtain ⟨o,_,_,_,e,_⟩:=x;exact Heap.lt_size e
 | ins C dx fs=>obtain ⟨_,_,_,e,_⟩:=x;exact Heap.lt_size e
 | own y=>obtain ⟨_,e⟩:=x;exact Heap.lt_size e
 | xd fs=>obtain ⟨_,⟨_,_,_,e,_⟩,_⟩:=x;exact Heap.lt_size e
 | Vu lo hi=>obtain ⟨_,_,_,e⟩:=x;exact Heap.lt_size e
 | bP ob u=>obtain ⟨e,_⟩:=x;exact Heap.lt_size e
 | Ks ps=>exact Heap.lt_size (show h.get? a=some _ from x)
 | met f y=>exact Heap.lt_size (show h.get? a=some _ from x)
 | ext φ=>obtain ⟨_,⟨_,e⟩,_⟩:=x;exact Heap.lt_size e
theorem Paired.bZ {α β:Type}{F G:α→β→Prop}:∀{l₁:List α} {l₂:List β},Paired F l₁ l₂→(∀a b,F a b→G a b)→Paired G l₁ l₂
 | _,_,.nil,_=>.nil
 | _,_,.cons r t,f=>.cons (f _ _ r) (Paired.bZ t f)
theorem bY.m4 (x:bY P w H h a o)(k:∀b u,(b=a∨H b=some (.own a))→h.get? b=some u→h'.get? b=some u)
  (ho:∀b,H b=some (.own a)→H' b=some (.own a)) (ht:∀b xs,H b=some (.tup xs)→H' b=some (.tup xs)):bY P w H' h' a o:=by
 induction o with
 | lst xs=>obtain ⟨z,its,n,r,e⟩:=x;exact ⟨z,its,n,r,k _ _ (.inl rfl) e⟩
 | tup xs=>obtain ⟨z,its,r,ob,e,c⟩:=x;exact ⟨z,its,r,ob,k _ _ (.inl rfl) e,c⟩
 | dK kvs=>obtain ⟨z,y,vs,r,ob,es,ep,e,c⟩:=x;exact ⟨z,y,vs,r,ob,es,ep,k _ _ (.inl rfl) e,c⟩
 | dT kvs=>
  obtain ⟨z,y,xs,r,ob,es,ep,e,c⟩:=x
  exact ⟨z,y,xs,Paired.bZ r fun p q z=>⟨z.1,ht _ _ z.2.1,z.2.2⟩,ob,es,ep,k _ _ (.inl rfl) e,c⟩
 | set S n=>obtain ⟨ob,es,ep,t,e,c⟩:=x;exact ⟨ob,es,ep,t,k _ _ (.inl rfl) e,c⟩
 | ins C dx fs=>
  obtain ⟨d,z,ne,e,mA,⟨od,es,ep,e2,c⟩,r⟩:=x
  exact ⟨ho _ d,z,ne,k _ _ (.inl rfl) e,mA,⟨od,es,ep,k _ _ (.inr d) e2,c⟩,r⟩
 | own y=>obtain ⟨ob,e⟩:=x;exact ⟨ob,k _ _ (.inl rfl) e⟩
 | xd fs=>obtain ⟨mA,⟨od,es,ep,e,c⟩,r⟩:=x;exact ⟨mA,⟨od,es,ep,k _ _ (.inl rfl) e,c⟩,r⟩
 | Vu lo hi=>obtain ⟨t,u,v,e⟩:=x;exact ⟨t,u,v,k _ _ (.inl rfl) e⟩
 | bP ob u ih=>obtain ⟨e,q⟩:=x;exact ⟨k _ _ (.inl rfl) e,ih q⟩
 | Ks ps=>
  have e:h.get? a=some {cls:=.none,data:=.fields ps}:=x
  show h'.get? a=some {cls:=.none,data:=.fields ps}
  exact k a _ (.inl rfl) e
 | met f y=>
  have e:h.get? a=some (PySem.W.methodObj (.ref f) (.ref y)):=x
  show h'.get? a=some (PySem.W.methodObj (.ref f) (.ref y))
  exact k a _ (.inl rfl) e
 | ext φ=>obtain ⟨p,⟨o,e⟩,st⟩:=x;exact ⟨st _ _ p fun o q=>k _ _ (.inl rfl) q,⟨o,k _ _ (.inl rfl) e⟩,st⟩
theorem gQ.lt (x:gQ P w H h)(e:H a=some o):a < h.objs.size:=(x a o e).lt
theorem gQ.fresh (x:gQ P w H h)(e:h.objs.size≤a):H a=none:=by
 cases q:H a with
 | none=>rfl
 | some u=>exact absurd (adx (x.lt q) e) (aek _)
theorem gQ.kept (x:gQ P w H h)(k:∀b u,h.get? b=some u→h'.get? b=some u):gQ P w H h' :=fun a o e=>
 (x a o e).m4 (fun b u _ q=>k b u q) (fun _ q=>q) fun _ _ q=>q
theorem gQ.laid (x:gQ P w H h)(k:∀b u,h.get? b=some u→h'.get? b=some u)(hp:h.objs.size≤a)(new:bY P w (upd H a o) h' a o):gQ P w (upd H a o) h' :=fun b u e=>by
 have hn:=x.fresh hp
 by_cases hb:b=a
 ·subst hb;rw [ag] at e;cases e;exact new
 ·rw [aj hb] at e
  exact (x b u e).m4 (fun c v _ q=>k c v q) (fun c q=>by rw [aj (ao q hn)];exact q) fun c xs q=>by rw [aj (ao q hn)];exact q
end
def Rd (H:Hp)(a:Addr)(u:HO):Prop:=H a=some u∨∃o,H a=some (.bP o u)
theorem Rd.of {H:Hp}{a:Addr}{u:HO}(h:H a=some u):Rd H a u:=.inl h
theorem Rd.ok {P:Program}{w:World}{H:Hp}{h:Heap}{a:Addr}{u:HO}(r:Rd H a u)(x:gQ P w H h):bY P w H h a u:=by
 rcases r with r | ⟨o,r⟩
 ·exact x a u r
 ·obtain ⟨_,q⟩:=x a _ r
  exact q
def Nv:Option HO→Prop
 | some (.lst _)=>True
 | some (.dK _)=>True
 | some (.dT _)=>True
 | some (.set _ _)=>True
 | some (.ins _ _ _)=>True
 | some (.ext _)=>True
 | _=>False
section
variable {P:Program}{w:World}{H:Hp}{h h' :Heap}{x e:Addr}{o' :HO}
theorem gQ.write (ok:gQ P w H h)(mu:Nv (H x))(he:e=x∨H e=some (.own x))(k:∀b u,b≠e→h.get? b=some u→h'.get? b=some u)(MX:∃u,h'.get? e=some u)
  (new:bY P w (upd H x o') h' x o'):gQ P w (upd H x o') h' :=fun b u q=>by
 have Nw:∀c y,H c=some (.own y)→c≠x:=fun c y r z=>by subst z;rw [r] at mu;exact mu
 have Vv:∀c xs,H c=some (.tup xs)→c≠x:=fun c xs r z=>by subst z;rw [r] at mu;exact mu
 by_cases hb:b=x
 ·subst hb;rw [ag] at q;cases q;exact new
 ·rw [aj hb] at q
  by_cases Kt:b=e
  ·have q' :H b=some (.own x):=by
    rcases he with z | z
    ·exact absurd (Kt.trans z) hb
    ·rw [Kt];exact z
   rw [q] at q';cases q'
   obtain ⟨v,hv⟩:=MX
   exact ⟨v,by rw [Kt];exact hv⟩
  ·refine (ok b u q).m4 (fun c v hc r=>k c v ?_ r) (fun c r=>by rw [aj (Nw c b r)];exact r) fun c xs r=>by rw [aj (Vv c xs r)];exact r
   rcases hc with rfl | hc
   ·exact Kt
   ·rintro rfl
    rcases he with z | z
    ·exact Nw c b hc z
    ·rw [hc] at z;cases z;exact hb rfl
end
structure Un (fs ex:List Addr)(H H' :Hp)(h h' :Heap):Prop where
 keep:∀b o,h.get? b=some o→H b=none→b∉fs→b∉ex→h'.get? b=some o
 slot:∀b o,h.get? b=some o→H b=none→b∈fs→b∉ex→∃sl,h'.get? b=some {o with slots:=sl}
 free:∀b o,h.get? b=some o→H b=none→b∉ex→H' b=none
 there:∀b o,h.get? b=some o→b∉ex→∃o',h'.get? b=some o'
 oN:∀b xs,H b=some (.tup xs)→H' b=some (.tup xs)
 m5:∀b o u,H b=some (.bP o u)→H' b=some (.bP o u)
 oO:∀b ps,H b=some (.Ks ps)→∃more,H' b=some (.Ks (ps++more))
section
variable {fs fs' ex FN :List Addr}{H H1 H2:Hp}{h h1 h2 h' :Heap}{a x e:Addr}{o:HO}
theorem Un.any (u:Un fs ex H H1 h h1){b:Addr}{ob:Obj}(q:h.get? b=some ob)(n:H b=none)(hx:b∉ex):∃sl,h1.get? b=some {ob with slots:=sl}:=by
 by_cases hb:b∈fs
 ·exact u.slot b ob q n hb hx
 ·exact ⟨ob.slots,u.keep b ob q n hb hx⟩
theorem Un.kept (k:∀b u,h.get? b=some u→h'.get? b=some u):Un fs ex H H h h' :=
 ⟨fun b ob q _ _ _=>k b ob q,fun b ob q _ _ _=>⟨ob.slots,k b ob q⟩,fun _ _ _ n _=>n,fun b ob q _=>⟨ob,k b ob q⟩,fun _ _ q=>q,fun _ _ _ q=>q,fun _ ps q=>⟨#[],by rw [q];simp⟩⟩
theorem Un.refl:Un fs ex H H h h:=Un.kept fun _ _ q=>q
theorem Un.laid (k:∀b u,h.get? b=some u→h'.get? b=some u)(hp:h.objs.size≤a)(hn:H a=none):Un fs ex H (upd H a o) h h' where
 keep:=fun b u q _ _ _=>k b u q
 slot:=fun b u q _ _ _=>⟨u.slots,k b u q⟩
 free:=fun b u q n _=>by rw [aj (adD (adx (Heap.lt_size q) hp))];exact n
 there:=fun b u q _=>⟨u,k b u q⟩
 oN:=fun b xs q=>by rw [aj (ao q hn)];exact q
 m5:=fun b u xs q=>by rw [aj (ao q hn)];exact q
 oO:=fun b ps q=>⟨#[],by rw [aj (ao q hn),q];simp⟩
theorem Un.write (mu:Nv (H x))(he:e=x∨H e=some (.own x))(k:∀b u,b≠e→h.get? b=some u→h'.get? b=some u)(MX:∃u,h'.get? e=some u):Un fs ex H (upd H x o) h h' :=by
 have hx:∀b,H b=none→b≠x:=fun b n z=>by subst z;rw [n] at mu;exact mu
 have hb:∀b,H b=none→b≠e:=fun b n z=>by
  subst z
  rcases he with r | r
  ·exact hx b n r
  ·rw [n] at r;cases r
 have hm:∀b u,H b=some u→¬ Nv (some u)→b≠x:=fun b u q nm z=>by subst z;rw [q] at mu;exact nm mu
 refine ⟨fun b u q n _ _=>k b u (hb b n) q,fun b u q n _ _=>⟨u.slots,k b u (hb b n) q⟩,fun b u q n _=>by rw [aj (hx b n)];exact n,fun b u q _=> ?_,
  fun b xs q=>by rw [aj (hm b _ q fun z=>z)];exact q,fun b u xs q=>by rw [aj (hm b _ q fun z=>z)];exact q,fun b ps q=>⟨#[],by rw [aj (hm b _ q fun z=>z),q];simp⟩⟩
 by_cases Kt:b=e
 ·subst Kt;exact MX
 ·exact ⟨u,k b u Kt q⟩
end
def UC (h:Heap)(H:Hp):List Addr:=(adY h.objs.size).filter fun a=>(H a).isSome
def oP (h:Heap)(H:Hp):Heap:=PySem.W.hideAll h (UC h H)
theorem xf (h:Heap)(H:Hp):(oP h H).objs.size=h.objs.size:=PySem.W.hideAll_size _ _
theorem zH {h:Heap}{H:Hp}{b:Addr}{o:Obj}(e:h.get? b=some o)(n:H b=none):(oP h H).get? b=some o:=
 PySem.W.hideAll_get _ e fun hm=>by
  have q:(H b).isSome=true:=(ad_.mp hm).2
  rw [n] at q;simp at q
theorem FO {h:Heap}{H:Hp}{b:Addr}{o:Obj}(e:(oP h H).get? b=some o):h.get? b=some o∧H b=none:=by
 have e' :h.get? b=some o:=PySem.W.of_hideAll (UC h H) e
 refine ⟨e',?_⟩
 cases q:H b with
 | none=>rfl
 | some x=>
  have hm:b∈UC h H:=ad_.mpr ⟨ad1.mpr (Heap.lt_size e'),by simp [q]⟩
  have z:(oP h H).get? b=none:=PySem.W.hideAll_none (UC h H) hm
  rw [z] at e;cases e
def FP (g h:Heap)(L:Addr):List (Addr×Obj):=(adY h.objs.size).filterMap fun a=>if a=L∨(g.get? a).isSome=true then none else (h.get? a).map fun o=>(a,o)
def rest (g h:Heap)(L d:Addr):List (Addr×Obj):=(FP g h L).filter fun p=>decide (p.1≠d)
end L2
namespace L2
open PySem PySem.Spec PyProof.Rows
structure Mod (K:Frag)(mg:Str→Option Value)(base:Heap):Prop where
 MY:K.In base
 glob:base.Ns mainGlobals mg
 blt:∃mb,base.Ns builtinsNs mb∧∀x:Str,x≠ "__name__"→mb x=bootBuiltins x
 nolimit:base.NoLimit
 seer:base.NoSeer
structure Cx where
 prog:Program
 w:World
 K:Frag
 mg:Str→Option Value
 base:Heap
 A:Around
 N:List Str
 s₀:Shared
 H₀:Hp
 env:Env
 outer:List Env
 stack:List Env
 ex:List Addr
 fn:Str→Bool
 calm:Bool
 pn:List (Addr×Obj)
 xe:Value→Shared→Prop
def vE (l:List Env):List Addr:=l.filterMap (·.frame)
abbrev Cx.fs (X:Cx):List Addr:=vE X.outer
def Vw (sc:Scope)(x:Str):Prop:=sc.names.lookup x=some .local∨sc.names.lookup x=some .cell∨sc.names.lookup x=some .free
def Loc (sc:Scope)(x:Str):Prop:=sc.names.lookup x=some .local∨sc.names.lookup x=some .cell
def Look (env:Env)(h:Heap)(m:Str→Option Value)(x:Str)(u:Value):Prop:=
 (env.kindOf x=some .local∧m x=some u)∨((env.kindOf x=some .cell∨env.kindOf x=some .free)∧∃c,env.cells.lookup x=some c∧h.IsCell c (some u))
structure Cx.Ok (X:Cx):Prop where
 mod:Mod X.K X.mg X.base
 kind:X.env.scope.kind=.function
 glob:X.env.globals=mainGlobals
 blt:X.env.builtins=builtinsNs
 above:X.s₀.heap.objs.size≤X.env.locals
 inj:∀x y c,X.env.cells.lookup x=some c→X.env.cells.lookup y=some c→x=y
 has:∀x,(X.env.kindOf x=some .cell∨X.env.kindOf x=some .free)→∃c,X.env.cells.lookup x=some c
 Ny:∀x c,X.fn x=true→X.env.cells.lookup x=some c→X.s₀.heap.objs.size≤c
 hd:X.calm=true→X.A.handled=none
 frames:X.A.frames=some X.stack
 UD:X.stack=X.outer∨(X.stack=X.env::X.outer∧X.env.frame=some X.env.locals)
 exf:∀b∈X.ex,b≠X.env.locals∧∀x c,X.env.cells.lookup x=some c→c≠b
 bs:∀b o,X.base.get? b=some o→X.s₀.heap.get? b=some o∧X.H₀ b=none
 FQ:X.base.objs.size≤X.s₀.heap.objs.size
 zI:∀b o,X.base.get? b=some o→b∉X.ex
 FR:∀b∈X.ex,b∉X.fs
 j7:X.s₀.heap.FunFrames X.base X.outer
 Ku:∀b∈X.fs,X.H₀ b=none
structure Inv (X:Cx)(pins:List (Addr×Obj))(σ:List (Option V))(H:Hp)(s:Shared):Prop where
 ok:X.Ok
 os:s.os=X.s₀.os
 bare:AllBare s.gens
 base:Un X.fs X.ex X.H₀ H X.s₀.heap s.heap
 loc:∃m,s.heap.Ns X.env.locals m∧∀(i:Nat) (x:Str) (v:V),X.N[i]? =some x→σ[i]? =some (some v)→Vw X.env.scope x→∃u,RelV v u∧Look X.env s.heap m x u
 cell:∀x c,X.env.cells.lookup x=some c→∃v,s.heap.IsCell c v
 free:H X.env.locals=none
 gh:∀x c,X.env.cells.lookup x=some c→H c=none
 pin:∀p∈X.pn++pins,s.heap.get? p.1=some p.2∧H p.1=none∧p.1≠X.env.locals∧p.1∉X.fs∧∀v,p.2.data≠.cell v
 bh:gQ X.prog X.w H s.heap
 len:σ.length=X.N.length
section
variable {X:Cx}{pins:List (Addr×Obj)}{σ:List (Option V)}{H H' :Hp}{s:Shared}{h' :Heap}
theorem Cx.Ok.Vx (ok:X.Ok){b:Addr}{o:Obj}(e:X.base.get? b=some o):b∉X.fs:=fun hb=>by
 have:=(ok.j7.mem hb).1
 rw [e] at this;cases this
theorem Inv.bs (I:Inv X pins σ H s):∀b o,X.base.get? b=some o→s.heap.get? b=some o∧H b=none:=fun b o e=>
 ⟨I.base.keep b o (I.ok.bs b o e).1 (I.ok.bs b o e).2 (I.ok.Vx e) (I.ok.zI b o e),I.base.free b o (I.ok.bs b o e).1 (I.ok.bs b o e).2 (I.ok.zI b o e)⟩
theorem Inv.bk (I:Inv X pins σ H s):∀b o,X.base.get? b=some o→s.heap.get? b=some o:=fun b o e=>(I.bs b o e).1
theorem Inv.mod (I:Inv X pins σ H s):Mod X.K X.mg X.base:=I.ok.mod
theorem Inv.nN (I:Inv X pins σ H s):X.K.In s.heap:=I.ok.mod.MY.keeps I.bk
theorem Inv.nolimit (I:Inv X pins σ H s):s.heap.NoLimit:=I.ok.mod.nolimit.keeps I.bk
theorem Inv.lt (I:Inv X pins σ H s):X.env.locals < s.heap.objs.size:=let ⟨_,hn,_⟩:=I.loc;hn.lt
theorem Inv.sz (I:Inv X pins σ H s):X.s₀.heap.objs.size≤s.heap.objs.size:=adb I.ok.above (aec I.lt)
theorem Inv.Vy (I:Inv X pins σ H s){a:Addr}(h:s.heap.objs.size≤a):a∉X.fs:=fun hb=>by
 obtain ⟨_,o,ho,_⟩:=I.ok.j7.mem hb
 exact absurd (adx (Heap.lt_size ho) (adb I.sz h)) (aek _)
theorem Inv.Kv (I:Inv X pins σ H s):∀x c,X.env.cells.lookup x=some c→c≠X.env.locals:=fun x c e z=>by
 obtain ⟨v,o,ho,hd⟩:=I.cell x c e
 obtain ⟨m,⟨o',es,ep,FT,EB,_⟩,_⟩:=I.loc
 rw [z,FT] at ho;cases ho;rw [EB] at hd;cases hd
theorem Inv.j7 (I:Inv X pins σ H s):s.heap.FunFrames X.base X.outer:=by
 have all:∀(l:List Env),(∀b∈vE l,b∈X.fs)→X.s₀.heap.FunFrames X.base l→s.heap.FunFrames X.base l:=by
  intro l
  induction l with
  | nil=>intro _ _;trivial
  | cons env r ih=>
   intro hs hl
   obtain ⟨hk,⟨L,o,hf,hn,ho,hd⟩,hr⟩:=hl
   have hL:L∈X.fs:=hs L (by unfold vE;rw [aeJ,hf];exact adh)
   obtain ⟨sl,e⟩:=I.base.slot L o ho (I.ok.Ku L hL) hL fun z=>I.ok.FR L z hL
   exact ⟨hk,⟨L,_,hf,hn,e,hd⟩,ih (fun b hb=>hs b (by unfold vE;rw [aeJ,hf];exact ade _ hb)) hr⟩
 exact all X.outer (fun _ hb=>hb) I.ok.j7
theorem Inv.stack (I:Inv X pins σ H s):s.heap.FunFrames X.base X.stack:=by
 rcases I.ok.UD with e | ⟨e,hf⟩
 ·rw [e];exact I.j7
 ·rw [e]
  obtain ⟨m,hn,_⟩:=I.loc
  refine .cons (by rw [I.ok.kind];decide) hf hn ?_ I.j7
  exact Heap.get?_none_of_le (adb I.ok.FQ I.ok.above)
theorem Inv.uo (I:Inv X pins σ H s):∀b∈vE X.stack,b∈X.env.locals::X.fs:=fun b hb=>by
 rcases I.ok.UD with e | ⟨e,hf⟩
 ·rw [e] at hb;exact ade _ hb
 ·rw [e] at hb
  unfold vE at hb
  rw [aeJ,hf] at hb
  exact hb
theorem Inv.vF (I:Inv X pins σ H s):∀b∈vE X.stack,H b=none:=fun b hb=>by
 rcases adz.mp (I.uo b hb) with e | hb
 ·rw [e];exact I.free
 ·obtain ⟨_,o,ho,_⟩:=I.ok.j7.mem hb
  exact I.base.free b o ho (I.ok.Ku b hb) fun z=>I.ok.FR b z hb
theorem Inv.step {g' :Array GenState}{t' :Nat}{d' :Drawn}{ch:List Addr}(I:Inv X pins σ H s)
  (EC:∀b∈ch,(b∈X.ex∨X.s₀.heap.objs.size≤b)∧b≠X.env.locals∧(∀x c,X.env.cells.lookup x=some c→c≠b)∧∀p∈X.pn++pins,p.1≠b)
  (keep:∀b o,b≠X.env.locals→b∉X.fs→b∉ch→s.heap.get? b=some o→H b=none→h'.get? b=some o)
  (slot:∀b o,b≠X.env.locals→b∈X.fs→b∉ch→s.heap.get? b=some o→H b=none→∃sl,h'.get? b=some {o with slots:=sl}) (free:∀b o,b∉ch→s.heap.get? b=some o→H b=none→H' b=none)
  (there:∀b o,b∉ch→s.heap.get? b=some o→∃o',h'.get? b=some o')
  (oN:∀b xs,H b=some (.tup xs)→H' b=some (.tup xs)) (m5:∀b o u,H b=some (.bP o u)→H' b=some (.bP o u)) (oO:∀b ps,H b=some (.Ks ps)→∃more,H' b=some (.Ks (ps++more)))
  (ns:∀m,s.heap.Ns X.env.locals m→h'.Ns X.env.locals m) (bh:gQ X.prog X.w H' h') (hg:AllBare g'):
  Inv X pins σ H' {s with heap:=h',gens:=g',drawn:=d',toks:=t' }:=by
 have neL:∀b o,X.s₀.heap.get? b=some o→b≠X.env.locals:=fun b o e=>adD (adx (Heap.lt_size e) I.ok.above)
 have UE:∀b o,X.s₀.heap.get? b=some o→b∉X.ex→b∉ch:=fun b o e hx hb=>by
  rcases (EC b hb).1 with z | z
  ·exact hx z
  ·exact absurd (adx (Heap.lt_size e) z) (aek _)
 have cellK:∀x c,X.env.cells.lookup x=some c→∀v,s.heap.IsCell c v→h'.IsCell c v:=fun x c e v ⟨o,ho,hd⟩=>by
  have Nz:c∉ch:=fun z=>(EC c z).2.2.1 x c e rfl
  by_cases hc:c∈X.fs
  ·obtain ⟨sl,q⟩:=slot c o (I.Kv x c e) hc Nz ho (I.gh x c e)
   exact ⟨_,q,hd⟩
  ·exact ⟨o,keep c o (I.Kv x c e) hc Nz ho (I.gh x c e),hd⟩
 refine ⟨I.ok,I.os,hg,⟨fun b o e n hb hx=> ?_,fun b o e n hb hx=> ?_,fun b o e n hx=> ?_,fun b o e hx=> ?_,fun b xs e=>oN b xs (I.base.oN b xs e),fun b o xs e=>m5 b o xs (I.base.m5 b o xs e),fun b ps e=> ?_⟩,?_,fun x c e=> ?_,?_,fun x c e=> ?_,fun p hp=> ?_,bh,I.len⟩
 ·exact keep b o (neL b o e) hb (UE b o e hx) (I.base.keep b o e n hb hx) (I.base.free b o e n hx)
 ·obtain ⟨sl,e1⟩:=I.base.slot b o e n hb hx
  obtain ⟨sl',e2⟩:=slot b _ (neL b o e) hb (UE b o e hx) e1 (I.base.free b o e n hx)
  exact ⟨sl',e2⟩
 ·obtain ⟨o',e1⟩:=I.base.there b o e hx
  exact free b o' (UE b o e hx) e1 (I.base.free b o e n hx)
 ·obtain ⟨o',e1⟩:=I.base.there b o e hx
  exact there b o' (UE b o e hx) e1
 ·obtain ⟨m1,e1⟩:=I.base.oO b ps e
  obtain ⟨m2,e2⟩:=oO b _ e1
  exact ⟨m1++m2,by rw [e2,Array.append_assoc]⟩
 ·obtain ⟨m,hn,hl⟩:=I.loc
  refine ⟨m,ns m hn,fun i x v e1 e2 e3=> ?_⟩
  obtain ⟨u,r,l⟩:=hl i x v e1 e2 e3
  refine ⟨u,r,?_⟩
  rcases l with l | ⟨k,c,e,z⟩
  ·exact .inl l
  ·exact .inr ⟨k,c,e,cellK x c e _ z⟩
 ·obtain ⟨v,z⟩:=I.cell x c e
  exact ⟨v,cellK x c e v z⟩
 ·obtain ⟨m,⟨o,_,_,ho,_⟩,_⟩:=I.loc
  exact free _ o (fun z=>(EC _ z).2.1 rfl) ho I.free
 ·obtain ⟨v,o,ho,hd⟩:=I.cell x c e
  exact free c o (fun z=>(EC c z).2.2.1 x c e rfl) ho (I.gh x c e)
 ·obtain ⟨e,n,ne,nf,d⟩:=I.pin p hp
  have Nz:p.1∉ch:=fun z=>(EC p.1 z).2.2.2 p hp rfl
  exact ⟨keep p.1 p.2 ne nf Nz e n,free p.1 p.2 Nz e n,ne,nf,d⟩
theorem Inv.un {t' :Nat}(I:Inv X pins σ H s)(u:Un X.fs [] H H' s.heap h')(bh:gQ X.prog X.w H' h'):Inv X pins σ H' {s with heap:=h',toks:=t' }:=by
 obtain ⟨m,⟨o,es,ep,ho,r⟩,_⟩:=id I.loc
 obtain ⟨sl,hL⟩:=u.any ho I.free (by simp)
 exact I.step (g' :=s.gens) (d' :=s.drawn) (ch:=[]) (fun _ z=>nomatch z) (fun b o _ hb _ e n=>u.keep b o e n hb (by simp)) (fun b o _ hb _ e n=>u.slot b o e n hb (by simp)) (fun b o _ e n=>u.free b o e n (by simp)) (fun b o _ e=>u.there b o e (by simp)) u.oN u.m5 u.oO (fun m' hm=>by
  obtain ⟨o',Vz,uq,FT,r'⟩:=hm
  rw [ho] at FT;cases FT
  exact ⟨_,Vz,uq,hL,r'⟩) bh I.bare
theorem Inv.call {g' :Array GenState}{t' :Nat}{d' :Drawn}{ch:List Addr}(I:Inv X pins σ H s)(u:Un (vE X.stack) ch H H' s.heap h')(bh:gQ X.prog X.w H' h')(hg:AllBare g')
  (EC:∀b∈ch,(b∈X.ex∨X.s₀.heap.objs.size≤b)∧b≠X.env.locals∧(∀x c,X.env.cells.lookup x=some c→c≠b)∧∀p∈X.pn++pins,p.1≠b):
  Inv X pins σ H' {s with heap:=h',gens:=g',drawn:=d',toks:=t' }:=by
 obtain ⟨m,⟨o,es,ep,ho,r⟩,_⟩:=id I.loc
 obtain ⟨sl,hL⟩:=u.any ho I.free fun z=>(EC _ z).2.1 rfl
 exact I.step (ch:=ch) EC (fun b o hL hb hc e n=>u.keep b o e n (fun z=>(adz.mp (I.uo b z)).elim hL hb) hc) (fun b o _ _ hc e n=>u.any e n hc) (fun b o hc e n=>u.free b o e n hc) (fun b o hc e=>u.there b o e hc) u.oN u.m5 u.oO (fun m' hm=>by
  obtain ⟨o',Vz,uq,FT,r'⟩:=hm
  rw [ho] at FT;cases FT
  exact ⟨_,Vz,uq,hL,r'⟩) bh hg
theorem Inv.turned {t' :Nat}{it:Addr}(I:Inv X pins σ H s)(k:∀b o,b≠it→s.heap.get? b=some o→h'.get? b=some o)(hn:H it=none)(hL:it≠X.env.locals)
  (h1:it∈X.ex∨X.s₀.heap.objs.size≤it) (h2:∀x c,X.env.cells.lookup x=some c→c≠it) (h3:∀p∈X.pn++pins,p.1≠it):Inv X pins σ H {s with heap:=h',toks:=t' }:=by
 have Jr:∀b u,H b=some u→b≠it:=fun b u e z=>by rw [z,hn] at e;cases e
 refine I.step (g' :=s.gens) (d' :=s.drawn) (ch:=[it]) (fun b hb=> ?_) (fun b o _ _ hc e _=>k b o (fun z=>hc (by simp [z])) e) (fun b o _ _ hc e _=>⟨o.slots,k b o (fun z=>hc (by simp [z])) e⟩) (fun _ _ _ _ n=>n)
  (fun b o hc e=>⟨o,k b o (fun z=>hc (by simp [z])) e⟩) (fun _ _ e=>e) (fun _ _ _ e=>e) (fun b ps e=>⟨#[],by rw [e];simp⟩) (fun m hm=> ?_) (fun b u e=> ?_) I.bare
 ·have e:b=it:=by simpa using hb
  subst e
  exact ⟨h1,hL,h2,h3⟩
 ·obtain ⟨o,es,ep,ho,r⟩:=hm
  exact ⟨o,es,ep,k _ o (adG hL) ho,r⟩
 ·refine (I.bh b u e).m4 (fun c v hc q=>k c v ?_ q) (fun _ q=>q) fun _ _ q=>q
  rcases hc with z | z
  ·rw [z];exact Jr b u e
  ·exact Jr c _ z
theorem Inv.tok (I:Inv X pins σ H s)(t:Nat):Inv X pins σ H {s with toks:=t}:=I.un (h' :=s.heap) (t' :=t) Un.refl I.bh
theorem Inv.kept {t' :Nat}(I:Inv X pins σ H s)(k:∀b u,s.heap.get? b=some u→h'.get? b=some u):Inv X pins σ H {s with heap:=h',toks:=t' }:=I.un (Un.kept k) (I.bh.kept k)
theorem Inv.laid {a:Addr}{o:HO}{t' :Nat}(I:Inv X pins σ H s)(k:∀b u,s.heap.get? b=some u→h'.get? b=some u)(hp:s.heap.objs.size≤a)(new:bY X.prog X.w (upd H a o) h' a o):
  Inv X pins σ (upd H a o) {s with heap:=h',toks:=t' }:=I.un (Un.laid k hp (I.bh.fresh hp)) (I.bh.laid k hp new)
theorem Inv.write {x e:Addr}{o:HO}{t' :Nat}(I:Inv X pins σ H s)(mu:Nv (H x))(he:e=x∨H e=some (.own x))(k:∀b u,b≠e→s.heap.get? b=some u→h'.get? b=some u)(MX:∃u,h'.get? e=some u)
  (new:bY X.prog X.w (upd H x o) h' x o):Inv X pins σ (upd H x o) {s with heap:=h',toks:=t' }:=I.un (Un.write mu he k MX) (I.bh.write mu he k MX new)
theorem Inv.vG {Js :List (Addr×Obj)}(I:Inv X pins σ H s)(h:∀p∈Js,s.heap.get? p.1=some p.2∧H p.1=none∧p.1≠X.env.locals∧p.1∉X.fs∧∀v,p.2.data≠.cell v):Inv X Js σ H s:=
 ⟨I.ok,I.os,I.bare,I.base,I.loc,I.cell,I.free,I.gh,fun p hp=>(adq.mp hp).elim (fun z=>I.pin p (adK _ z)) (h p),I.bh,I.len⟩
theorem ff {N:List Str}(hN:N.Nodup){i j:Nat}{x:Str}(a:N[i]? =some x)(b:N[j]? =some x):i=j:=by
 obtain ⟨h1,e1⟩:=be.mp a
 obtain ⟨h2,e2⟩:=be.mp b
 exact (amw hN).mp (e1.trans e2.symm)
theorem nO {M:Model}{A:Around}{E:Value→Shared→Prop}{i:Nat}{x:Str}{v:V}{u:Value}{Q:Unit→Shared→Prop}(I:Inv X pins σ H s)(hN:X.N.Nodup)(hi:X.N[i]? =some x)(hx:Loc X.env.scope x)(r:RelV v u)
  (h:∀s',Inv X pins (σ.set i (some v)) H s' →(∃a,Heap.SameBut a s.heap s'.heap∧(a=X.env.locals∨X.env.cells.lookup x=some a))→Q () s') (hf:X.fn x=true∨X.env.scope.names.lookup x=some .local:=by first | exact .inl rfl | exact .inr rfl | assumption):wpAny M A (storeName X.env x u) Q E s:=by
 obtain ⟨m,hn,hl⟩:=id I.loc
 have VA:(X.env.scope.kind==.class || (X.env.scope.kind==.module && X.env.locals !=X.env.globals))=false:=by rw [I.ok.kind];rfl
 have hiσ:i < σ.length:=by rw [I.len];exact (be.mp hi).1
 have Kv:=I.Kv
 have tracked:∀{a:Addr} {h' :Heap},(∃o,s.heap.get? a=some o∧H a=none)→Heap.SameBut a s.heap h' →gQ X.prog X.w H h' :=fun {a h'} ha hs b ob e=>by
  obtain ⟨_,_,Jt⟩:=ha
  refine (I.bh b ob e).m4 (fun c w' hc q=>(hs.2 c ?_).trans q) (fun _ q=>q) fun _ _ q=>q
  rintro rfl
  rcases hc with rfl | hc
  ·rw [Jt] at e;cases e
  ·rw [Jt] at hc;cases hc
 rcases hx with hk | hk
 ·refine wpAny_storeName_local hk hn (fun h' VB hs=> ?_) VA
  obtain ⟨oL,_,_,hoL,_⟩:=id hn
  refine h _ ⟨I.ok,I.os,I.bare,⟨fun b o e n hb hx=> ?_,fun b o e n hb hx=> ?_,I.base.free,fun b o e hx=> ?_,I.base.oN,I.base.m5,I.base.oO⟩,⟨_,VB,fun j y v' e1 e2 e3=> ?_⟩,fun y c e=> ?_,I.free,I.gh,fun p hp=> ?_,tracked ⟨oL,hoL,I.free⟩ hs,by simpa using I.len⟩ ⟨_,hs,.inl rfl⟩
  ·exact (hs.2 b (adD (adx (Heap.lt_size e) I.ok.above))).trans (I.base.keep b o e n hb hx)
  ·obtain ⟨sl,e1⟩:=I.base.slot b o e n hb hx
   exact ⟨sl,(hs.2 b (adD (adx (Heap.lt_size e) I.ok.above))).trans e1⟩
  ·obtain ⟨o',e1⟩:=I.base.there b o e hx
   exact ⟨o',(hs.2 b (adD (adx (Heap.lt_size e) I.ok.above))).trans e1⟩
  ·by_cases hj:j=i
   ·subst hj
    rw [hi] at e1;cases e1
    rw [alW hiσ] at e2
    cases e2
    exact ⟨u,r,.inl ⟨hk,by simp⟩⟩
   ·rw [al7 (adG hj)] at e2
    obtain ⟨u',r',q⟩:=hl j y v' e1 e2 e3
    refine ⟨u',r',?_⟩
    rcases q with ⟨k,e⟩ | ⟨k,c,e,z⟩
    ·refine .inl ⟨k,?_⟩
     have:y≠x:=fun e=>hj (ff hN e1 (e▸hi))
     simp [this,e]
    ·exact .inr ⟨k,c,e,z.sameBut hs (Kv y c e)⟩
  ·obtain ⟨w',z⟩:=I.cell y c e
   exact ⟨w',z.sameBut hs (Kv y c e)⟩
  ·obtain ⟨e,n,ne,nf,d⟩:=I.pin p hp
   exact ⟨(hs.2 p.1 ne).trans e,n,ne,nf,d⟩
 ·have VC:X.fn x=true:=by
   rcases hf with z | z
   ·exact z
   ·rw [z] at hk;cases hk
  obtain ⟨c,hc⟩:=I.ok.has x (.inl hk)
  obtain ⟨w',z⟩:=I.cell x c hc
  refine wpAny_storeName_cell I.ok.kind hk hc z (fun h' rq hs=> ?_)
  obtain ⟨oc,hoc,VD⟩:=id z
  refine h {s with heap:=h' } ⟨I.ok,I.os,I.bare,⟨fun b o e n hb hx=> ?_,fun b o e n hb hx=> ?_,I.base.free,fun b o e hx=> ?_,I.base.oN,I.base.m5,I.base.oO⟩,⟨m,hn.sameBut hs (adG (Kv x c hc)),fun j y v' e1 e2 e3=> ?_⟩,fun y c' e=> ?_,I.free,I.gh,fun p hp=> ?_,tracked ⟨oc,hoc,I.gh x c hc⟩ hs,by simpa using I.len⟩ ⟨c,hs,.inr hc⟩
  ·exact (hs.2 b (adD (adx (Heap.lt_size e) (I.ok.Ny x c VC hc)))).trans (I.base.keep b o e n hb hx)
  ·obtain ⟨sl,e1⟩:=I.base.slot b o e n hb hx
   exact ⟨sl,(hs.2 b (adD (adx (Heap.lt_size e) (I.ok.Ny x c VC hc)))).trans e1⟩
  ·obtain ⟨o',e1⟩:=I.base.there b o e hx
   exact ⟨o',(hs.2 b (adD (adx (Heap.lt_size e) (I.ok.Ny x c VC hc)))).trans e1⟩
  ·by_cases hj:j=i
   ·subst hj
    rw [hi] at e1;cases e1
    rw [alW hiσ] at e2
    cases e2
    exact ⟨u,r,.inr ⟨.inl hk,c,hc,rq⟩⟩
   ·rw [al7 (adG hj)] at e2
    obtain ⟨u',r',q⟩:=hl j y v' e1 e2 e3
    refine ⟨u',r',?_⟩
    rcases q with q | ⟨k,c',e,z'⟩
    ·exact .inl q
    ·refine .inr ⟨k,c',e,z'.sameBut hs ?_⟩
     rintro rfl
     exact hj (ff hN e1 (I.ok.inj _ _ _ e hc▸hi))
  ·by_cases UG:c' =c
   ·subst UG;exact ⟨_,rq⟩
   ·obtain ⟨w2,z2⟩:=I.cell y c' e
    exact ⟨w2,z2.sameBut hs UG⟩
  ·obtain ⟨e,n,ne,nf,d⟩:=I.pin p hp
   refine ⟨(hs.2 p.1 ?_).trans e,n,ne,nf,d⟩
   intro q
   rw [q,hoc] at e
   have q' :oc=p.2:=adB e
   exact d w' (by rw [← q'];exact VD)
theorem ik {M:Model}{A:Around}{E:Value→Shared→Prop}{i:Nat}{x:Str}{v:V}{u:Value}{Q:Unit→Shared→Prop}(I:Inv X pins σ H s)(hN:X.N.Nodup)(hi:X.N[i]? =some x)(hx:Loc X.env.scope x)(r:RelV v u)
  (h:∀s',Inv X pins (σ.set i (some v)) H s' →Q () s') (hf:X.fn x=true∨X.env.scope.names.lookup x=some .local:=by first | exact .inl rfl | exact .inr rfl | assumption):wpAny M A (storeName X.env x u) Q E s:=
 nO I hN hi hx r (fun s' I' _=>h s' I') hf
theorem Inv.NA {s' :Shared}{ch:List Addr}(I:Inv X pins σ H s)(ho:s'.os=s.os)(u:Un (vE X.stack) ch H H' s.heap s'.heap)(bh:gQ X.prog X.w H' s'.heap)(hg:AllBare s'.gens)
  (EC:∀b∈ch,(b∈X.ex∨X.s₀.heap.objs.size≤b)∧b≠X.env.locals∧(∀x c,X.env.cells.lookup x=some c→c≠b)∧∀p∈X.pn++pins,p.1≠b):Inv X pins σ H' s' :=by
 obtain ⟨h',g',d',t',o'⟩:=s'
 have e:o' =s.os:=ho
 subst e
 exact I.call (g' :=g') (t' :=t') (d' :=d') u bh hg EC
end
abbrev XK:=Value→Option Addr→Hp→Prop
abbrev St:=List (Option V)
abbrev VK:=V→Hp→Prop
abbrev TE:=St→Hp→VK→Prop
abbrev TT:=St→Hp→(Bool→Hp→Prop)→Prop
abbrev TA:=St→Hp→(List V→Hp→Prop)→Prop
structure Ends where
 nx:St→Hp→Prop
 rt:VK
 bk:St→Hp→Prop:=fun _ _=>False
 ct:St→Hp→Prop:=fun _ _=>False
abbrev TS:=Ends→St→Hp→Prop
def EP (X:Cx)(pins:List (Addr×Obj))(σ:St)(Q:VK)(u:Value)(s' :Shared):Prop:=∃v H',Inv X pins σ H' s' ∧RelV v u∧Q v H'
def TP (X:Cx)(pins:List (Addr×Obj))(σ:St)(Q:Bool→Hp→Prop)(b:Bool)(s' :Shared):Prop:=∃H',Inv X pins σ H' s' ∧Q b H'
def AP (X:Cx)(pins:List (Addr×Obj))(σ:St)(Q:List V→Hp→Prop)(us:List Value)(s' :Shared):Prop:=∃vs H',Inv X pins σ H' s' ∧Vals vs us∧Q vs H'
def SP (X:Cx)(pins:List (Addr×Obj))(D:Ends)(f:Flow)(s' :Shared):Prop:=
 match f with
 | .next=>∃σ' H',Inv X pins σ' H' s' ∧D.nx σ' H'
 | .brk=>∃σ' H',Inv X pins σ' H' s' ∧D.bk σ' H'
 | .cont=>∃σ' H',Inv X pins σ' H' s' ∧D.ct σ' H'
 | .ret u=>∃v σ' H',Inv X pins σ' H' s' ∧RelV v u∧D.rt v H'
def PE (X:Cx)(e:Expr)(t:TE):Prop:=
 ∀(pins:List (Addr×Obj)) (s:Shared) (σ:St) (H:Hp) (Q:VK),Inv X pins σ H s→t σ H Q→wpAny (model X.prog X.w) X.A (eval e X.env) (EP X pins σ Q) X.xe s
def PT (X:Cx)(e:Expr)(t:TT):Prop:=
 ∀(pins:List (Addr×Obj)) (s:Shared) (σ:St) (H:Hp) (Q:Bool→Hp→Prop),Inv X pins σ H s→t σ H Q→wpAny (model X.prog X.w) X.A (isTrue e X.env (eval e X.env)) (TP X pins σ Q) X.xe s
def PW (X:Cx)(e:Expr)(t:TT):Prop:=
 ∀(whole:Sem Value) (pins:List (Addr×Obj)) (s:Shared) (σ:St) (H:Hp) (Q:Bool→Hp→Prop),Inv X pins σ H s→t σ H Q→wpAny (model X.prog X.w) X.A (isTrue e X.env whole) (TP X pins σ Q) X.xe s
theorem PW.pt {X:Cx}{e:Expr}{t:TT}(h:PW X e t):PT X e t:=h _
def PA (X:Cx)(es:List Expr)(t:TA):Prop:=
 ∀(pos:Pos) (pins:List (Addr×Obj)) (s:Shared) (σ:St) (H:Hp) (Q:List V→Hp→Prop),Inv X pins σ H s→t σ H Q→wpAny (model X.prog X.w) X.A (spliced (backTo pos (starEach es X.env))) (AP X pins σ Q) X.xe s
def PS (X:Cx)(st:Stmt)(t:TS):Prop:=
 ∀(pins:List (Addr×Obj)) (s:Shared) (σ:St) (H:Hp) (D:Ends),Inv X pins σ H s→t D σ H→wpAny (model X.prog X.w) X.A (exec st X.env) (SP X pins D) X.xe s
def PSs (X:Cx)(st:List Stmt)(t:TS):Prop:=
 ∀(pins:List (Addr×Obj)) (s:Shared) (σ:St) (H:Hp) (D:Ends),Inv X pins σ H s→t D σ H→wpAny (model X.prog X.w) X.A (execs st X.env) (SP X pins D) X.xe s
theorem bK {α:Type}{t:Sem α}{Q Q' :α→Shared→Prop}{M:Model}{A:Around}{E:Value→Shared→Prop}{s:Shared}(h:wpAny M A t Q E s)(hQ:∀a s,Q a s→Q' a s):wpAny M A t Q' E s:=wpAny_mono h hQ fun _ _ x=>x
end L2
namespace L2
open PySem PySem.Spec PyProof.Rows
section
variable {X:Cx}
inductive Kw (i:Nat)(σ:St)(H:Hp)(Q:VK):Prop where
 | mk (v:_) (_:σ[i]? =some (some v)) (_:Q v H):Kw i σ H Q
def tC (v:V):TE:=fun _ H Q=>Q v H
theorem Kx {i:Nat}{x:Str}{pos:Pos}(hN:X.N[i]? =some x)(hv:Vw X.env.scope x)(hd:(x==("__debug__":Str))=false:=by decide)(m6:(x==("__classdict__":Str))=false:=by decide):PE X (.Name x pos) (Kw i):=by
 intro pins s σ H Q I h
 obtain ⟨v,e,h⟩:=h
 obtain ⟨m,hn,hl⟩:=I.loc
 obtain ⟨u,r,l⟩:=hl i x v hN e hv
 have fin:EP X pins σ Q u s:=⟨v,H,I,r,h⟩
 rcases l with ⟨hk,hm⟩ | ⟨hk,c,hc,hcell⟩
 ·exact wpAny_Name (wpAny_loadName_local I.ok.kind hk hn hm fin) hd
 ·rcases hk with hk | hk
  ·exact wpAny_Name (wpAny_loadName_cell I.ok.kind hk hc hcell fin) hd
  ·exact wpAny_Name (wpAny_loadName_free I.ok.kind hk hc hcell fin m6) hd
theorem ah {i j pos}:PE X (.Constant (.int i) j pos) (tC (.int i)):=fun _ _ _ H _ I h=>wpAny_Constant_int ⟨.int i,H,I.tok _,⟨_,rfl⟩,h⟩
theorem zJ {b j pos}:PE X (.Constant (.bool b) j pos) (tC (.bl b)):=fun _ _ _ H _ I h=>Constant_bool ⟨.bl b,H,I,rfl,h⟩
theorem kR {j pos}:PE X (.Constant .none j pos) (tC .cp):=fun _ _ _ H _ I h=>Constant_none ⟨.cp,H,I,rfl,h⟩
theorem dH {x j pos}:PE X (.Constant (.str x) j pos) (tC (.str x)):=fun _ _ _ H _ I h=>Calls.Constant_str ⟨.str x,H,I.tok _,⟨_,rfl⟩,h⟩
def Gl (X:Cx)(x:Str):Prop:=X.env.kindOf x=some .globalImplicit
theorem ip {E:Value→Shared→Prop}{pins:List (Addr×Obj)}{s:Shared}{σ:St}{H:Hp}{x:Str}{u:Value}{pos:Pos}{Q:Value→Shared→Prop}(I:Inv X pins σ H s)(hg:Gl X x)(hm:X.mg x=some u)(h:Q u s)
  (hd:(x==("__debug__":Str))=false:=by decide):wpAny (model X.prog X.w) X.A (eval (.Name x pos) X.env) Q E s:=
 Calls.Name_function_global I.ok.kind hg (Calls.loadGlobal_global (by rw [I.ok.glob];exact I.mod.glob.keeps I.bk) hm h) hd
theorem gi {E:Value→Shared→Prop}{pins:List (Addr×Obj)}{s:Shared}{σ:St}{H:Hp}{x:Str}{u:Value}{pos:Pos}{Q:Value→Shared→Prop}(I:Inv X pins σ H s)(hg:Gl X x)(hm:X.mg x=none)(hv:bootBuiltins x=some u)(h:Q u s)
  (hn:x≠ "__name__":=by decide) (hd:(x==("__debug__":Str))=false:=by decide):wpAny (model X.prog X.w) X.A (eval (.Name x pos) X.env) Q E s:=by
 obtain ⟨mb,h1,h2⟩:=I.mod.blt
 exact Calls.Name_function_global I.ok.kind hg (Calls.loadGlobal_builtin (by rw [I.ok.glob];exact I.mod.glob.keeps I.bk) hm (by rw [I.ok.blt];exact h1.keeps I.bk) ((h2 x hn).trans hv) h) hd
theorem eL {x:Str}{v:V}{u:Value}{pos:Pos}(hg:Gl X x)(hm:X.mg x=some u)(r:RelV v u)(hd:(x==("__debug__":Str))=false:=by decide):PE X (.Name x pos) (tC v):=
 fun _ _ _ H _ I h=>ip I hg hm ⟨v,H,I,r,h⟩ hd
theorem FU {x:Str}{v:V}{u:Value}{pos:Pos}(hg:Gl X x)(hm:X.mg x=none)(hv:bootBuiltins x=some u)(r:RelV v u)(hn:x≠ "__name__":=by decide)(hd:(x==("__debug__":Str))=false:=by decide):PE X (.Name x pos) (tC v):=
 fun _ _ _ H _ I h=>gi I hg hm hv ⟨v,H,I,r,h⟩ hn hd
variable {a b:Expr}{ta tb:TE}{pos:Pos}
def PC (X:Cx)(op:CmpOp)(a b:Expr)(t:TE):Prop:=
 ∀(pins:List (Addr×Obj)) (s:Shared) (σ:St) (H:Hp) (Q:VK),Inv X pins σ H s→t σ H Q→
  wpAny (model X.prog X.w) X.A (eval a X.env) (fun v s₁=>wpAny (model X.prog X.w) X.A (eval b X.env) (fun u s₂=>wpAny (model X.prog X.w) X.A (compareOp op v u) (EP X pins σ Q) X.xe s₂) X.xe s₁) X.xe s
inductive tB_ (Q:(Bool→Hp→Prop))(x:V)(H1:Hp):Prop where
 | mk (c:_) (_:x=.bl c) (_:Q c H1):tB_ Q x H1
def tB (t:TE):TT:=fun σ H Q=>t σ H fun x H1=>tB_ Q x H1
theorem kX {op:CmpOp}{t:TE}(h:PC X op a b t)(h1:behindInMarks op b=false:=by first | exact nobehind _ (by decide) (by decide) | rfl):PT X (.Compare a [op] [b] pos) (tB t):=by
 intro pins s σ H Q I hw
 refine wpAny_isTrue_Compare1 (bK (h pins s σ H _ I hw) fun v s1 h1=>bK h1 fun u s2 h2=>bK h2 fun c s3 ⟨x,H1,I1,r1,q1⟩=> ?_) h1
 obtain ⟨d,rfl,q⟩:=q1
 cases r1
 exact wpAny_truthy_bool ⟨H1,I1,q⟩
theorem zK {e:Expr}{t:TE}(h:PE X e t)(he:∀whole,isTrue e X.env whole=(do let v ← whole;standAt e.pos;holding [v] (truthy v)):=by intro _;rfl):PT X e (tB t):=by
 intro pins s σ H Q I hw
 refine isTrue_plain (bK (h pins s σ H _ I hw) fun v s1 ⟨x,H1,I1,r1,q1⟩=> ?_) (he _)
 obtain ⟨d,rfl,q⟩:=q1
 cases r1
 exact wpAny_truthy_bool ⟨H1,I1,q⟩
variable {tA UH :TT}{rest:List Expr}
def VE (t u:TT):TT:=fun σ H Q=>t σ H fun c H1=>if c=true then u σ H1 Q else Q false H1
def tOr (t u:TT):TT:=fun σ H Q=>t σ H fun c H1=>if c=true then Q true H1 else u σ H1 Q
def VF (t:TT):TT:=fun σ H Q=>t σ H fun c H1=>Q (!c) H1
theorem vH (ha:PT X a tA):PW X (.BoolOp .And [a] pos) tA:=by
 intro wh pins s σ H Q I h
 refine isTrue_and (bK (ha pins s σ H Q I h) fun c s1 e=> ?_)
 cases c with
 | true=>exact isTrue_and_nil e
 | false=>exact e
theorem Ky (ha:PT X a tA):PW X (.BoolOp .Or [a] pos) tA:=by
 intro wh pins s σ H Q I h
 refine isTrue_or (bK (ha pins s σ H Q I h) fun c s1 e=> ?_)
 cases c with
 | false=>exact isTrue_or_nil e
 | true=>exact e
theorem zN (ha:PT X a tA)(hb:PW X (.BoolOp .And (b::rest) pos) UH):PW X (.BoolOp .And (a::b::rest) pos) (VE tA UH):=by
 intro wh pins s σ H Q I h
 refine isTrue_and (bK (ha pins s σ H _ I h) fun c s1 ⟨H1,I1,q1⟩=> ?_)
 cases c with
 | true=>exact hb wh pins s1 σ H1 Q I1 q1
 | false=>exact ⟨H1,I1,q1⟩
theorem NC (ha:PT X a tA)(hb:PW X (.BoolOp .Or (b::rest) pos) UH):PW X (.BoolOp .Or (a::b::rest) pos) (tOr tA UH):=by
 intro wh pins s σ H Q I h
 refine isTrue_or (bK (ha pins s σ H _ I h) fun c s1 ⟨H1,I1,q1⟩=> ?_)
 cases c with
 | true=>exact ⟨H1,I1,q1⟩
 | false=>exact hb wh pins s1 σ H1 Q I1 q1
theorem Kz (ha:PT X a tA):PT X (.UnaryOp .Not a pos) (VF tA):=by
 intro pins s σ H Q I h
 exact isTrue_not (ha pins s σ H (fun c H1=>Q (!c) H1) I h)
def NF (ta tb:TE):TE:=fun σ H Q=>ta σ H fun x H1=>∃c,x=.bl c∧if c=true then tb σ H1 Q else Q (.bl false) H1
inductive zO (Q:VK)(x:V)(H1:Hp):Prop where
 | mk (c:_) (_:x=.bl c) (_:Q (.bl (!c)) H1):zO Q x H1
def NG (ta:TE):TE:=fun σ H Q=>ta σ H fun x H1=>zO Q x H1
theorem KA {op}{t:TE}(h:PE X a t):PE X (.BoolOp op [a] pos) t:=fun pins s σ H Q I hw=>BoolOp_one (h pins s σ H Q I hw)
theorem KC (ha:PE X a ta)(hb:PE X (.BoolOp .And (b::rest) pos) tb):PE X (.BoolOp .And (a::b::rest) pos) (NF ta tb):=by
 intro pins s σ H Q I h
 refine BoolOp_and (bK (ha pins s σ H _ I h) fun v s1 ⟨x,H1,I1,r1,q1⟩=> ?_)
 obtain ⟨c,rfl,q1⟩:=q1
 cases r1
 refine wpAny_truthy_bool ?_
 cases c with
 | true=>exact hb pins s1 σ H1 Q I1 q1
 | false=>exact ⟨.bl false,H1,I1,rfl,q1⟩
theorem KD (ha:PE X a ta):PE X (.UnaryOp .Not a pos) (NG ta):=by
 intro pins s σ H Q I h
 refine UnaryOp_ (bK (ha pins s σ H _ I h) fun v s1 ⟨x,H1,I1,r1,q1⟩=> ?_)
 obtain ⟨c,rfl,q1⟩:=q1
 cases r1
 exact not_of (wpAny_truthy_bool ⟨.bl (!c),H1,I1,rfl,q1⟩)
def tIf (t:TT)(ta tb:TE):TE:=fun σ H Q=>t σ H fun c H1=>if c=true then ta σ H1 Q else tb σ H1 Q
theorem rH {c:Expr}(hc:PT X c tA)(ha:PE X a ta)(hb:PE X b tb):PE X (.IfExp c a b pos) (tIf tA ta tb):=by
 intro pins s σ H Q I h
 refine wpAny_IfExp (bK (hc pins s σ H _ I h) fun d s1 ⟨H1,I1,q1⟩=> ?_)
 cases d with
 | true=>exact ha pins s1 σ H1 Q I1 q1
 | false=>exact hb pins s1 σ H1 Q I1 q1
end
end L2
namespace L2
open PySem PySem.Spec PyProof.Rows
def aU (K:Frag)(H:Hp)(a:Addr)(xs:List V):Prop:=
 Rd H a (.lst xs)∨
  ∃(o:Obj) (its:Array Value) (n:Nat),K.lookup a=some o∧o.cls=.type "list"∧o.dict=none∧o.data=.seq its n∧its.size≤sizeLine∧Vals xs its.toList
def bH (K:Frag)(H:Hp)(a:Addr)(xs:List V):Prop:=
 Rd H a (.tup xs)∨
  ∃(o:Obj) (its:Array Value) (n:Nat),K.lookup a=some o∧o.cls=.type "tuple"∧o.data=.seq its n∧its.size≤sizeLine∧Vals xs its.toList
def VG:Value→Option V
 | .none=>some .cp
 | .bool b=>some (.bl b)
 | .int i _=>some (.int i)
 | .str x _=>some (.str x)
 | .bytes b _=>some (.byt b)
 | .float b _=>some (.UB b)
 | .ref a=>some (.ref a)
 | .type n=>some (.ty n)
 | _=>none
theorem RelV.abs {x:V}{u:Value}(r:RelV x u):VG u=some x:=by
 cases x with
 | cp=>cases r;rfl
 | bl _=>cases r;rfl
 | int _=>obtain ⟨t,rfl⟩:=r;rfl
 | str _=>obtain ⟨t,rfl⟩:=r;rfl
 | byt _=>obtain ⟨t,rfl⟩:=r;rfl
 | UB _=>obtain ⟨t,rfl⟩:=r;rfl
 | ref _=>cases r;rfl
 | ty _=>cases r;rfl
theorem RelV.inj {x y:V}{u:Value}(r:RelV x u)(q:RelV y u):x=y:=adB (r.abs.symm.trans q.abs)
theorem Vals.inj:∀{xs ys:List V} {us:List Value},Vals xs us→Vals ys us→xs=ys
 | _,_,_,.nil,.nil=>rfl
 | _,_,_,.cons r t,.cons r' t' =>by rw [r.inj r',Vals.inj t t']
section
variable {X:Cx}{pins:List (Addr×Obj)}{σ:St}{H:Hp}{s:Shared}{a:Addr}{xs ys:List V}
theorem aU.of {K:Frag}(h:H a=some (.lst xs)):aU K H a xs:=.inl (.inl h)
theorem bH.of {K:Frag}(h:H a=some (.tup xs)):bH K H a xs:=.inl (.inl h)
theorem Inv.list (I:Inv X pins σ H s)(h:aU X.K H a xs):∃its:List Value,Vals xs its∧PlainL s.heap a its.toArray∧xs.length≤sizeLine:=by
 rcases h with h | ⟨o,its,n,hk,hc,hd,hs,hz,r⟩
 ·obtain ⟨z,its,n,r,e⟩:=h.ok I.bh
  exact ⟨its,r,⟨_,n,e,rfl,rfl,rfl⟩,z⟩
 ·refine ⟨its.toList,r,⟨o,n,I.nN a o hk,hc,hd,by simpa using hs⟩,?_⟩
  have e:=r.length
  simp only [aeK] at e
  omega
theorem Inv.tuple (I:Inv X pins σ H s)(h:bH X.K H a xs):∃its:List Value,Vals xs its∧IsTup s.heap a its.toArray∧xs.length≤sizeLine:=by
 rcases h with h | ⟨o,its,n,hk,hc,hs,hz,r⟩
 ·obtain ⟨z,its,r,p⟩:=h.ok I.bh
  exact ⟨its,r,p,z⟩
 ·refine ⟨its.toList,r,⟨o,I.nN a o hk,hc,n,by simpa using hs⟩,?_⟩
  have e:=r.length
  simp only [aeK] at e
  omega
theorem Inv.gj (I:Inv X pins σ H s)(h:aU X.K H a xs)(h' :aU X.K H a ys):xs=ys:=by
 obtain ⟨its,r,⟨o,n,e,_,_,d⟩,_⟩:=I.list h
 obtain ⟨its',r',⟨o',n',e',_,_,d'⟩,_⟩:=I.list h'
 rw [e] at e';cases e'
 rw [d] at d'
 injection d' with d1 _
 have:its=its' :=by simpa using congrArg am2 d1
 subst this
 exact r.inj r'
theorem Inv.fg (I:Inv X pins σ H s)(h:bH X.K H a xs)(h' :bH X.K H a ys):xs=ys:=by
 obtain ⟨its,r,⟨o,e,_,n,d⟩,_⟩:=I.tuple h
 obtain ⟨its',r',⟨o',e',_,n',d'⟩,_⟩:=I.tuple h'
 rw [e] at e';cases e'
 rw [d] at d'
 injection d' with d1 _
 have:its=its' :=by simpa using congrArg am2 d1
 subst this
 exact r.inj r'
end
abbrev Cx.m7 (X:Cx)(E:Value→Shared→Prop):Cx:={X with xe:=E}
abbrev Cx.vI (X:Cx):Cx:=X.m7 fun _ _=>False
theorem Cx.Ok.m7 {X:Cx}(ok:X.Ok)(E:Value→Shared→Prop):(X.m7 E).Ok:=
 ⟨ok.mod,ok.kind,ok.glob,ok.blt,ok.above,ok.inj,ok.has,ok.Ny,ok.hd,ok.frames,ok.UD,ok.exf,ok.bs,ok.FQ,ok.zI,ok.FR,ok.j7,ok.Ku⟩
theorem Cx.Ok.gk {X:Cx}{E:Value→Shared→Prop}(ok:(X.m7 E).Ok):X.Ok:=
 ⟨ok.mod,ok.kind,ok.glob,ok.blt,ok.above,ok.inj,ok.has,ok.Ny,ok.hd,ok.frames,ok.UD,ok.exf,ok.bs,ok.FQ,ok.zI,ok.FR,ok.j7,ok.Ku⟩
section
variable {X:Cx}{pins:List (Addr×Obj)}{σ:St}{H:Hp}{s:Shared}{E:Value→Shared→Prop}
theorem Inv.m7 (I:Inv X pins σ H s)(E:Value→Shared→Prop):Inv (X.m7 E) pins σ H s:=⟨I.ok.m7 E,I.os,I.bare,I.base,I.loc,I.cell,I.free,I.gh,I.pin,I.bh,I.len⟩
theorem Inv.gk (I:Inv (X.m7 E) pins σ H s):Inv X pins σ H s:=⟨I.ok.gk,I.os,I.bare,I.base,I.loc,I.cell,I.free,I.gh,I.pin,I.bh,I.len⟩
theorem SP.gk {D:Ends}{f:Flow}{s' :Shared}(h:SP (X.m7 E) pins D f s'):SP X pins D f s' :=by
 cases f with
 | next=>obtain ⟨σ',H',I,q⟩:=h;exact ⟨σ',H',I.gk,q⟩
 | brk=>obtain ⟨σ',H',I,q⟩:=h;exact ⟨σ',H',I.gk,q⟩
 | cont=>obtain ⟨σ',H',I,q⟩:=h;exact ⟨σ',H',I.gk,q⟩
 | ret u=>obtain ⟨v,σ',H',I,r,q⟩:=h;exact ⟨v,σ',H',I.gk,r,q⟩
theorem PSs.vI {st:List Stmt}{t:TS}(h:PSs X.vI st t):PSs X st t:=fun pins s σ H D I hw=>
 wpAny_mono (h pins s σ H D (I.m7 _) hw) (fun _ _ q=>q.gk) fun _ _ z=>False.elim z
end
section
variable {X:Cx}{st:Stmt}{rest:List Stmt}{t u:TS}{e:Expr}{te:TE}{pos:Pos}
def NH:TS:=fun D σ H=>D.nx σ H
def NI (t u:TS):TS:=fun D σ H=>t {D with nx:=u D} σ H
theorem aQ:PSs X [] NH:=fun _ _ σ H _ I h=>wpAny_execs_nil ⟨σ,H,I,h⟩
theorem ae (h1:PS X st t)(h2:PSs X rest u):PSs X (st::rest) (NI t u):=by
 intro pins s σ H D I h
 refine wpAny_execs_cons (bK (h1 pins s σ H {D with nx:=u D} I h) fun f s1 q=> ?_)
 cases f with
 | next=>
  obtain ⟨σ',H',I',q⟩:=q
  exact h2 pins s1 σ' H' D I' q
 | ret v=>exact q
 | brk=>exact q
 | cont=>exact q
theorem ak (h1:PS X st t):PSs X [st] t:=by
 intro pins s σ H D I h
 refine wpAny_execs_cons (bK (h1 pins s σ H D I h) fun f s1 q=> ?_)
 cases f with
 | next=>exact wpAny_execs_nil q
 | ret v=>exact q
 | brk=>exact q
 | cont=>exact q
def NJ:TS:=fun D σ H=>D.ct σ H
theorem rJ:PS X (.Continue pos) NJ:=fun _ _ σ H _ I h=>wpAny_Continue ⟨σ,H,I,h⟩
theorem Inv.quiet {pins:List (Addr×Obj)}{σ:St}{H:Hp}{s:Shared}(I:Inv X pins σ H s):interactive X.env=false:=by simp [interactive,I.ok.kind]
def NK (te:TE):TS:=fun D σ H=>te σ H fun _ H1=>D.nx σ H1
theorem bX (he:PE X e te)(hs:swapsWith e none pos.line X.env=pure false:=by rfl):PS X (.Expr e pos) (NK te):=by
 intro pins s σ H D I h
 exact wpAny_Expr_any (bK (he pins s σ H _ I h) fun v s1 ⟨x,H1,I1,r1,q1⟩=>⟨σ,H1,I1,q1⟩) I.quiet hs
def VH (te:TE):TS:=fun D σ H=>te σ H D.rt
theorem aG (he:PE X e te):PS X (.Return (some e) pos) (VH te):=by
 intro pins s σ H D I h
 exact wpAny_Return_some (bK (he pins s σ H _ I h) fun v s1 ⟨x,H1,I1,r1,q1⟩=>⟨x,σ,H1,I1,r1,q1⟩)
def VI (c:TT)(t u:TS):TS:=fun D σ H=>c σ H fun b H1=>if b=true then t D σ H1 else u D σ H1
theorem bC {c:Expr}{a b:List Stmt}{tc:TT}(hc:PT X c tc)(ha:PSs X a t)(hb:PSs X b u):PS X (.If c a b pos) (VI tc t u):=by
 intro pins s σ H D I h
 refine wpAny_If (bK (hc pins s σ H _ I h) fun d s1 ⟨H1,I1,q1⟩=> ?_)
 cases d with
 | true=>exact ha pins s1 σ H1 D I1 q1
 | false=>exact hb pins s1 σ H1 D I1 q1
def KG:TS:=fun _ _ _=>False
theorem cG:PS X st KG:=fun _ _ _ _ _ _ h=>h.elim
end
abbrev TG:=V→St→Hp→(St→Hp→Prop)→Prop
abbrev Ju:=List V→St→Hp→(St→Hp→Prop)→Prop
def PG (X:Cx)(target:Expr)(t:TG):Prop:=
 ∀(pins:List (Addr×Obj)) (s:Shared) (σ:St) (H:Hp) (v:V) (u:Value) (Q:St→Hp→Prop),Inv X pins σ H s→RelV v u→t v σ H Q→
  wpAny (model X.prog X.w) X.A (assign target X.env u) (fun _ s' =>∃σ' H',Inv X pins σ' H' s' ∧Q σ' H') X.xe s
def NL (X:Cx)(ts:List Expr)(t:Ju):Prop:=
 ∀(pins:List (Addr×Obj)) (s:Shared) (σ:St) (H:Hp) (vs:List V) (us:List Value) (Q:St→Hp→Prop),Inv X pins σ H s→Vals vs us→t vs σ H Q→
  wpAny (model X.prog X.w) X.A (assignInOrder ((assignEach ts X.env).map (·.2)) us) (fun _ s' =>∃σ' H',Inv X pins σ' H' s' ∧Q σ' H') X.xe s
abbrev KH:=V→V→V→Hp→(Hp→Prop)→Prop
def NM (X:Cx)(t:KH):Prop:=
 ∀(pins:List (Addr×Obj)) (s:Shared) (σ:St) (H:Hp) (o i v:V) (ov iv u:Value) (Q:Hp→Prop),Inv X pins σ H s→RelV o ov→RelV i iv→RelV v u→t o i v H Q→
  wpAny (model X.prog X.w) X.A (setItem ov iv u) (fun _ s' =>∃H',Inv X pins σ H' s' ∧Q H') X.xe s
section
variable {X:Cx}{pos:Pos}
def cY (i:Nat):TG:=fun v σ H Q=>Q (σ.set i (some v)) H
theorem aE {i:Nat}{x:Str}(hN:X.N.Nodup)(hi:X.N[i]? =some x)(hx:Loc X.env.scope x)(hf:X.fn x=true∨X.env.scope.names.lookup x=some .local:=by first | exact .inl rfl | exact .inr rfl | assumption):PG X (.Name x pos) (cY i):=by
 intro pins s σ H v u Q I r h
 exact wpAny_assign_Name (ik I hN hi hx r (fun s' I' =>⟨_,H,I',h⟩) hf)
def KI:Ju:=fun vs σ H Q=>vs=[]∧Q σ H
def rK (t:TG)(u:Ju):Ju:=fun vs σ H Q=>∃v r,vs=v::r∧t v σ H fun σ' H' =>u r σ' H' Q
theorem cN:NL X [] KI:=by
 intro pins s σ H vs us Q I r h
 obtain ⟨e,h⟩:=h
 subst e
 cases r
 exact assignInOrder_nil ⟨σ,H,I,h⟩
theorem aX {e:Expr}{es:List Expr}{t:TG}{u:Ju}(h1:PG X e t)(h2:NL X es u)
  (hs:(assignEach (e::es) X.env).map (·.2)=assign e X.env::(assignEach es X.env).map (·.2):=by rfl):NL X (e::es) (rK t u):=by
 intro pins s σ H vs us Q I r h
 obtain ⟨v,vr,e1,h⟩:=h
 subst e1
 cases r with
 | cons r rr=>
  rw [hs]
  refine assignInOrder_cons (bK (h1 pins s σ H _ _ _ I r h) fun _ s1 ⟨σ1,H1,I1,q1⟩=> ?_)
  exact h2 pins s1 σ1 H1 _ _ Q I1 rr q1
inductive zP (K:Frag)(n:Nat)(t:Ju)(v:V)(σ:St)(H:Hp)(Q:(St→Hp→Prop)):Prop where
 | mk (a xs:_) (_:v=.ref a) (_:bH K H a xs) (_:xs.length=n) (_:t xs σ H Q):zP K n t v σ H Q
theorem eW {es:List Expr}{k:Nat}{t:Ju}{n:Nat}(hc:X.calm=true)(h:NL X es t)
  (hn:(assignEach es X.env).length=n:=by rfl) (FV:(assignEach es X.env).findIdx? (·.1)=none:=by rfl):PG X (.Tuple es k pos) (zP X.K n t):=by
 intro pins s σ H v u Q I r hw
 obtain ⟨a,xs,e1,hq,hl,hw⟩:=hw
 subst e1
 cases r
 obtain ⟨its,rv,ht,hz⟩:=I.tuple hq
 refine assign_Tuple_tuple (I.ok.hd hc) ht (by simp [hn, ← hl,rv.length]) FV fun h' hx=> ?_
 have I1:Inv X pins σ H {s with heap:=h' }:=I.kept (t' :=s.toks) fun b o e=>hx b o (adD (Heap.lt_size e)) e
 exact h pins _ σ H xs _ Q I1 (by simpa using rv) hw
def VJ (to ti:TE)(t:KH):TG:=fun v σ H Q=>to σ H fun o H1=>ti σ H1 fun i H2=>t o i v H2 fun H3=>Q σ H3
theorem oQ {o i:Expr}{to ti:TE}{t:KH}(ho:PE X o to)(hi:PE X i ti)(hs:NM X t)
  (ha:∀v,assign (.Subscript o i pos) X.env v=(do
   let ov ← holding [v] (eval o X.env)
   let iv ← holding [v,ov] (eval i X.env)
   standAt pos
   holding [v,ov,iv] (setItem ov iv v)
   release [v,ov,iv] []):=by intro _;rfl):PG X (.Subscript o i pos) (VJ to ti t):=by
 intro pins s σ H v u Q I r h
 rw [ha]
 refine wpAny_bind (wpAny_holding (bK (ho pins s σ H _ I h) fun ov s1 ⟨x,H1,I1,r1,q1⟩=> ?_))
 refine wpAny_bind (wpAny_holding (bK (hi pins s1 σ H1 _ I1 q1) fun iv s2 ⟨y,H2,I2,r2,q2⟩=> ?_))
 refine wpAny_bind (wpAny_standAt (wpAny_bind (wpAny_holding (bK (hs pins s2 σ H2 x y v ov iv u _ I2 r1 r2 r q2) fun _ s3 ⟨H3,I3,q3⟩=> ?_))))
 exact wpAny_release ⟨σ,H3,I3,q3⟩
def KJ (te:TE)(g:TG):TS:=fun D σ H=>te σ H fun x H1=>g x σ H1 D.nx
theorem oR {tg e:Expr}{te:TE}{g:TG}(he:PE X e te)(hg:PG X tg g)(hs:swapsWithSole [tg] e pos.line X.env=pure false:=by rfl)(hw:swappedStores [tg] e X.env=pure none:=by rfl)
  (h1:(assignEach [tg] X.env).map (·.2)=[assign tg X.env]:=by rfl):PS X (.Assign [tg] e pos) (KJ te g):=by
 intro pins s σ H D I h
 refine wpAny_Assign_stores (bK (he pins s σ H _ I h) fun v s1 ⟨x,H1,I1,r1,q1⟩=> ?_) hs hw
 rw [h1]
 exact bK (hg pins s1 σ H1 x v _ I1 r1 q1) fun _ s2 q=>q
theorem ax {i:Nat}{x:Str}{e:Expr}{te:TE}{pos' :Pos}(hN:X.N.Nodup)(hi:X.N[i]? =some x)(hx:Loc X.env.scope x)(he:PE X e te)(hs:swapsWith e (some (.Name x pos')) pos.line X.env=pure false:=by rfl)(hf:X.fn x=true∨X.env.scope.names.lookup x=some .local:=by first | exact .inl rfl | exact .inr rfl | assumption):
  PS X (.Assign [.Name x pos'] e pos) (KJ te (cY i)):=by
 intro pins s σ H D I h
 refine wpAny_Assign_Name (bK (he pins s σ H _ I h) fun v s1 ⟨y,H1,I1,r1,q1⟩=> ?_) hs
 exact ik I1 hN hi hx r1 (fun s2 I2=>⟨_,H1,I2,q1⟩) hf
inductive Jv (i:Nat)(j:Nat)(D:Ends)(σ:St)(vs:List V)(H1:Hp):Prop where
 | mk (v w:_) (_:vs=[v,w]) (_:D.nx ((σ.set i (some v)).set j (some w)) H1):Jv i j D σ vs H1
def VL (i j:Nat)(ta:TA):TS:=fun D σ H=>ta σ H fun vs H1=>Jv i j D σ vs H1
theorem KL {i j:Nat}{x y:Str}{a b:Expr}{ta:TA}{px py pt:Pos}{kt k2 VM}(hc:X.calm=true)(hN:X.N.Nodup)(hi:X.N[i]? =some x)(hj:X.N[j]? =some y)(hij:i≠j)
  (hx:X.env.scope.names.lookup x=some .local) (hy:X.env.scope.names.lookup y=some .local) (ha:PA X [a,b] ta)
  (hw:swappedStores [.Tuple [.Name x px,.Name y py] kt pt] (.Tuple [a,b] k2 VM) X.env=pure (some [x,y]))
  (hs:swapsWithSole [.Tuple [.Name x px,.Name y py] kt pt] (.Tuple [a,b] k2 VM) pos.line X.env=pure false:=by rfl):
  PS X (.Assign [.Tuple [.Name x px,.Name y py] kt pt] (.Tuple [a,b] k2 VM) pos) (VL i j ta):=by
 intro pins s σ H D I h
 rw [exec_Assign_arm]
 refine wpAny_bind (wpAny_standAt ?_)
 rw [hs]
 refine wpAny_bind (wpAny_pure ?_)
 rw [if_neg (by decide)]
 refine wpAny_bind (Tuple_ (bK (ha _ pins s σ H _ I h) fun us s1 ⟨vs,H1,I1,r1,q1⟩=> ?_))
 obtain ⟨v,w,e1,q1⟩:=q1
 subst e1
 obtain ⟨u1,u2,rfl,rv,rB⟩:∃u1 u2,us=[u1,u2]∧RelV v u1∧RelV w u2:=by
  cases r1 with
  | cons p q=>
   cases q with
   | cons p' q' =>
    cases q'
    exact ⟨_,_,rfl,p,p'⟩
 refine wpAny_newObj_type ?_ (by show 2≤sizeLine;decide)
 have I2:Inv X pins σ H1 {s1 with heap:=s1.heap.push {cls:=.type "tuple",data:=.seq [u1,u2].toArray}}:=I1.kept (t' :=s1.toks) fun b o e=>Heap.get?_push_of_some _ e
 rw [hw]
 refine wpAny_bind (wpAny_pure ?_)
 show wpAny (model X.prog X.w) X.A (do rule "assign.swapped-stores";let items ← unpackItems (.ref s1.heap.objs.size) 2 none;assignInOrder [fun v=>bindName X.env y v,fun v=>bindName X.env x v] items.reverse;pure Flow.next) _ _ _
 refine wpAny_bind (wpAny_rule (wpAny_bind (unpackItems_tuple (items:= #[u1,u2]) (I.ok.hd hc) (IsTup.new s1.heap _) fun h' rC => ?_)))
 have I3:=I2.kept (h' :=h') (t' :=s1.toks) fun b o e=>rC b o (adD (Heap.lt_size e)) e
 show wpAny _ _ (assignInOrder [fun v=>bindName X.env y v,fun v=>bindName X.env x v] [u2,u1] >>=fun _=>pure Flow.next) _ _ _
 refine wpAny_bind (assignInOrder_cons (wpAny_bindName (ik I3 hN hj (.inl hy) rB (fun s2 I4=> ?_) (.inr hy))))
 refine assignInOrder_cons (wpAny_bindName (ik I4 hN hi (.inl hx) rv (fun s3 I5=>assignInOrder_nil (wpAny_pure ?_)) (.inr hx)))
 rw [List.set_comm _ _ (adG hij)] at I5
 exact ⟨_,H1,I5,q1⟩
end
section
variable {X:Cx}{pos:Pos}
def zQ (c:TT)(tb:TS):TS:=fun D σ H=>∃W:Nat→St→Hp→Prop,(∃m,W m σ H)∧∀m σ H,W m σ H→
 c σ H fun b H1=>if b=true then ∃N:St→Hp→Prop,(∀σ' H',N σ' H' →∃m',m' < m∧W m' σ' H')∧tb {D with nx:=N,ct:=N,bk:=D.nx} σ H1 else D.nx σ H1
theorem kY {c:Expr}{body:List Stmt}{tc:TT}{tb:TS}(hp:PassesOwn (model X.prog X.w) X.A X.env X.xe)(hc:PT X c tc)(hb:PSs X body tb):PS X (.While c body [] pos) (zQ tc tb):=by
 intro pins s σ H D I h
 obtain ⟨W,⟨m0,w0⟩,turn⟩:=h
 refine wpAny_While (codeAny_whileLoop (fun n s' =>∃σ' H',Inv X pins σ' H' s' ∧W n σ' H') ?_ m0 ⟨σ,H,I,w0⟩)
 rintro n s1 ⟨σ1,H1,I1,w1⟩
 refine wpAny_passesOwn hp (bK (hc pins s1 σ1 H1 _ I1 (turn n σ1 H1 w1)) fun b s2 ⟨H2,I2,q2⟩=> ?_)
 cases b with
 | true=>
  obtain ⟨N,hN,q2⟩:=q2
  rw [if_pos rfl]
  refine wpAny_passesOwn hp (bK (hb pins s2 σ1 H2 _ I2 q2) fun f s3 q3=> ?_)
  cases f with
  | next=>
   obtain ⟨σ3,H3,I3,n3⟩:=q3
   obtain ⟨m',hm,w3⟩:=hN σ3 H3 n3
   exact ⟨m',hm,σ3,H3,I3,w3⟩
  | cont=>
   obtain ⟨σ3,H3,I3,n3⟩:=q3
   obtain ⟨m',hm,w3⟩:=hN σ3 H3 n3
   exact ⟨m',hm,σ3,H3,I3,w3⟩
  | brk=>exact q3
  | ret v=>exact q3
 | false=>
  rw [if_neg ads]
  exact wpAny_execs_nil ⟨σ1,H2,I2,q2⟩
end
structure It where
 go:Nat→Hp→Prop
 vJ:Nat→Hp→V→Hp→Prop
 stop:Nat→Hp→Prop
def i9 (X:Cx)(pins:List (Addr×Obj))(H:Hp)(b:Addr):Prop:=
 H b=none∧b≠X.env.locals∧b∉X.fs∧(b∈X.ex∨X.s₀.heap.objs.size≤b)∧(∀x c,X.env.cells.lookup x=some c→c≠b)∧∀p∈X.pn++pins,p.1≠b
theorem Inv.iq {X:Cx}{pins:List (Addr×Obj)}{σ:St}{H H' :Hp}{s:Shared}{b:Addr}(I:Inv X pins σ H s)(hb:s.heap.objs.size≤b)(hn:H' b=none):i9 X pins H' b:=by
 refine ⟨hn,alx (adx I.lt hb),I.Vy hb,.inr (adb I.sz hb),fun x c e z=> ?_,fun p hp z=> ?_⟩
 ·obtain ⟨v,q⟩:=I.cell x c e
  exact absurd (adx q.lt (by rw [z];exact hb)) (aek _)
 ·exact absurd (adx (Heap.lt_size (I.pin p hp).1) (by rw [z];exact hb)) (aek _)
structure Turn (P:Program)(w:World)(K:Frag)(tg:Expr)(J:It)(fp:List Addr)(it:Addr)(tn:Nat→Heap→Prop):Prop where
 mem:it∈fp
 obj:∀i h,tn i h→∀b∈fp,∃o,h.get? b=some o∧∀v,o.data≠.cell v
 keep:∀i h h',tn i h→(∀b∈fp,∀o,h.get? b=some o→h'.get? b=some o)→tn i h'
 item:∀(X:Cx),X.prog=P→X.w=w→X.K=K→X.calm=true→∀(i:Nat) (pins:List (Addr×Obj)) (s:Shared) (σ:St) (H:Hp) (E:Value→Shared→Prop),Inv X pins σ H s→(∀b∈fp,i9 X pins H b)→tn i s.heap→J.go i H→
  wpAny (model P w) X.A (pyNext (.ref it)) (fun r s1=>∃u,r=some u∧
   wpAny (model P w) X.A (letOwnedTupleGo tg (.ref it) u) (fun _ s2=>∃x H',Inv X pins σ H' s2∧RelV x u∧J.vJ i H x H' ∧tn (i+1) s2.heap∧∀b∈fp,H' b=none) E s1) E s
 done:∀(X:Cx),X.prog=P→X.w=w→X.K=K→X.calm=true→∀(i:Nat) (pins:List (Addr×Obj)) (s:Shared) (σ:St) (H:Hp) (E:Value→Shared→Prop),Inv X pins σ H s→(∀b∈fp,i9 X pins H b)→tn i s.heap→J.stop i H→
  wpAny (model P w) X.A (pyNext (.ref it)) (fun r s1=>r=none∧Inv X pins σ H s1) E s
 self:∀(A:Around) (i:Nat) (s:Shared) (Q:Value→Shared→Prop) (E:Value→Shared→Prop),tn i s.heap→Q (.ref it) s→wpAny (model P w) A (pyIter (.ref it)) Q E s
abbrev TI:=St→Hp→(It→Hp→Prop)→Prop
def PIE (X:Cx)(pins:List (Addr×Obj))(σ:St)(tg:Expr)(R:It→Hp→Prop)(UI:Value)(s2:Shared):Prop:=
 ∃(it:Addr) (fp:List Addr) (tn:Nat→Heap→Prop) (J:It) (H' :Hp),UI=.ref it∧Inv X pins σ H' s2∧Turn X.prog X.w X.K tg J fp it tn∧tn 0 s2.heap∧(∀b∈fp,i9 X pins H' b)∧R J H'
def PI (X:Cx)(tg iter:Expr)(wi:TI):Prop:=
 ∀(pins:List (Addr×Obj)) (s:Shared) (σ:St) (H:Hp) (R:It→Hp→Prop),Inv X pins σ H s→wi σ H R→
  wpAny (model X.prog X.w) X.A (eval iter X.env) (fun v s1=>wpAny (model X.prog X.w) X.A (pyIter v) (PIE X pins σ tg R) X.xe s1) X.xe s
theorem nQ {M : Model} {A : Around} {E : Value → Shared → Prop} {s : Shared} {tg : Expr} {it : Addr} {u : Value} {o : Obj} {n : String} {vs : Array Value} {Q : Unit → Shared → Prop} (ho : s.heap.get? it = some o) (hc : o.cls = .type n) (hd : o.data = .fields vs)
    (hn : ["enumerate", "zip", "dict_itemiterator", "dict_reverseitemiterator", "odict_iterator", "itertools.zip_longest", "itertools.pairwise"].contains n = false) (hQ : Q () s) : wpAny M A (letOwnedTupleGo tg (.ref it) u) Q E s := by
  unfold letOwnedTupleGo
  cases tg <;> first
    | exact wpAny_pure hQ
    | (cases u <;> first
        | exact wpAny_pure hQ
        | (refine wpAny_bind (wpAny_load ho ?_)
           rw [hc, hd]
           show wpAny M A (if (["enumerate", "zip", "dict_itemiterator", "dict_reverseitemiterator", "odict_iterator", "itertools.zip_longest", "itertools.pairwise"].contains n && vs[0]? == some (rawInt _)) = true then _ else _) Q E s
           rw [if_neg (by intro h; rw [hn, Bool.false_and] at h; cases h)]
           exact wpAny_pure hQ))
def KN (K:Frag)(a:Addr):It:=
 ⟨fun i H=>∃xs x,aU K H a xs∧xs[i]? =some x,fun i H x H' =>H' =H∧∀xs,aU K H a xs→xs[i]? =some x,fun i H=>∃xs,aU K H a xs∧xs.length≤i⟩
def NO (K:Frag)(a:Addr):It:=
 ⟨fun i H=>∃xs x,bH K H a xs∧xs[i]? =some x,fun i H x H' =>H' =H∧∀xs,bH K H a xs→xs[i]? =some x,fun i H=>∃xs,bH K H a xs∧xs.length≤i⟩
def MZ (lo:Int)(n:Nat):It:=⟨fun i _=>i < n,fun i H x H' =>H' =H∧x=.int (lo+i),fun i _=>n≤i⟩
theorem xg {P:Program}{w:World}{K:Frag}{tg:Expr}(a it:Addr):Turn P w K tg (KN K a) [it] it (fun i h=>h.IsListIter it a i) where
 mem:=by simp
 obj:=fun i h st b hb=>by
  have e:b=it:=by simpa using hb
  subst e
  obtain ⟨o,e,c,d⟩:=st
  exact ⟨o,e,fun v z=>by rw [d] at z;cases z⟩
 keep:=fun i h h' st k=>st.at fun o e=>k it (by simp) o e
 item:=by
  intro X hP hw hK hc i pins s σ H E I hf st hg
  subst hP hw hK
  obtain ⟨xs,x,hq,hx⟩:=hg
  obtain ⟨its,rv,p,hz⟩:=I.list hq
  obtain ⟨u,hu,ru⟩:=rv.get hx
  obtain ⟨f0,f1,f2,f3,f4,f5⟩:=hf it (by simp)
  refine wpAny_pyNext_list_item st p.isList (x:=u) (by simpa using hu) fun h' mW sb=> ?_
  have I1:Inv X pins σ H {s with heap:=h' }:=I.turned (t' :=s.toks) (fun b o hb e=>(sb.2 b hb).trans e) f0 f1 f3 f4 f5
  obtain ⟨o,e,c,d⟩:=id mW
  exact ⟨u,rfl,nQ (s:={s with heap:=h' }) e c d (by decide) ⟨x,H,I1,ru,⟨rfl,fun ys hy=>by rw [I.gj hy hq];exact hx⟩,mW,fun b hb=>(hf b hb).1⟩⟩
 done:=by
  intro X hP hw hK hc i pins s σ H E I hf st hg
  subst hP hw hK
  obtain ⟨xs,hq,hx⟩:=hg
  obtain ⟨its,rv,p,hz⟩:=I.list hq
  obtain ⟨f0,f1,f2,f3,f4,f5⟩:=hf it (by simp)
  have hl:=rv.length
  exact wpAny_pyNext_list_end (I.ok.hd hc) st p.isList (by simp;omega) fun h' eb=>⟨rfl,I.turned (t' :=s.toks) (fun b o hb e=>eb b o hb e) f0 f1 f3 f4 f5⟩
 self:=fun _ _ _ _ _ st h=>wpAny_pyIter_listiter st h
theorem ur {P:Program}{w:World}{K:Frag}{tg:Expr}(a it:Addr):Turn P w K tg (NO K a) [it] it (fun i h=>h.IsTupleIter it a i) where
 mem:=by simp
 obj:=fun i h st b hb=>by
  have e:b=it:=by simpa using hb
  subst e
  obtain ⟨o,e,c,d⟩:=st
  exact ⟨o,e,fun v z=>by rw [d] at z;cases z⟩
 keep:=fun i h h' st k=>st.at fun o e=>k it (by simp) o e
 item:=by
  intro X hP hw hK hc i pins s σ H E I hf st hg
  subst hP hw hK
  obtain ⟨xs,x,hq,hx⟩:=hg
  obtain ⟨its,rv,p,hz⟩:=I.tuple hq
  obtain ⟨u,hu,ru⟩:=rv.get hx
  obtain ⟨f0,f1,f2,f3,f4,f5⟩:=hf it (by simp)
  refine wpAny_pyNext_tuple_item st (show s.heap.IsTuple a its.toArray from p) (x:=u) (by simpa using hu) fun h' mW sb=> ?_
  have I1:Inv X pins σ H {s with heap:=h' }:=I.turned (t' :=s.toks) (fun b o hb e=>(sb.2 b hb).trans e) f0 f1 f3 f4 f5
  obtain ⟨o,e,c,d⟩:=id mW
  exact ⟨u,rfl,nQ (s:={s with heap:=h' }) e c d (by decide) ⟨x,H,I1,ru,⟨rfl,fun ys hy=>by rw [I.fg hy hq];exact hx⟩,mW,fun b hb=>(hf b hb).1⟩⟩
 done:=by
  intro X hP hw hK hc i pins s σ H E I hf st hg
  subst hP hw hK
  obtain ⟨xs,hq,hx⟩:=hg
  obtain ⟨its,rv,p,hz⟩:=I.tuple hq
  obtain ⟨f0,f1,f2,f3,f4,f5⟩:=hf it (by simp)
  have hl:=rv.length
  exact wpAny_pyNext_tuple_end (I.ok.hd hc) st (show s.heap.IsTuple a its.toArray from p) (by simp;omega) fun h' eb=>⟨rfl,I.turned (t' :=s.toks) (fun b o hb e=>eb b o hb e) f0 f1 f3 f4 f5⟩
 self:=fun _ _ _ _ _ st h=>wpAny_pyIter_tupleiter st h
theorem uu {P:Program}{w:World}{K:Frag}{tg:Expr}(it:Addr)(lo:Int)(n:Nat):Turn P w K tg (MZ lo n) [it] it (fun i h=>IsRangeIter h it (lo+(i:Nat)*1) ((n:Int) - (i:Nat)) 1) where
 mem:=by simp
 obj:=fun i h st b hb=>by
  have e:b=it:=by simpa using hb
  subst e
  exact ⟨_,st,fun v z=>by
   have z' :Data.fields _=Data.cell v:=z
   cases z'⟩
 keep:=fun i h h' st k=>k it (by simp) _ st
 item:=by
  intro X hP hw hK hc i pins s σ H E I hf st hg
  subst hP hw hK
  obtain ⟨f0,f1,f2,f3,f4,f5⟩:=hf it (by simp)
  have W:=Walks.range (prog:=X.prog) (w:=X.w) (I.ok.hd hc) it lo 1 n
  refine W.item i s _ _ hg st fun v h' tk hv mW kk=> ?_
  obtain ⟨t,rfl⟩:=hv
  have I1:Inv X pins σ H {s with heap:=h',toks:=tk}:=I.turned (fun b o hb e=>kk b o (by simpa using hb) e) f0 f1 f3 f4 f5
  refine ⟨_,rfl,nQ (s:={s with heap:=h',toks:=tk}) (n:="range_iterator") mW rfl rfl (by decide) ⟨.int (lo+i),H,I1,⟨t,?_⟩,⟨rfl,rfl⟩,mW,fun b hb=>(hf b hb).1⟩⟩
  rw [Int.mul_one]
 done:=by
  intro X hP hw hK hc i pins s σ H E I hf st hg
  subst hP hw hK
  obtain ⟨f0,f1,f2,f3,f4,f5⟩:=hf it (by simp)
  exact wpAny_pyNext_range_end (I.ok.hd hc) st (by have:n≤i:=hg;omega) fun h' eb=>⟨rfl,I.turned (t' :=s.toks) (fun b o hb e=>eb b o hb e) f0 f1 f3 f4 f5⟩
 self:=fun _ _ _ _ _ st h=>wpAny_pyIter_rangeiter st h
end L2
namespace L2
open PySem PySem.Spec PyProof.Rows
section
variable {X:Cx}{tg:Expr}
inductive zR (K:Frag)(R:(It→Hp→Prop))(x:V)(H1:Hp):Prop where
 | mk (a:_) (_:x=.ref a) (_:(∃xs,aU K H1 a xs)) (_:R (KN K a) H1):zR K R x H1
def NP (K:Frag)(tl:TE):TI:=fun σ H R=>tl σ H fun x H1=>zR K R x H1
inductive Jw (K:Frag)(R:(It→Hp→Prop))(x:V)(H1:Hp):Prop where
 | mk (a:_) (_:x=.ref a) (_:(∃xs,bH K H1 a xs)) (_:R (NO K a) H1):Jw K R x H1
def VN (K:Frag)(tl:TE):TI:=fun σ H R=>tl σ H fun x H1=>Jw K R x H1
theorem bF {l:Expr}{tl:TE}(hl:PE X l tl):PI X tg l (NP X.K tl):=by
 intro pins s σ H R I h
 refine bK (hl pins s σ H _ I h) fun v s1 ⟨x,H1,I1,r1,q1⟩=> ?_
 obtain ⟨a,e,⟨xs,hq⟩,q⟩:=q1
 subst e
 cases r1
 obtain ⟨its,rv,p,hz⟩:=I1.list hq
 refine wpAny_pyIter_list p.isList ?_
 refine ⟨s1.heap.objs.size,[s1.heap.objs.size],_,_,H1,rfl,I1.kept (t' :=s1.toks) fun b o e=>Heap.get?_push_of_some _ e,xg a _,⟨_,Heap.get?_push_size _ rfl,rfl,rfl⟩,fun b hb=> ?_,q⟩
 have e:b=s1.heap.objs.size:=by simpa using hb
 subst e
 exact I1.iq (adf _) (I1.bh.fresh (adf _))
theorem KO {l:Expr}{tl:TE}(hl:PE X l tl):PI X tg l (VN X.K tl):=by
 intro pins s σ H R I h
 refine bK (hl pins s σ H _ I h) fun v s1 ⟨x,H1,I1,r1,q1⟩=> ?_
 obtain ⟨a,e,⟨xs,hq⟩,q⟩:=q1
 subst e
 cases r1
 obtain ⟨its,rv,p,hz⟩:=I1.tuple hq
 refine wpAny_pyIter_tuple (show s1.heap.IsTuple a its.toArray from p) ?_
 refine ⟨s1.heap.objs.size,[s1.heap.objs.size],_,_,H1,rfl,I1.kept (t' :=s1.toks) fun b o e=>Heap.get?_push_of_some _ e,ur a _,⟨_,Heap.get?_push_size _ rfl,rfl,rfl⟩,fun b hb=> ?_,q⟩
 have e:b=s1.heap.objs.size:=by simpa using hb
 subst e
 exact I1.iq (adf _) (I1.bh.fresh (adf _))
theorem zT {pins:List (Addr×Obj)}{σ:St}{H:Hp}{s:Shared}{R:It→Hp→Prop}{E:Value→Shared→Prop}{lo hi:Int}{t u v:Tok}{tk:Nat}(I:Inv X pins σ H s)(h1: -(2^62)≤lo)(h2:lo < 2^62)(h3: -(2^62)≤hi)(h4:hi < 2^62)
  (q:R (MZ lo (hi - lo).toNat) H):wpAny (model X.prog X.w) X.A (pyIter (.ref s.heap.objs.size)) (PIE X pins σ tg R) E {s with heap:=s.heap.push {cls:=.type "range",data:=.fields #[.int lo t,.int hi u,.int 1 v]},toks:=tk}:=by
 refine wpAny_pyIter_range (IsRange.new ..) (small_one h1 h2 h3 h4) ?_
 have I1:Inv X pins σ H {s with heap:=s.heap.push {cls:=.type "range",data:=.fields #[.int lo t,.int hi u,.int 1 v]},toks:=tk}:=I.kept fun b o e=>Heap.get?_push_of_some _ e
 refine ⟨(s.heap.push {cls:=.type "range",data:=.fields #[.int lo t,.int hi u,.int 1 v]}).objs.size,[(s.heap.push {cls:=.type "range",data:=.fields #[.int lo t,.int hi u,.int 1 v]}).objs.size],_,_,H,rfl,
  I1.kept (t' :=tk) fun b o e=>Heap.get?_push_of_some _ e,uu _ lo (hi - lo).toNat,?_,fun b hb=> ?_,q⟩
 ·have e1:lo+((0:Nat):Int)*1=lo:=by simp
  have e2:(((hi - lo).toNat:Nat):Int) - ((0:Nat):Int)=Builtin.Range.rangeSize lo hi 1:=by rw [rangeSize_one];split <;> omega
  show IsRangeIter _ _ (lo+((0:Nat):Int)*1) ((((hi - lo).toNat:Nat):Int) - ((0:Nat):Int)) 1
  rw [e1,e2]
  exact Heap.get?_push_size _ rfl
 ·have e:b=(s.heap.push {cls:=.type "range",data:=.fields #[.int lo t,.int hi u,.int 1 v]}).objs.size:=by simpa using hb
  subst e
  exact I1.iq (adf _) (I1.bh.fresh (adf _))
inductive zU (R:(It→Hp→Prop))(vs:List V)(H1:Hp):Prop where
 | mk (j:Int) (_:vs=[.int j]) (_: -(2^62)≤j) (_:j < 2^62) (_:R (MZ 0 j.toNat) H1):zU R vs H1
def NQ (ta:TA):TI:=fun σ H R=>ta σ H fun vs H1=>zU R vs H1
theorem dS {a:Expr}{ta:TA}{p pos:Pos}(hg:Gl X "range")(hm:X.mg "range"=none)(ha:PA X [a] ta)(hs:starEach [a] X.env=[(false,eval a X.env)]:=by rfl):PI X tg (.Call (.Name "range" p) [a] [] pos) (NQ ta):=by
 intro pins s σ H R I h
 refine Call_ (gi I hg hm boot_range (PyProof.Rows.callWith_type1 (bK (ha pos pins s σ H _ I h) fun us s1 ⟨vs,H1,I1,r1,q1⟩=> ?_) hs rfl))
 obtain ⟨j,e,q1,q2,q⟩:=q1
 subst e
 cases r1 with
 | cons r rr=>
  cases rr
  obtain ⟨t,rfl⟩:=r
  exact call_range_1 (zT I1 (by omega) (by omega) q1 q2 (by simpa using q))
def VO (wi:TI)(g:TG)(tb:TS):TS:=fun D σ H=>wi σ H fun J H1=>∃W:Nat→Nat→St→Hp→Prop,(∃m,W 0 m σ H1)∧∀i m σ H,W i m σ H→
 (J.stop i H∧D.nx σ H)∨(J.go i H∧∃N:St→Hp→Prop,(∀σ' H',N σ' H' →∃m',m' < m∧W (i+1) m' σ' H')∧∀x H',J.vJ i H x H' →g x σ H' fun σ2 H2=>tb {D with nx:=N,ct:=N,bk:=D.nx} σ2 H2)
def kZ (fp:List Addr)(h:Heap):List (Addr×Obj):=fp.filterMap fun b=>(h.get? b).map fun o=>(b,o)
theorem fE {fp:List Addr}{h:Heap}{b:Addr}{o:Obj}(hb:b∈fp)(e:h.get? b=some o):(b,o)∈kZ fp h:=alz.mpr ⟨b,hb,by rw [e];rfl⟩
theorem xh {fp:List Addr}{h:Heap}{p:Addr×Obj}(hp:p∈kZ fp h):p.1∈fp∧h.get? p.1=some p.2:=by
 obtain ⟨b,hb,e⟩:=alz.mp hp
 cases q:h.get? b with
 | none=>rw [q] at e;cases e
 | some o=>
  rw [q] at e
  have e' :(b,o)=p:=adB e
  subst e'
  exact ⟨hb,q⟩
theorem Inv.pinned {pins:List (Addr×Obj)}{σ:St}{H:Hp}{s:Shared}{fp:List Addr}(I:Inv X pins σ H s)(hf:∀b∈fp,i9 X pins H b)(ho:∀b∈fp,∃o,s.heap.get? b=some o∧∀v,o.data≠.cell v):Inv X (pins++kZ fp s.heap) σ H s:=
 I.vG fun p hp=>(adq.mp hp).elim (fun z=>I.pin p (adE _ z)) fun z=>by
  obtain ⟨hb,e⟩:=xh z
  obtain ⟨f0,f1,f2,_⟩:=hf p.1 hb
  obtain ⟨o,e',d⟩:=ho p.1 hb
  rw [e] at e';cases e'
  exact ⟨e,f0,f1,f2,d⟩
theorem Inv.gm {pins pl:List (Addr×Obj)}{σ:St}{H:Hp}{s:Shared}(I:Inv X (pins++pl) σ H s):Inv X pins σ H s:=I.vG fun p hp=>I.pin p (adE _ (adK _ hp))
theorem bo {iter:Expr}{body:List Stmt}{wi:TI}{g:TG}{tb:TS}{pos:Pos}(hp:PassesOwn (model X.prog X.w) X.A X.env X.xe)(hc:X.calm=true)(hi:PI X tg iter wi)(hg:PG X tg g)(hb:PSs X body tb)
  (hs:∀x,foldedSetIterable iter X.env x=pure x:=by intro _;rfl):PS X (.For tg iter body [] pos) (VO wi g tb):=by
 intro pins s σ H D I h
 refine wpAny_For (bK (hi pins s σ H _ I h) fun v s1 h1=>bK h1 fun UI s2 h2=> ?_) hs
 obtain ⟨it,fp,tn,J,H2,e,I2,T,Jx,f2,W,⟨m0,w0⟩,turn⟩:=h2
 subst e
 have stat:∀{H' :Hp},(∀b∈fp,H' b=none)→∀b∈fp,i9 X pins H' b:=fun hn b hb=>⟨hn b hb,(f2 b hb).2⟩
 refine codeAny_forLoop_any (fun n s' =>∃i σ' H',Inv X pins σ' H' s' ∧tn i s'.heap∧(∀b∈fp,H' b=none)∧W i n σ' H') ?_ m0 ⟨0,σ,H2,I2,Jx,fun b hb=>(f2 b hb).1,w0⟩
 rintro n s3 ⟨i,σ3,H3,I3,NR,fr3,w3⟩
 rcases turn i n σ3 H3 w3 with ⟨stop,qn⟩ | ⟨go,N,hN,step⟩
 ·refine wpAny_passesOwn hp (bK (T.done X rfl rfl rfl hc i pins s3 σ3 H3 X.xe I3 (stat fr3) NR stop) fun r s4 ⟨hr,I4⟩=> ?_)
  subst hr
  exact wpAny_execs_nil ⟨σ3,H3,I4,qn⟩
 ·refine wpAny_passesOwn hp (bK (T.item X rfl rfl rfl hc i pins s3 σ3 H3 X.xe I3 (stat fr3) NR go) fun r s4 ⟨u,hr,h4⟩=> ?_)
  subst hr
  refine wpAny_passesOwn hp (bK h4 fun _ s5 ⟨x,H5,I5,r5,y5,M0,UJ⟩=> ?_)
  have I5' :=I5.pinned (stat UJ) (T.obj _ _ M0)
  refine wpAny_passesOwn hp (bK (hg _ s5 σ3 H5 x u _ I5' r5 (step x H5 y5)) fun _ s6 ⟨σ6,H6,I6,q6⟩=> ?_)
  refine wpAny_passesOwn hp (bK (hb _ s6 σ6 H6 _ I6 q6) fun f s7 q7=> ?_)
  have again:∀{σ7:St} {H7:Hp},Inv X (pins++kZ fp s5.heap) σ7 H7 s7→N σ7 H7→∃m,m < n∧∃i σ' H',Inv X pins σ' H' s7∧tn i s7.heap∧(∀b∈fp,H' b=none)∧W i m σ' H' :=fun {σ7 H7} I7 n7=>by
   obtain ⟨m',hm,w7⟩:=hN σ7 H7 n7
   refine ⟨m',hm,i+1,σ7,H7,I7.gm,T.keep _ _ _ M0 fun b hb o e=>(I7.pin (b,o) (adE _ (adE _ (fE hb e)))).1,fun b hb=> ?_,w7⟩
   obtain ⟨o,e,d⟩:=T.obj _ _ M0 b hb
   exact (I7.pin (b,o) (adE _ (adE _ (fE hb e)))).2.1
  cases f with
  | next=>obtain ⟨σ7,H7,I7,n7⟩:=q7;exact again I7 n7
  | cont=>obtain ⟨σ7,H7,I7,n7⟩:=q7;exact again I7 n7
  | brk=>obtain ⟨σ7,H7,I7,q7⟩:=q7;exact ⟨σ7,H7,I7.gm,q7⟩
  | ret v=>obtain ⟨x7,σ7,H7,I7,r7,q7⟩:=q7;exact ⟨x7,σ7,H7,I7.gm,r7,q7⟩
end
theorem cv {K:Frag}{a:Addr}{xs:List V}{g:TG}{tb:TS}{D:Ends}{σ:St}{H:Hp}(Pv:Nat→St→Hp→Prop)(h0:Pv 0 σ H)(hl:∀i σ H,i≤xs.length→Pv i σ H→aU K H a xs)
  (hs:∀i x σ H,xs[i]? =some x→Pv i σ H→g x σ H fun σ2 H2=>tb {D with nx:=Pv (i+1),ct:=Pv (i+1),bk:=D.nx} σ2 H2) (hd:∀σ H,Pv xs.length σ H→D.nx σ H):
  ∃W:Nat→Nat→St→Hp→Prop,(∃m,W 0 m σ H)∧∀i m σ H,W i m σ H→
   ((KN K a).stop i H∧D.nx σ H)∨((KN K a).go i H∧∃N:St→Hp→Prop,(∀σ' H',N σ' H' →∃m',m' < m∧W (i+1) m' σ' H')∧∀x H',(KN K a).vJ i H x H' →g x σ H' fun σ2 H2=>tb {D with nx:=N,ct:=N,bk:=D.nx} σ2 H2):=by
 refine ⟨fun i m σ H=>m=xs.length - i∧i≤xs.length∧Pv i σ H,⟨xs.length,by simp,adL _,h0⟩,?_⟩
 rintro i m σ H ⟨rfl,hi,p⟩
 have q:=hl i σ H hi p
 by_cases g7:i < xs.length
 ·refine .inr ⟨⟨xs,xs[i],q,by simp [g7]⟩,Pv (i+1),fun σ' H' p' =>⟨xs.length - (i+1),by omega,rfl,g7,p'⟩,fun x H' y=> ?_⟩
  obtain ⟨e,y⟩:=y
  subst e
  exact hs i x σ _ (y xs q) p
 ·have e:i=xs.length:=by omega
  subst e
  exact .inl ⟨⟨xs,q,adf _⟩,hd σ H p⟩
theorem FW {K:Frag}{a:Addr}{xs:List V}{g:TG}{tb:TS}{D:Ends}{σ:St}{H:Hp}(Pv:Nat→St→Hp→Prop)(h0:Pv 0 σ H)(hl:∀i σ H,i≤xs.length→Pv i σ H→bH K H a xs)
  (hs:∀i x σ H,xs[i]? =some x→Pv i σ H→g x σ H fun σ2 H2=>tb {D with nx:=Pv (i+1),ct:=Pv (i+1),bk:=D.nx} σ2 H2) (hd:∀σ H,Pv xs.length σ H→D.nx σ H):
  ∃W:Nat→Nat→St→Hp→Prop,(∃m,W 0 m σ H)∧∀i m σ H,W i m σ H→
   ((NO K a).stop i H∧D.nx σ H)∨((NO K a).go i H∧∃N:St→Hp→Prop,(∀σ' H',N σ' H' →∃m',m' < m∧W (i+1) m' σ' H')∧∀x H',(NO K a).vJ i H x H' →g x σ H' fun σ2 H2=>tb {D with nx:=N,ct:=N,bk:=D.nx} σ2 H2):=by
 refine ⟨fun i m σ H=>m=xs.length - i∧i≤xs.length∧Pv i σ H,⟨xs.length,by simp,adL _,h0⟩,?_⟩
 rintro i m σ H ⟨rfl,hi,p⟩
 have q:=hl i σ H hi p
 by_cases g7:i < xs.length
 ·refine .inr ⟨⟨xs,xs[i],q,by simp [g7]⟩,Pv (i+1),fun σ' H' p' =>⟨xs.length - (i+1),by omega,rfl,g7,p'⟩,fun x H' y=> ?_⟩
  obtain ⟨e,y⟩:=y
  subst e
  exact hs i x σ _ (y xs q) p
 ·have e:i=xs.length:=by omega
  subst e
  exact .inl ⟨⟨xs,q,adf _⟩,hd σ H p⟩
theorem dW {lo:Int}{n:Nat}{g:TG}{tb:TS}{D:Ends}{σ:St}{H:Hp}(Pv:Nat→St→Hp→Prop)(h0:Pv 0 σ H)
  (hs:∀i σ H,i < n→Pv i σ H→g (.int (lo+i)) σ H fun σ2 H2=>tb {D with nx:=Pv (i+1),ct:=Pv (i+1),bk:=D.nx} σ2 H2) (hd:∀σ H,Pv n σ H→D.nx σ H):
  ∃W:Nat→Nat→St→Hp→Prop,(∃m,W 0 m σ H)∧∀i m σ H,W i m σ H→
   ((MZ lo n).stop i H∧D.nx σ H)∨((MZ lo n).go i H∧∃N:St→Hp→Prop,(∀σ' H',N σ' H' →∃m',m' < m∧W (i+1) m' σ' H')∧∀x H',(MZ lo n).vJ i H x H' →g x σ H' fun σ2 H2=>tb {D with nx:=N,ct:=N,bk:=D.nx} σ2 H2):=by
 refine ⟨fun i m σ H=>m=n - i∧i≤n∧Pv i σ H,⟨n,by simp,adL _,h0⟩,?_⟩
 rintro i m σ H ⟨rfl,hi,p⟩
 by_cases g7:i < n
 ·refine .inr ⟨g7,Pv (i+1),fun σ' H' p' =>⟨n - (i+1),by omega,rfl,g7,p'⟩,fun x H' y=> ?_⟩
  obtain ⟨e,y⟩:=y
  subst e y
  exact hs i σ _ g7 p
 ·have e:i=n:=by omega
  subst e
  exact .inl ⟨adf _,hd σ H p⟩
theorem rL {c:TT}{tb:TS}{D:Ends}{σ:St}{H:Hp}(Pv:St→Hp→Prop)(μ:St→Hp→Nat)(h0:Pv σ H)
  (hs:∀σ H,Pv σ H→c σ H fun b H1=>if b=true then tb {D with nx:=fun σ' H' =>Pv σ' H' ∧μ σ' H' < μ σ H,ct:=fun σ' H' =>Pv σ' H' ∧μ σ' H' < μ σ H,bk:=D.nx} σ H1 else D.nx σ H1)
  (mono:∀σ H Q Q',(∀b H1,Q b H1→Q' b H1)→c σ H Q→c σ H Q'):zQ c tb D σ H:=by
 refine ⟨fun m σ H=>m=μ σ H∧Pv σ H,⟨_,rfl,h0⟩,?_⟩
 rintro m σ H ⟨rfl,p⟩
 refine mono σ H _ _ (fun b H1 q=> ?_) (hs σ H p)
 cases b with
 | true=>exact ⟨_,fun σ' H' ⟨p',l⟩=>⟨_,l,rfl,p'⟩,q⟩
 | false=>exact q
end L2
namespace L2
open PySem PySem.Spec PyProof.Rows
abbrev R2:=V→V→Hp→VK→Prop
def gW (X:Cx)(f:Value→Value→Sem Value)(r:R2):Prop:=
 ∀(pins:List (Addr×Obj)) (s:Shared) (σ:St) (H:Hp) (x y:V) (v u:Value) (Q:VK),Inv X pins σ H s→RelV x v→RelV y u→r x y H Q→
  wpAny (model X.prog X.w) X.A (f v u) (EP X pins σ Q) X.xe s
def VP (X:Cx)(f:Value→Sem Value)(r:V→Hp→VK→Prop):Prop:=
 ∀(pins:List (Addr×Obj)) (s:Shared) (σ:St) (H:Hp) (x:V) (v:Value) (Q:VK),Inv X pins σ H s→RelV x v→r x H Q→
  wpAny (model X.prog X.w) X.A (f v) (EP X pins σ Q) X.xe s
def eO (X:Cx)(f:Value)(r:List V→Hp→VK→Prop):Prop:=
 ∀(pins:List (Addr×Obj)) (s:Shared) (σ:St) (H:Hp) (xs:List V) (us:List Value) (Q:VK),Inv X pins σ H s→Vals xs us→r xs H Q→
  wpAny (model X.prog X.w) X.A (call f us) (EP X pins σ Q) X.xe s
def M1 (r:R2)(ta tb:TE):TE:=fun σ H Q=>ta σ H fun x H1=>tb σ H1 fun y H2=>r x y H2 Q
def tUn (r:V→Hp→VK→Prop)(ta:TE):TE:=fun σ H Q=>ta σ H fun x H1=>r x H1 Q
inductive rI (C:Int→Int→Prop)(g:Int→Int→V)(x:V)(y:V)(H:Hp)(Q:VK):Prop where
 | mk (i j:_) (_:x=.int i) (_:y=.int j) (_:C i j) (_:Q (g i j) H):rI C g x y H Q
inductive FX (g:Int→Int→V)(x:V)(y:V)(H:Hp)(Q:VK):Prop where
 | mk (i j:_) (_:x=.int i) (_:y=.int j) (_:Q (g i j) H):FX g x y H Q
inductive rU (g:Int→V)(x:V)(H:Hp)(Q:VK):Prop where
 | mk (i:_) (_:x=.int i) (_:Q (g i) H):rU g x H Q
section
variable {X:Cx}{a b c:Expr}{ta tb tc:TE}{pos:Pos}
theorem KP (ha:PE X a ta)(hb:PE X b tb){pins:List (Addr×Obj)}{s:Shared}{σ:St}{H:Hp}{R:V→V→Hp→Prop}(I:Inv X pins σ H s)
  (h:ta σ H fun x H1=>tb σ H1 fun y H2=>R x y H2) {Q:Value→Shared→Prop} {f:Value→Value→Sem Value}
  (hf:∀v u s2 x y H2,Inv X pins σ H2 s2→RelV x v→RelV y u→R x y H2→wpAny (model X.prog X.w) X.A (f v u) Q X.xe s2):
  wpAny (model X.prog X.w) X.A (eval a X.env) (fun v s₁=>wpAny (model X.prog X.w) X.A (eval b X.env) (fun u s₂=>wpAny (model X.prog X.w) X.A (f v u) Q X.xe s₂) X.xe s₁) X.xe s:=by
 refine bK (ha pins s σ H _ I h) fun v s1 ⟨x,H1,I1,r1,q1⟩=> ?_
 refine bK (hb pins s1 σ H1 _ I1 q1) fun u s2 ⟨y,H2,I2,r2,q2⟩=> ?_
 exact hf v u s2 x y H2 I2 r1 r2 q2
theorem aA {op:Operator}{r:R2}(ho:gW X (binaryOp op) r)(ha:PE X a ta)(hb:PE X b tb):PE X (.BinOp a op b pos) (M1 r ta tb):=by
 intro pins s σ H Q I h
 exact wpAny_BinOp (KP ha hb I h fun v u s2 x y H2 I2 rx ry q=>ho pins s2 σ H2 x y v u Q I2 rx ry q)
theorem Jy {op:UnaryOp}{r:V→Hp→VK→Prop}(ho:VP X (unaryOp op) r)(ha:PE X a ta):PE X (.UnaryOp op a pos) (tUn r ta):=by
 intro pins s σ H Q I h
 exact UnaryOp_ (bK (ha pins s σ H _ I h) fun v s1 ⟨x,H1,I1,r1,q1⟩=>ho pins s1 σ H1 x v Q I1 r1 q1)
theorem NS {f:Value→Value→Sem Value}{C:Int→Int→Prop}{g:Int→Int→Int}
  (rule:∀(i j:Int) (t u:Tok) (s:Shared) (Q:Value→Shared→Prop) (E:Value→Shared→Prop),C i j→Q (.int (g i j) s.toks) {s with toks:=s.toks+1}→wpAny (model X.prog X.w) X.A (f (.int i t) (.int j u)) Q E s):
  gW X f (rI C fun i j=>.int (g i j)):=by
 intro pins s σ H x y v u Q I rx ry h
 obtain ⟨i,j,rfl,rfl,hc,q⟩:=h
 obtain ⟨t,rfl⟩:=rx
 obtain ⟨t',rfl⟩:=ry
 exact rule i j t t' s _ _ hc ⟨.int (g i j),H,I.tok _,⟨_,rfl⟩,q⟩
theorem NT {f:Value→Value→Sem Value}{g:Int→Int→Int}
  (rule:∀(i j:Int) (t u:Tok) (s:Shared) (Q:Value→Shared→Prop) (E:Value→Shared→Prop),Q (.int (g i j) s.toks) {s with toks:=s.toks+1}→wpAny (model X.prog X.w) X.A (f (.int i t) (.int j u)) Q E s):
  gW X f (FX fun i j=>.int (g i j)):=by
 intro pins s σ H x y v u Q I rx ry h
 obtain ⟨i,j,rfl,rfl,q⟩:=h
 obtain ⟨t,rfl⟩:=rx
 obtain ⟨t',rfl⟩:=ry
 exact rule i j t t' s _ _ ⟨.int (g i j),H,I.tok _,⟨_,rfl⟩,q⟩
theorem FY {f:Value→Value→Sem Value}{g:Int→Int→Bool}
  (rule:∀(i j:Int) (t u:Tok) (s:Shared) (Q:Value→Shared→Prop) (E:Value→Shared→Prop),Q (.bool (g i j)) s→wpAny (model X.prog X.w) X.A (f (.int i t) (.int j u)) Q E s):
  gW X f (FX fun i j=>.bl (g i j)):=by
 intro pins s σ H x y v u Q I rx ry h
 obtain ⟨i,j,rfl,rfl,q⟩:=h
 obtain ⟨t,rfl⟩:=rx
 obtain ⟨t',rfl⟩:=ry
 exact rule i j t t' s _ _ ⟨.bl (g i j),H,I,rfl,q⟩
def FZ (i j:Int):Prop:=0≤j∧j≤1000000∧i.natAbs < 2^64
theorem bx:gW X (binaryOp .Add) (FX fun i j=>.int (i+j)):=NT fun _ _ _ _ _ _ _ q=>add_int q
theorem c8:gW X (binaryOp .Sub) (FX fun i j=>.int (i - j)):=NT fun _ _ _ _ _ _ _ q=>sub_int q
theorem F_:gW X (binaryOp .Mod) (rI (fun _ j=>j≠0) fun i j=>.int (i.fmod j)):=NS fun _ _ _ _ _ _ _ hc q=>mod_int' hc q
theorem oT:gW X (binaryOp .Pow) (rI FZ fun i j=>.int (i^j.toNat)):=NS fun _ _ _ _ _ _ _ hc q=>pow_int_small hc.1 hc.2.1 hc.2.2 q
theorem unI {f:Value→Sem Value}{g:Int→Int}
  (rule:∀(i:Int) (t:Tok) (s:Shared) (Q:Value→Shared→Prop) (E:Value→Shared→Prop),Q (.int (g i) s.toks) {s with toks:=s.toks+1}→wpAny (model X.prog X.w) X.A (f (.int i t)) Q E s):
  VP X f (rU fun i=>.int (g i)):=by
 intro pins s σ H x v Q I rx h
 obtain ⟨i,rfl,q⟩:=h
 obtain ⟨t,rfl⟩:=rx
 exact rule i t s _ _ ⟨.int (g i),H,I.tok _,⟨_,rfl⟩,q⟩
theorem zV:VP X (unaryOp .USub) (rU fun i=>.int (-i)):=unI fun _ _ _ _ _ q=>neg_int q
end
def NU:V→V→Bool
 | .cp,.cp=>true | .cp,.int _=>true | .int _,.cp=>true | .cp,.bl _=>true | .bl _,.cp=>true | .cp,.str _=>true | .str _,.cp=>true
 | .int _,.int _=>true | .bl _,.bl _=>true | .str _,.str _=>true | .byt _,.byt _=>true
 | .int _,.str _=>true | .str _,.int _=>true | .bl _,.str _=>true | .str _,.bl _=>true
 | _,_=>false
def rEq:R2:=fun x y H Q=>NU x y=true∧Q (.bl (decide (x=y))) H
def rNe:R2:=fun x y H Q=>NU x y=true∧Q (.bl (!decide (x=y))) H
theorem vK {i j:Int}:decide (V.int i=V.int j)=(i==j):=by
 rw [aeA]
 simp
theorem zW {i j:Bool}:decide (V.bl i=V.bl j)=(i==j):=by
 rw [aeA]
 simp
theorem vL {i j:Str}:decide (V.str i=V.str j)=(i==j):=by
 rw [aeA]
 simp
theorem vM {i j:Array UInt8}:decide (V.byt i=V.byt j)=(i.toList==j.toList):=by
 rw [aeA]
 cases i
 cases j
 simp
section
variable {X:Cx}{a b c:Expr}{ta tb tc:TE}{pos:Pos}
theorem ba {pins:List (Addr×Obj)}{σ:St}{H:Hp}{s:Shared}{Q:VK}{k k' :Bool}(I:Inv X pins σ H s)(q:Q (.bl k) H)(e:k=k'):EP X pins σ Q (.bool k') s:=by
 subst e
 exact ⟨.bl k,H,I,rfl,q⟩
theorem cZ:gW X (compareOp .Eq) rEq:=by
 intro pins s σ H x y v u Q I rx ry h
 obtain ⟨hs,q⟩:=h
 cases x with
 | cp=>
  cases rx
  cases y with
  | cp=>cases ry;exact PySem.EqNone.eq_none_none (ba I q (by simp))
  | bl j=>cases ry;exact PySem.EqNone.eq_none_bool (ba I q (by simp))
  | int j=>obtain ⟨t',rfl⟩:=ry;exact PySem.EqNone.eq_none_int (ba I q (by simp))
  | str j=>obtain ⟨t',rfl⟩:=ry;exact PySem.EqNone.eq_none_str (ba I q (by simp))
  | _=>exact absurd (show false=true from hs) ads
 | bl i=>
  cases rx
  cases y with
  | cp=>cases ry;exact PySem.EqNone.eq_bool_none (ba I q (by simp))
  | bl j=>cases ry;exact eq_bool (ba I q zW)
  | str j=>obtain ⟨t',rfl⟩:=ry;exact PySem.EqMixed.eq_bool_str (ba I q (by simp))
  | _=>exact absurd (show false=true from hs) ads
 | int i=>
  obtain ⟨t,rfl⟩:=rx
  cases y with
  | cp=>cases ry;exact PySem.EqNone.eq_int_none (ba I q (by simp))
  | int j=>obtain ⟨t',rfl⟩:=ry;exact eq_int (ba I q vK)
  | str j=>obtain ⟨t',rfl⟩:=ry;exact PySem.EqMixed.eq_int_str (ba I q (by simp))
  | _=>exact absurd (show false=true from hs) ads
 | str i=>
  obtain ⟨t,rfl⟩:=rx
  cases y with
  | cp=>cases ry;exact PySem.EqNone.eq_str_none (ba I q (by simp))
  | bl j=>cases ry;exact PySem.EqMixed.eq_str_bool (ba I q (by simp))
  | int j=>obtain ⟨t',rfl⟩:=ry;exact PySem.EqMixed.eq_str_int (ba I q (by simp))
  | str j=>obtain ⟨t',rfl⟩:=ry;exact eq_str (ba I q vL)
  | _=>exact absurd (show false=true from hs) ads
 | byt i=>
  obtain ⟨t,rfl⟩:=rx
  cases y with
  | byt j=>obtain ⟨t',rfl⟩:=ry;exact PySem.W.eq_bytes (ba I q vM)
  | _=>exact absurd (show false=true from hs) ads
 | _=>cases y <;> exact absurd (show false=true from hs) ads
theorem vN:gW X (compareOp .NotEq) rNe:=by
 intro pins s σ H x y v u Q I rx ry h
 obtain ⟨hs,q⟩:=h
 cases x with
 | cp=>
  cases rx
  cases y with
  | cp=>cases ry;exact PySem.EqNone.ne_none_none (ba I q (by simp))
  | bl j=>cases ry;exact PySem.EqNone.ne_none_bool (ba I q (by simp))
  | int j=>obtain ⟨t',rfl⟩:=ry;exact PySem.EqNone.ne_none_int (ba I q (by simp))
  | str j=>obtain ⟨t',rfl⟩:=ry;exact PySem.EqNone.ne_none_str (ba I q (by simp))
  | _=>exact absurd (show false=true from hs) ads
 | bl i=>
  cases rx
  cases y with
  | cp=>cases ry;exact PySem.EqNone.ne_bool_none (ba I q (by simp))
  | bl j=>cases ry;exact ne_bool (ba I q (congrArg not zW))
  | str j=>obtain ⟨t',rfl⟩:=ry;exact PySem.EqMixed.ne_bool_str (ba I q (by simp))
  | _=>exact absurd (show false=true from hs) ads
 | int i=>
  obtain ⟨t,rfl⟩:=rx
  cases y with
  | cp=>cases ry;exact PySem.EqNone.ne_int_none (ba I q (by simp))
  | int j=>obtain ⟨t',rfl⟩:=ry;exact ne_int (ba I q (congrArg not vK))
  | str j=>obtain ⟨t',rfl⟩:=ry;exact PySem.EqMixed.ne_int_str (ba I q (by simp))
  | _=>exact absurd (show false=true from hs) ads
 | str i=>
  obtain ⟨t,rfl⟩:=rx
  cases y with
  | cp=>cases ry;exact PySem.EqNone.ne_str_none (ba I q (by simp))
  | bl j=>cases ry;exact PySem.EqMixed.ne_str_bool (ba I q (by simp))
  | int j=>obtain ⟨t',rfl⟩:=ry;exact PySem.EqMixed.ne_str_int (ba I q (by simp))
  | str j=>obtain ⟨t',rfl⟩:=ry;exact ne_str (ba I q (congrArg not vL))
  | _=>exact absurd (show false=true from hs) ads
 | byt i=>
  obtain ⟨t,rfl⟩:=rx
  cases y with
  | byt j=>obtain ⟨t',rfl⟩:=ry;exact PySem.W.ne_bytes (ba I q (congrArg not vM))
  | _=>exact absurd (show false=true from hs) ads
 | _=>cases y <;> exact absurd (show false=true from hs) ads
theorem nR:gW X (compareOp .Lt) (FX fun i j=>.bl (decide (i < j))):=FY fun _ _ _ _ _ _ _ q=>lt_int q
theorem NV:gW X (compareOp .LtE) (FX fun i j=>.bl (decide (i≤j))):=FY fun _ _ _ _ _ _ _ q=>le_int q
theorem zX:gW X (compareOp .Gt) (FX fun i j=>.bl (decide (j < i))):=FY fun _ _ _ _ _ _ _ q=>gt_int q
theorem vO:gW X (compareOp .GtE) (FX fun i j=>.bl (decide (j≤i))):=FY fun _ _ _ _ _ _ _ q=>ge_int q
theorem zY:gW X (compareOp .Is) (fun x y H Q=>y=.cp∧Q (.bl (decide (x=.cp))) H):=by
 intro pins s σ H x y v u Q I rx ry h
 obtain ⟨rfl,q⟩:=h
 cases ry
 refine is_none_gen (ba I q ?_)
 cases x <;> first
  | (cases rx;rfl)
  | (obtain ⟨t,rfl⟩:=rx;rfl)
theorem F':gW X (compareOp .IsNot) (fun x y H Q=>y=.cp∧Q (.bl (!decide (x=.cp))) H):=by
 intro pins s σ H x y v u Q I rx ry h
 obtain ⟨rfl,q⟩:=h
 cases ry
 refine isnot_none_gen (ba I q ?_)
 cases x <;> first
  | (cases rx;rfl)
  | (obtain ⟨t,rfl⟩:=rx;rfl)
theorem aZ (b:Expr){op:CmpOp}(h:op≠.In:=by decide)(h2:op≠.NotIn:=by decide):behindInMarks op b=false:=by
 have e1:(op==CmpOp.In)=false:=by cases op <;> first | rfl | exact absurd rfl h
 have e2:(op==CmpOp.NotIn)=false:=by cases op <;> first | rfl | exact absurd rfl h2
 cases b <;> simp [behindInMarks,e1,e2]
theorem oU {op:CmpOp}{r:R2}(ho:gW X (compareOp op) r)(ha:PE X a ta)(hb:PE X b tb)(hm:behindInMarks op b=false):PE X (.Compare a [op] [b] pos) (M1 r ta tb):=by
 intro pins s σ H Q I h
 exact wpAny_Compare1 (KP ha hb I h fun v u s2 x y H2 I2 rx ry q=>ho pins s2 σ H2 x y v u Q I2 rx ry q) hm
inductive zZ (Q:(Bool→Hp→Prop))(x:V)(H' :Hp):Prop where
 | mk (k:_) (_:x=.bl k) (_:Q k H'):zZ Q x H'
def NW (t:TE):TT:=fun σ H Q=>t σ H fun x H' =>zZ Q x H'
theorem aL {op:CmpOp}{r:R2}(ho:gW X (compareOp op) r)(ha:PE X a ta)(hb:PE X b tb)(hm:behindInMarks op b=false):PT X (.Compare a [op] [b] pos) (NW (M1 r ta tb)):=by
 intro pins s σ H Q I h
 refine wpAny_isTrue_Compare1 (bK (ha pins s σ H _ I h) fun v s1 ⟨x,H1,I1,r1,q1⟩=>bK (hb pins s1 σ H1 _ I1 q1) fun u s2 ⟨y,H2,I2,r2,q2⟩=>
  bK (ho pins s2 σ H2 x y v u _ I2 r1 r2 q2) fun c s3 ⟨z,H3,I3,r3,k,e,q3⟩=> ?_) hm
 subst e
 cases r3
 exact wpAny_truthy_bool ⟨H3,I3,q3⟩
def KQ (r r' :R2)(ta tb tc:TE):TE:=fun σ H Q=>ta σ H fun x H1=>tb σ H1 fun y H2=>r x y H2 fun z H3=>∃k,z=.bl k∧
 (if k=true then tc σ H3 fun w' H4=>r' y w' H4 Q else Q (.bl false) H3)
theorem z4 {op VQ :CmpOp}{r r' :R2}(ho:gW X (compareOp op) r)(FT :gW X (compareOp VQ) r')(ha:PE X a ta)(hb:PE X b tb)(hc:PE X c tc)
  (hm:lastMarks [op,VQ] [b,c]=false:=by with_unfolding_all rfl):PE X (.Compare a [op,VQ] [b,c] pos) (KQ r r' ta tb tc):=by
 intro pins s σ H Q I h
 refine Compare_chain (bK (ha pins s σ H _ I h) fun v s1 ⟨x,H1,I1,r1,q1⟩=>chain_link (bK (hb pins s1 σ H1 _ I1 q1) fun u s2 ⟨y,H2,I2,r2,q2⟩=>
  bK (ho pins s2 σ H2 x y v u _ I2 r1 r2 q2) fun d s3 ⟨z,H3,I3,r3,k,e,q3⟩=> ?_)) hm
 subst e
 cases r3
 refine wpAny_truthy_bool ?_
 cases k with
 | false=>exact ite_ff ⟨.bl false,H3,I3,rfl,q3⟩
 | true=>exact ite_tt (chain_last (bK (hc pins s3 σ H3 _ I3 q3) fun w' s4 ⟨z',H4,I4,r4,q4⟩=>FT pins s4 σ H4 y z' u w' Q I4 r2 r4 q4))
theorem k8:(sizeLine:Nat) < 2^63:=by rw [sizeLine_eq];decide
theorem g8:gW X (binaryOp .Add) (fun x y H Q=>∃i j,x=.str i∧y=.str j∧i.length+j.length≤sizeLine∧Q (.str (i++j)) H):=by
 intro pins s σ H x y v u Q I rx ry h
 obtain ⟨i,j,rfl,rfl,hz,q⟩:=h
 obtain ⟨t,rfl⟩:=rx
 obtain ⟨t',rfl⟩:=ry
 exact add_str (fun t' tk=>⟨.str (i++j),H,I.tok _,⟨_,rfl⟩,q⟩) hz
theorem vals1 {x:V}{us:List Value}(r:Vals [x] us):∃u,us=[u]∧RelV x u:=by
 cases r with
 | cons r1 r2=>cases r2;exact ⟨_,rfl,r1⟩
theorem vals2 {x y:V}{us:List Value}(r:Vals [x,y] us):∃u w',us=[u,w']∧RelV x u∧RelV y w' :=by
 cases r with
 | cons r1 r2=>
  cases r2 with
  | cons r3 r4=>cases r4;exact ⟨_,_,rfl,r1,r3⟩
theorem k9:eO X (.builtin "abs") (fun xs H Q=>∃i,xs=[.int i]∧Q (.int (if i < 0 then -i else i)) H):=by
 intro pins s σ H xs us Q I r h
 obtain ⟨i,rfl,q⟩:=h
 obtain ⟨u,rfl,t,rfl⟩:=vals1 r
 exact call_abs_int fun u tk=>⟨.int (if i < 0 then -i else i),H,I.tok _,⟨_,rfl⟩,q⟩
theorem xi (hc:X.calm=true):eO X (.builtin "min") (fun xs H Q=>∃i j,xs=[.int i,.int j]∧Q (.int (if j < i then j else i)) H):=by
 intro pins s σ H xs us Q I r h
 obtain ⟨i,j,rfl,q⟩:=h
 obtain ⟨u,w',rfl,⟨t,rfl⟩,⟨t',rfl⟩⟩:=vals2 r
 refine min_two_ints (I.ok.hd hc) fun h' tk k=>⟨_,H,I.kept k,?_,q⟩
 by_cases hj:j < i
 ·rw [if_pos hj,if_pos hj];exact ⟨_,rfl⟩
 ·rw [if_neg hj,if_neg hj];exact ⟨_,rfl⟩
theorem nS:eO X (.type "int") (fun xs H Q=>(∃i,xs=[.int i]∧Q (.int i) H)∨∃k,xs=[.bl k]∧Q (.int (if k then 1 else 0)) H):=by
 intro pins s σ H xs us Q I r h
 rcases h with ⟨i,rfl,q⟩ | ⟨k,rfl,q⟩
 ·obtain ⟨u,rfl,t,rfl⟩:=vals1 r
  exact call_int_int ⟨.int i,H,I,⟨_,rfl⟩,q⟩
 ·obtain ⟨u,rfl,r1⟩:=vals1 r
  cases r1
  exact call_int_bool ⟨.int (if k then 1 else 0),H,I.tok _,⟨_,rfl⟩,q⟩
theorem oV:eO X (.type "str") (fun xs H Q=>∃i,xs=[.int i]∧i.natAbs.log2 < 1920∧Q (.str (toString i)) H):=by
 intro pins s σ H xs us Q I r h
 obtain ⟨i,rfl,hz,q⟩:=h
 obtain ⟨u,rfl,t,rfl⟩:=vals1 r
 exact PySem.P.str_of_int hz ⟨.str _,H,I.tok _,⟨_,rfl⟩,q⟩
end
end L2
namespace L2
open PySem PySem.Spec PyProof.Rows
structure uv (h:Heap)(x dx C:Addr)(mA:Str→Option Value):Prop where
 obj:h.get? x=some (PySem.W.instObj C dx)
 ns:h.Ns1 dx mA
 ne:dx≠x
theorem xj {h:Heap}{dx:Addr}{mA:Str→Option Value}(n:h.Ns1 dx mA):∃od,h.get? dx=some od∧∀name,PySem.W.lookIn name od=some (mA name):=by
 obtain ⟨o,es,ep,ho,hd,hk,_,hm⟩:=n
 refine ⟨o,ho,fun name=> ?_⟩
 have e:=hm name
 unfold nsFind findBy at e
 rw [← Array.find?_toList] at e
 unfold PySem.W.lookIn
 rw [hd]
 dsimp only
 split
 ·rename_i y q
  rw [q] at e
  exact congrArg some e
 ·rename_i q
  rw [q] at e
  have a:es.toList.any (·.refKey)=false:=by
   rw [List.any_eq_false]
   intro y hy
   obtain ⟨z,t,z6⟩:=hk y (Array.mem_toList_iff.mp hy)
   simp [DictEntry.refKey,z6]
  have a' :¬ es.toList.any (·.refKey)=true:=by rw [a];exact ads
  rw [if_neg a']
  exact congrArg some e
theorem uv.look {h:Heap}{x dx C:Addr}{mA:Str→Option Value}(I:uv h x dx C mA):∃od,PySem.W.InstAt h x (PySem.W.instObj C dx) C (some od)∧∀name,PySem.W.lookIn name od=some (mA name):=
 let ⟨od,ho,hl⟩:=xj I.ns
 ⟨od,⟨I.obj,rfl,rfl,ho⟩,hl⟩
section
variable {prog:Program}{w:World}{A:Around}{E:Value→Shared→Prop}{s:Shared}{K:Frag}{x dx C f:Addr}{mA:Str→Option Value}{name:Str}{v:Value}
theorem get_map {expr:Bool}{Q:Value→Shared→Prop}(X:K.In s.heap)(I:uv s.heap x dx C mA)(hg:PySem.W.plainGet K C name=true)(hh:PySem.W.hasDictIn K C=true)
  (ha:PySem.W.findIn K (.ref C) name=some none) (hv:mA name=some v) (KR :PySem.W.handedIn v=true) (h:Q v {s with toks:=s.toks+1}):
  wpAny (model prog w) A (getAttr (.ref x) name expr) Q E s:=by
 obtain ⟨od,J,hl⟩:=I.look
 exact PySem.W.get_value X J (PySem.W.plainGet_of hg).1 (PySem.W.findObj_own hh ha rfl (by rw [hl,hv])) KR h
theorem z7 {pl:Sem Bool}{Q:Value×List Value→Shared→Prop}(X:K.In s.heap)(I:uv s.heap x dx C mA)(hg:PySem.W.plainGet K C name=true)
  (hf:PySem.W.findIn K (.ref C) name=some (some (.ref f))) (ht:PySem.W.isFn K (.ref f)=true) (hv:mA name=none) (h:Q (.ref f,[.ref x]) s):
  wpAny (model prog w) A (getMethod (.ref x) name pl) Q E s:=by
 obtain ⟨od,J,hl⟩:=I.look
 exact PySem.W.method_fn X J (PySem.W.plainGet_of hg).1 (PySem.W.plainGet_of hg).2 hf (beq_iff_eq.mp ht) (by show (PySem.W.lookIn name od).map (·.isSome)=some false;rw [hl,hv];rfl) h
theorem GB {ns:List Str}{Q:Unit→Shared→Prop}(X:K.In s.heap)(I:uv s.heap x dx C mA)
  (hs:PySem.W.findIn K (.ref C) "__setattr__"=some (some (.builtin "object.__setattr__"))) (hp:PySem.W.plainOver K C=true) (ht:PySem.W.takerIn K C name=some none) (hh:PySem.W.hasDictIn K C=true)
  (hw:PySem.Within mA ns) (hsz:ns.length≤sizeLine)
  (h:∀h',uv h' x dx C (fun y=>if y=name then some v else mA y)→Heap.SameBut dx s.heap h' →Q () {s with heap:=h',toks:=s.toks+2}):
  wpAny (model prog w) A (setAttr (.ref x) name v) Q E s:=by
 obtain ⟨od,J,hl⟩:=I.look
 refine PySem.W.set_plain X J hs (PySem.W.osa_open (s:={s with toks:=s.toks+1}) (r:=none) X J hp ht fun b=> ?_)
 obtain ⟨cd,hc,EB⟩:=PySem.W.any_some hh
 have hx:s.heap.get? x=some ⟨.ref C,some dx,.plain, #[]⟩:=I.obj
 refine wpAny_bind (wpAny_pure (wpAny_bind (wpAny_bind (wpAny_loadPart hx (wpAny_bind (PySem.W.Looks.here (s:={s with toks:=s.toks+1}) (PySem.W.looks_clsIn X hc) ?_))))))
 rw [EB]
 refine wpAny_pure (a:=some dx) (wpAny_bind (wpAny_pure (wpAny_bind ?_)))
 refine wpAny_nsSet1 (s:={s with toks:=s.toks+1}) I.ns fun h' M3 ED=> ?_
 obtain ⟨oD,esD,epD,hoD,hdD,hcD⟩:=M3.count (PySem.Within.cons name v hw)
 refine wpAny_bind (wpAny_lookBehind hoD (by rw [hdD];exact pastItsLine_dict (adb hcD (by rw [adI];omega))) ?_)
 exact wpAny_pure (h _ ⟨(ED.2 _ (adG I.ne)).trans I.obj,M3,I.ne⟩ ED)
theorem z8 {R:Result→Shared→Prop}{vs:List Value}{kw:List (Str×Value)}(X:K.In s.heap)(hm:PySem.W.makesIn K C=true)
  (hi:PySem.W.findIn K (.ref C) "__init__"=some (some (.ref f))) (hf:PySem.W.typeIn K (.ref f)=some (.type "function"))
  (h:codeAny (model prog w) (A.under (.builtin "type.__call__" ⟨.ref C::vs,kw⟩)) (.call (.ref f) ⟨.ref (s.heap.objs.size+1)::vs,kw⟩) (PySem.W.InitBack (s.heap.objs.size+1) R)
   {s with heap:=(s.heap.push PySem.W.emptyDict).push (PySem.W.instObj C s.heap.objs.size)}):
  codeAny (model prog w) A (.call (.ref C) ⟨vs,kw⟩) R s:=by
 obtain ⟨hh,g,d,t,os⟩:=s
 exact PySem.W.make_core (PySem.W.makes_of X hm) (PySem.W.looks_findIn X hi) (fun self=>PySem.W.bind_fn X self hf) (.inl rfl) h
theorem xk {R:Result→Shared→Prop}(X:K.In s.heap)(hm:PySem.W.makesIn K C=true)
  (hi:PySem.W.findIn K (.ref C) "__init__"=some (some (.builtin "object.__init__")))
  (hb:∀self,PySem.W.Looks (model prog w) s.heap (bindSpecial (.builtin "object.__init__") self) (.builtin "object.__init__",[self]))
  (h:codeAny (model prog w) (A.under (.builtin "type.__call__" ⟨[.ref C],[]⟩)) (.call (.builtin "object.__init__") ⟨[.ref (s.heap.objs.size+1)],[]⟩) (PySem.W.InitBack (s.heap.objs.size+1) R)
   {s with heap:=(s.heap.push PySem.W.emptyDict).push (PySem.W.instObj C s.heap.objs.size)}):
  codeAny (model prog w) A (.call (.ref C) ⟨[],[]⟩) R s:=by
 obtain ⟨hh,g,d,t,os⟩:=s
 exact PySem.W.make_core (PySem.W.makes_of X hm) (PySem.W.looks_findIn X hi) hb (.inr ⟨rfl,rfl⟩) h
end
def eY (f:Str)(v:V):List (Str×V)→List (Str×V)
 | []=>[(f,v)]
 | (g,x)::r=>if g=f then (g,v)::r else (g,x)::eY f v r
theorem jN (f g:Str)(v:V):∀fs:List (Str×V),(eY f v fs).lookup g=if g=f then some v else fs.lookup g
 | []=>by
  show aep g [(f,v)]=_
  by_cases h:g=f
  ·have hb:(g==f)=true:=beq_iff_eq.mpr h
   simp only [aep,hb,if_pos h]
  ·have hb:(g==f)=false:=beq_eq_false_iff_ne.mpr h
   simp only [aep,hb,if_neg h]
 | (k,x)::r=>by
  have ih:=jN f g v r
  rw [show eY f v ((k,x)::r)=(if k=f then (k,v)::r else (k,x)::eY f v r) from rfl]
  by_cases hk:k=f
  ·rw [if_pos hk]
   by_cases h:g=k
   ·have hb:(g==k)=true:=beq_iff_eq.mpr h
    simp only [aep,hb,if_pos (h.trans hk)]
   ·have hb:(g==k)=false:=beq_eq_false_iff_ne.mpr h
    simp only [aep,hb,if_neg (fun e:g=f=>h (e.trans hk.symm))]
  ·rw [if_neg hk]
   by_cases h:g=k
   ·have hb:(g==k)=true:=beq_iff_eq.mpr h
    simp only [aep,hb,if_neg (fun e:g=f=>hk (h.symm.trans e))]
   ·have hb:(g==k)=false:=beq_eq_false_iff_ne.mpr h
    simp only [aep,hb]
    exact ih
theorem i_ (f:Str)(v:V):∀fs:List (Str×V),f∈(eY f v fs).map (·.1)∧∀g,g∈fs.map (·.1)→g∈(eY f v fs).map (·.1)
 | []=>⟨by simp [eY],fun g h=>by simp at h⟩
 | (k,x)::r=>by
  obtain ⟨i1,i2⟩:=i_ f v r
  rw [show eY f v ((k,x)::r)=(if k=f then (k,v)::r else (k,x)::eY f v r) from rfl]
  by_cases hk:k=f
  ·rw [if_pos hk]
   subst hk
   exact ⟨by simp,fun g h=>by simpa using h⟩
  ·rw [if_neg hk]
   refine ⟨?_,fun g h=> ?_⟩
   ·rw [ada]
    exact ade _ i1
   ·rw [ada] at h ⊢
    rcases adz.mp h with e | e
    ·exact adz.mpr (.inl e)
    ·exact ade _ (i2 g e)
theorem jO (f:Str)(v:V):∀fs:List (Str×V),(eY f v fs).length≤fs.length+1
 | []=>by simp [eY]
 | (k,x)::r=>by
  have ih:=jO f v r
  rw [show eY f v ((k,x)::r)=(if k=f then (k,v)::r else (k,x)::eY f v r) from rfl]
  by_cases hk:k=f
  ·rw [if_pos hk,adI,adI];omega
  ·rw [if_neg hk,adI,adI];omega
theorem gd.some_of {v:V}{o:Option Value}(r:gd (some v) o):∃u,o=some u∧RelV v u:=by
 cases o with
 | none=>exact (show False from r).elim
 | some u=>exact ⟨u,rfl,r⟩
theorem gd.none_of {o:Option Value}(r:gd none o):o=none:=by
 cases o with
 | none=>rfl
 | some u=>exact (show False from r).elim
theorem xl {v:V}{u:Value}(r:RelV v u):PySem.W.handedIn u=true:=by
 cases v with
 | cp=>cases (show u=Value.none from r);rfl
 | bl b=>cases (show u=Value.bool b from r);rfl
 | int i=>obtain ⟨t,e⟩:=(show ∃t,u=Value.int i t from r);cases e;rfl
 | str x=>obtain ⟨t,e⟩:=(show ∃t,u=Value.str x t from r);cases e;rfl
 | byt b=>obtain ⟨t,e⟩:=(show ∃t,u=Value.bytes b t from r);cases e;rfl
 | UB b=>obtain ⟨t,e⟩:=(show ∃t,u=Value.float b t from r);cases e;rfl
 | ref a=>cases (show u=Value.ref a from r);rfl
 | ty n=>cases (show u=Value.type n from r);rfl
section
variable {P:Program}{w:World}{H H' :Hp}{h h' :Heap}{a C dx:Addr}{fs fs' :List (Str×V)}
theorem oW (bh:gQ P w H h)(e:H a=some (.ins C dx fs)):∃mA,uv h a dx C mA∧(∀f,gd (fs.lookup f) (mA f))∧PySem.Within mA (fs.map (·.1))∧fs.length≤1000∧H dx=some (.own a):=by
 obtain ⟨d,z,ne,ob,mA,n,r,q⟩:=(show bY P w H h a (.ins C dx fs) from bh a _ e)
 exact ⟨mA,⟨ob,n,ne⟩,r,q,z,d⟩
end
structure ud (K:Frag)(C:Addr):Prop where
 pg:PySem.W.plainGet K C Str.empty=true
 hd:PySem.W.hasDictIn K C=true
 po:PySem.W.plainOver K C=true
 sa:PySem.W.findIn K (.ref C) "__setattr__"=some (some (.builtin "object.__setattr__"))
theorem ud.get {K:Frag}{C:Addr}(c:ud K C)(f:Str):PySem.W.plainGet K C f=true:=c.pg
def d5 (K:Frag)(C:Addr)(f:Str):Prop:=PySem.W.findIn K (.ref C) f=some none
theorem d5.NX {K:Frag}{C:Addr}{f:Str}(n:d5 K C f):PySem.W.takerIn K C f=some none:=by
 unfold PySem.W.takerIn
 rw [show PySem.W.findIn K (.ref C) f=some none from n]
 rfl
structure Meth (K:Frag)(C:Addr)(m:Str)(f:Addr):Prop where
 at_:PySem.W.findIn K (.ref C) m=some (some (.ref f))
 fn:PySem.W.isFn K (.ref f)=true
 kp:keepIn K (.ref f)=true
section
variable {X:Cx}{pins:List (Addr×Obj)}{σ:St}{H:Hp}{s:Shared}{a C dx:Addr}{fs:List (Str×V)}{f:Str}{v:V}{A:Around}{E:Value→Shared→Prop}
theorem uw {b:Bool}{Q:Value→Shared→Prop}(I:Inv X pins σ H s)(e:H a=some (.ins C dx fs))(c:ud X.K C)(n:d5 X.K C f)(l:fs.lookup f=some v)
  (h:∀u s',Inv X pins σ H s' →RelV v u→Q u s'):wpAny (model X.prog X.w) A (getAttr (.ref a) f b) Q E s:=by
 obtain ⟨mA,O,r,_,_,_⟩:=oW I.bh e
 obtain ⟨u,hu,ru⟩:=gd.some_of (v:=v) (o:=mA f) (by rw [← l];exact r f)
 exact get_map I.nN O (c.get f) c.hd n hu (xl ru) (h u _ (I.tok _) ru)
theorem g9 {m:Str}{g:Addr}{pl:Sem Bool}{Q:Value×List Value→Shared→Prop}(I:Inv X pins σ H s)(e:H a=some (.ins C dx fs))(c:ud X.K C)(k:Meth X.K C m g)(l:fs.lookup m=none)
  (h:Q (.ref g,[.ref a]) s):wpAny (model X.prog X.w) A (getMethod (.ref a) m pl) Q E s:=by
 obtain ⟨mA,O,r,_,_,_⟩:=oW I.bh e
 have hn:mA m=none:=gd.none_of (by rw [← l];exact r m)
 exact z7 I.nN O (c.get m) k.at_ k.fn hn h
theorem uz {y:V}{u:Value}{Q:Unit→Shared→Prop}(I:Inv X pins σ H s)(e:H a=some (.ins C dx fs))(c:ud X.K C)(n:d5 X.K C f)(hl:fs.length < 1000)(ry:RelV y u)
  (h:∀s',Inv X pins σ (upd H a (.ins C dx (eY f y fs))) s' →Q () s'):wpAny (model X.prog X.w) A (setAttr (.ref a) f u) Q E s:=by
 obtain ⟨mA,O,r,wi,_,ho⟩:=oW I.bh e
 have hz:(fs.map (·.1)).length≤sizeLine:=by rw [Wp,sizeLine_eq];omega
 refine GB I.nN O c.sa c.po n.NX c.hd wi hz fun h' O' sb=>h _ ?_
 have hd:∃o,h'.get? dx=some o:=let ⟨o,_,_,e',_⟩:=O'.ns;⟨o,e'⟩
 refine I.write (x:=a) (e:=dx) (by rw [e];exact True.intro) (.inr ho) (fun b q hb z=>(sb.2 b hb).trans z) hd ?_
 refine ⟨by rw [aj O.ne];exact ho,?_,O.ne,O'.obj,_,O'.ns,fun g=> ?_,fun g hg=> ?_⟩
 ·have:=jO f y fs;omega
 ·show gd ((eY f y fs).lookup g) (if g=f then some u else mA g)
  rw [jN]
  by_cases q:g=f
  ·rw [if_pos q,if_pos q];exact ry
  ·rw [if_neg q,if_neg q];exact r g
 ·by_cases q:g=f
  ·rw [q];exact (i_ f y fs).1
  ·refine (i_ f y fs).2 g (wi g fun z=>hg ?_)
   show (if g=f then some u else mA g)=none
   rw [if_neg q];exact z
theorem Inv.made (I:Inv X pins σ H s):Inv X pins σ (upd (upd H s.heap.objs.size (.own (s.heap.objs.size+1))) (s.heap.objs.size+1) (.ins C s.heap.objs.size []))
  {s with heap:=(s.heap.push PySem.W.emptyDict).push (PySem.W.instObj C s.heap.objs.size)}:=by
 have e1:(s.heap.push PySem.W.emptyDict).get? s.heap.objs.size=some PySem.W.emptyDict:=Heap.get?_push_size s.heap rfl
 have e2:((s.heap.push PySem.W.emptyDict).push (PySem.W.instObj C s.heap.objs.size)).get? (s.heap.objs.size+1)=some (PySem.W.instObj C s.heap.objs.size):=by
  have:=Heap.get?_push_size (s.heap.push PySem.W.emptyDict) (o:=PySem.W.instObj C s.heap.objs.size) rfl
  rwa [Heap.size_push] at this
 have e3:(s.heap.push PySem.W.emptyDict).Ns s.heap.objs.size (fun _=>none):=⟨PySem.W.emptyDict, #[],_,e1,rfl,(fun e he=>absurd he (by simp)),fun _=>rfl⟩
 have I1:=I.laid (a:=s.heap.objs.size) (o:=.own (s.heap.objs.size+1)) (h' :=s.heap.push PySem.W.emptyDict) (t' :=s.toks) (fun b u q=>Heap.get?_push_of_some _ q) (adf _) ⟨_,e1⟩
 refine I1.laid (a:=s.heap.objs.size+1) (o:=.ins C s.heap.objs.size []) (t' :=s.toks) (fun b u q=>Heap.get?_push_of_some _ q) (amh (Heap.size_push _ _)) ?_
 have ne:s.heap.objs.size≠s.heap.objs.size+1:=adD (adO _)
 refine ⟨by rw [aj ne,ag],adL _,ne,e2,fun _=>none,(Heap.Ns1.of_empty e3).at fun o q=>Heap.get?_push_of_some _ q,fun _=>True.intro,fun y hy=>absurd rfl hy⟩
theorem GG {prog:Program}{w:World}{env:Env}{e:Expr}{f:Str}{pos:Pos}{s:Shared}{Q:Value→Shared→Prop}(hb:attributeBase e f env (eval e env)=eval e env)
  (h:wpAny (model prog w) A (eval e env) (fun o s₁=>wpAny (model prog w) A (getAttr o f true) Q E s₁) E s):wpAny (model prog w) A (eval (.Attribute e f pos) env) Q E s:=
 Attribute_any_ h (by rw [arm_eval_Attribute,hb])
end
inductive Jz (K:Frag)(f:Str)(Q:VK)(x:V)(H1:Hp):Prop where
 | mk (a C dx fs v:_) (_:x=.ref a) (_:H1 a=some (.ins C dx fs)) (_:ud K C) (_:d5 K C f) (_:fs.lookup f=some v) (_:Q v H1):Jz K f Q x H1
def VR (K:Frag)(ta:TE)(f:Str):TE:=fun σ H Q=>ta σ H fun x H1=>Jz K f Q x H1
inductive JA (K:Frag)(f:Str)(D:Ends)(σ:St)(y:V)(x:V)(H2:Hp):Prop where
 | mk (a C dx fs:_) (_:x=.ref a) (_:H2 a=some (.ins C dx fs)) (_:ud K C) (_:d5 K C f) (_:fs.length < 1000) (_:D.nx σ (upd H2 a (.ins C dx (eY f y fs)))):JA K f D σ y x H2
def VS (K:Frag)(ta tv:TE)(f:Str):TS:=fun D σ H=>tv σ H fun y H1=>ta σ H1 fun x H2=>JA K f D σ y x H2
section
variable {X:Cx}{o e value:Expr}{f:Str}{pos pos' oX:Pos}{ta tv:TE}
theorem cE (he:PE X e ta)(hb:attributeBase e f X.env (eval e X.env)=eval e X.env):PE X (.Attribute e f pos) (VR X.K ta f):=by
 intro pins s σ H Q I h
 refine GG hb (bK (he pins s σ H _ I h) fun u s1 ⟨x,H1,I1,rx,a,C,dx,fs,v,ex,ea,c,n,l,q⟩=> ?_)
 subst ex
 obtain rfl:u=Value.ref a:=rx
 exact uw I1 ea c n l fun u' s2 I2 ru=>⟨v,H1,I2,ru,q⟩
theorem oY (ha:PE X o ta)(hv:PE X value tv)(hs:swapsWith value (some (.Attribute o f pos')) pos.line X.env=pure false):PS X (.Assign [.Attribute o f pos'] value pos) (VS X.K ta tv f):=by
 intro pins s σ H D I h
 refine plainObj_wpAny_Assign_Attribute (bK (hv pins s σ H _ I h) fun u s1 ⟨y,H1,I1,ry,q⟩=>bK (ha pins s1 σ H1 _ I1 q) fun ov s2 ⟨x,H2,I2,rx,a,C,dx,fs,ex,ea,c,n,l,q2⟩=> ?_) hs
 subst ex
 obtain rfl:ov=Value.ref a:=rx
 exact uz I2 ea c n l ry fun s3 I3=>⟨σ,_,I3,q2⟩
end
section
variable {X:Cx}{pins:List (Addr×Obj)}{σ:St}{H:Hp}{s:Shared}{A:Around}{E:Value→Shared→Prop}{Q:Value→Shared→Prop}{c:Value}{b:Bool}
end
end L2
namespace L2
open PySem PySem.Spec PyProof.Rows
structure bV (k:Nat)(A:Around):Prop where
 hd:A.handled=none
 dp:A.depth+3*k+5 < recursionLimit
 un:A.units+16*k+200 < cLine
theorem bV.mono {j k:Nat}{A:Around}(r:bV k A)(h:j≤k):bV j A:=⟨r.hd,by have:=r.dp;omega,by have:=r.un;omega⟩
theorem bV.deeper {k:Nat}{A:Around}(r:bV (k+1) A)(env:Env):bV k (A.deeper env):=
 ⟨r.hd,by have:=r.dp;show A.depth+1+3*k+5 < _;omega,by have:=r.un;show A.units+3+16*k+200 < _;omega⟩
theorem uA {A:Around}{C:Addr}{us:List Value}{kw:List (Str×Value)}:(A.under (.builtin "type.__call__" ⟨.ref C::us,kw⟩)).depth=A.depth+1:=by
 first | rfl | simp [Around.under,Code.weight,Code.isCreation,Code.isGuard,Code.isCaller,Code.frames,Code.isFrame,guardIds]
theorem uB {A:Around}{C:Addr}{us:List Value}{kw:List (Str×Value)}:(A.under (.builtin "type.__call__" ⟨.ref C::us,kw⟩)).units=A.units+1:=by
 first | rfl | simp [Around.under,Code.cUnits,Code.frames,Code.isFrame]
theorem bV.make {k:Nat}{A:Around}(r:bV (k+1) A)(C:Addr)(us:List Value)(kw:List (Str×Value)):bV k (A.under (.builtin "type.__call__" ⟨.ref C::us,kw⟩)):=
 ⟨r.hd,by have:=r.dp;rw [uA];omega,by have:=r.un;rw [uB];omega⟩
theorem bV.depth {k:Nat}{A:Around}(r:bV k A):A.depth < recursionLimit:=by have:=r.dp;omega
theorem bV.units {k:Nat}{A:Around}(r:bV k A):A.units+64 < cLine:=by have:=r.un;omega
def iu:TA:=fun _ H Q=>Q [] H
def JB (ta:TE)(tr:TA):TA:=fun σ H Q=>ta σ H fun x H1=>tr σ H1 fun xs H2=>Q (x::xs) H2
section
variable {X:Cx}{e:Expr}{es:List Expr}{te:TE}{t:TA}{pos:Pos}
theorem aa:PA X [] iu:=fun _ _ _ _ H Q I h=>Calls.spliced_nil ⟨[],H,I,.nil,h⟩
theorem GH (ha:PE X e te)(hr:PA X es t)(hs:starEach (e::es) X.env=(false,eval e X.env)::starEach es X.env:=by rfl):PA X (e::es) (JB te t):=by
 intro pos pins s σ H Q I h
 rw [hs]
 show wpAny _ _ (spliced ((false,eval e X.env)::backTo pos (starEach es X.env))) _ _ s
 refine Calls.spliced_cons (bK (ha pins s σ H _ I h) fun u s1 ⟨x,H1,I1,r1,q1⟩=> ?_)
 exact bK (hr pos pins s1 σ H1 _ I1 q1) fun us s2 ⟨xs,H2,I2,r2,q2⟩=>⟨x::xs,H2,I2,.cons r1 r2,q2⟩
def VT (t:TA):TE:=fun σ H Q=>t σ H fun xs H1=>xs.length≤sizeLine∧∀p,H1 p=none→Q (.ref p) (upd H1 p (.tup xs))
def VU (t:TA):TE:=fun σ H Q=>t σ H fun xs H1=>xs.length≤sizeLine∧∀p,H1 p=none→Q (.ref p) (upd H1 p (.lst xs))
theorem aI {x1}(h:PA X es t):PE X (.Tuple es x1 pos) (VT t):=by
 intro pins s σ H Q I hq
 refine wpAny_Tuple_spliced (bK (h pos pins s σ H _ I hq) fun us s1 ⟨xs,H1,I1,r,z,q⟩=>⟨by rw [← r.length];exact z,?_⟩)
 have hf:H1 s1.heap.objs.size=none:=I1.bh.fresh (adf _)
 refine ⟨.ref s1.heap.objs.size,upd H1 s1.heap.objs.size (.tup xs),I1.laid (t' :=s1.toks) (fun b u e=>Heap.get?_push_of_some _ e) (adf _) ?_,rfl,q _ hf⟩
 exact ⟨z,us,r,⟨_,Heap.get?_push_size _ rfl,rfl,_,rfl⟩⟩
theorem bG (h:PA X es t):PE X (.List es pos) (VU t):=by
 intro pins s σ H Q I hq
 refine wpAny_List_spliced (bK (h pos pins s σ H _ I hq) fun us s1 ⟨xs,H1,I1,r,z,q⟩=>⟨by rw [← r.length];exact z,?_⟩)
 have hf:H1 s1.heap.objs.size=none:=I1.bh.fresh (adf _)
 refine ⟨.ref s1.heap.objs.size,upd H1 s1.heap.objs.size (.lst xs),I1.laid (t' :=s1.toks) (fun b u e=>Heap.get?_push_of_some _ e) (adf _) ?_,rfl,q _ hf⟩
 exact ⟨z,us,0,r,Heap.get?_push_size _ rfl⟩
end
abbrev Sp:=List V→Hp→VK→XK→Prop
abbrev i7:=List Env→Hp→Shared→XK→Value→Shared→Prop
structure uC (P:Program)(w:World)(K:Frag)(mg:Str→Option Value)(base:Heap)(A:Around)(outer:List Env)(s:Shared)(H:Hp):Prop where
 frames:A.frames=some outer
 mod:Mod K mg base
 bs:∀b o,base.get? b=some o→s.heap.get? b=some o∧H b=none
 FQ:base.objs.size≤s.heap.objs.size
 j7:s.heap.FunFrames base outer
 Ku:∀b∈vE outer,H b=none
 bh:gQ P w H s.heap
 bare:AllBare s.gens
def CE (outer:List Env)(P:Program)(w:World)(H:Hp)(s:Shared)(Q:VK)(u:Value)(s' :Shared):Prop:=
 ∃v H',s'.os=s.os∧AllBare s'.gens∧Un (vE outer) [] H H' s.heap s'.heap∧gQ P w H' s'.heap∧RelV v u∧Q v H'
def CR (CX:i7)(outer:List Env)(P:Program)(w:World)(H:Hp)(s:Shared)(Q:VK)(E:XK)(r:Result)(s' :Shared):Prop:=
 match r with
 | .ok (.ret u)=>CE outer P w H s Q u s'
 | .ok _=>False
 | .error e=>CX outer H s E e s'
structure ck (P:Program)(w:World)(K:Frag)(mg:Str→Option Value)(base:Heap)(CX:i7)(k:Nat)(f:Addr)(fd:FuncData)(ps:List Str)(sp:Sp):Prop where
 len:∀vs H Q E,sp vs H Q E→vs.length=ps.length
 run:∀(A:Around) (outer:List Env) (s:Shared) (H:Hp) (args:Args) (us:List Value) (vs:List V) (Q:VK) (E:XK),bV k A→uC P w K mg base A outer s H→BindsTo s fd args (ps.zip us)→Vals vs us→sp vs H Q E→
  codeAny (model P w) A (.call (.ref f) args) (CR CX outer P w H s Q E) s
theorem ck.mono {P:Program}{w:World}{K:Frag}{mg:Str→Option Value}{base:Heap}{CX:i7}{j k:Nat}{f:Addr}{fd:FuncData}{ps:List Str}{sp:Sp}(F:ck P w K mg base CX j f fd ps sp)(h:j≤k):
  ck P w K mg base CX k f fd ps sp:=⟨F.len,fun A outer s H args us vs Q E hr=>F.run A outer s H args us vs Q E (hr.mono h)⟩
theorem ck.imp {P:Program}{w:World}{K:Frag}{mg:Str→Option Value}{base:Heap}{CX:i7}{k:Nat}{f:Addr}{fd:FuncData}{ps:List Str}{sp sp' :Sp}(F:ck P w K mg base CX k f fd ps sp)
  (h:∀vs H Q E,sp' vs H Q E→sp vs H Q E):ck P w K mg base CX k f fd ps sp' :=
 ⟨fun vs H Q E q=>F.len vs H Q E (h _ _ _ _ q),fun A outer s H args us vs Q E hr he hb hv hs=>F.run A outer s H args us vs Q E hr he hb hv (h _ _ _ _ hs)⟩
theorem uC.make {P:Program}{w:World}{K:Frag}{mg:Str→Option Value}{base:Heap}{A:Around}{outer:List Env}{s:Shared}{H:Hp}(e:uC P w K mg base A outer s H)(C:Addr)(us:List Value)(kw:List (Str×Value)):
  uC P w K mg base (A.under (.builtin "type.__call__" ⟨.ref C::us,kw⟩)) outer s H:=⟨by first | exact e.frames | (simpa [Around.under,Code.envs,Code.isFrame,pushEnvs] using e.frames),e.mod,e.bs,e.FQ,e.j7,e.Ku,e.bh,e.bare⟩
section
variable {X:Cx}{pins:List (Addr×Obj)}{σ:St}{H:Hp}{s s' :Shared}
theorem Inv.NY (I:Inv X pins σ H s):uC X.prog X.w X.K X.mg X.base X.A X.stack s H:=
 ⟨I.ok.frames,I.ok.mod,I.bs,adb I.ok.FQ I.sz,I.stack,I.vF,I.bh,I.bare⟩
theorem Inv.after {Q:VK}{u:Value}(I:Inv X pins σ H s)(h:CE X.stack X.prog X.w H s Q u s'):EP X pins σ Q u s' :=by
 obtain ⟨v,H',os,bare,un,bh,r,q⟩:=h
 obtain ⟨hh,g,d,t,os'⟩:=s'
 obtain rfl:os' =s.os:=os
 exact ⟨v,H',I.call (h' :=hh) (g' :=g) (d' :=d) (t' :=t) (ch:=[]) un bh bare (fun b z=>absurd z (by simp)),r,q⟩
end
def JC (sp:Sp)(dvs:List V)(E:XK)(t:TA):TE:=fun σ H Q=>t σ H fun vs H1=>sp (vs++dvs) H1 Q E
def JD (C:Addr)(sp:Sp)(dvs:List V)(E:XK)(t:TA):TE:=fun σ H Q=>t σ H fun vs H1=>∀x dx,H1 x=none→H1 dx=none→dx≠x→
 sp (.ref x::(vs++dvs)) (upd (upd H1 dx (.own x)) x (.ins C dx [])) (fun v H2=>v=.cp∧Q (.ref x) H2) E
def Binds (K:Frag)(fd:FuncData)(ps:List Str)(ds:List Value):Prop:=
 ∀(s:Shared) (us:List Value),K.In s.heap→(us++ds).length=ps.length→BindsTo s fd ⟨us,[]⟩ (ps.zip (us++ds))
theorem Binds.all {K:Frag}{fd:FuncData}{ps:List Str}(h:∀us:List Value,us.length=ps.length→bindArgs fd ⟨us,[]⟩=pure (ps.zip us)):Binds K fd ps []:=fun s us _ hl=>by
 rw [alr] at hl ⊢
 exact .of_eq (h us hl)
def Passes (CX:i7)(X:Cx)(E:XK):Prop:=∀(pins:List (Addr×Obj)) (σ:St) (H:Hp) (s:Shared) (e:Value) (s' :Shared),Inv X pins σ H s→CX X.stack H s E e s' →X.xe e s'
section
variable {X:Cx}{CX:i7}{k:Nat}{f C:Addr}{fd:FuncData}{ps:List Str}{sp:Sp}{dvs:List V}{ds:List Value}{E:XK}{x m:Str}{p pos apos:Pos}{e o:Expr}{es:List Expr}{ta:TE}{t:TA}
theorem oZ {pins:List (Addr×Obj)}{σ:St}{H:Hp}{s:Shared}{Q:VK}{us:List Value}{vs:List V}(F:ck X.prog X.w X.K X.mg X.base CX k f fd ps sp)(hr:bV k X.A)(hb:Binds X.K fd ps ds)(hd:Vals dvs ds)(hx:Passes CX X E)
  (I:Inv X pins σ H s) (r:Vals vs us) (h:sp (vs++dvs) H Q E):wpAny (model X.prog X.w) X.A (call (.ref f) us) (EP X pins σ Q) X.xe s:=by
 have r2:Vals (vs++dvs) (us++ds):=r.append hd
 have hl:(us++ds).length=ps.length:=by rw [← r2.length];exact F.len _ _ _ _ h
 refine wpAny_call (codeAny_mono (F.run X.A X.stack s H ⟨us,[]⟩ (us++ds) (vs++dvs) Q E hr I.NY (hb s us I.nN hl) r2 h) fun r s' hq=> ?_)
 cases r with
 | error e=>exact hx pins σ H s e s' I hq
 | ok fl=>
  cases fl with
  | ret u=>exact I.after hq
  | next=>exact False.elim hq
  | brk=>exact False.elim hq
  | cont=>exact False.elim hq
theorem GJ (F:ck X.prog X.w X.K X.mg X.base CX k f fd ps sp)(hr:bV k X.A)(hg:Gl X x)(hm:X.mg x=some (.ref f))(hk:keepIn X.K (.ref f)=true)(hb:Binds X.K fd ps ds)(hd:Vals dvs ds)(hx:Passes CX X E)
  (ha:PA X (e::es) t) (xm:(x==("__debug__":Str))=false:=by decide) (he:starEach (e::es) X.env=(false,eval e X.env)::starEach es X.env:=by rfl) (vP:(backTo pos (starEach es X.env)).any (·.1)=false:=by rfl):
  PE X (.Call (.Name x p) (e::es) [] pos) (JC sp dvs E t):=by
 intro pins s σ H Q I h
 refine wpAny_Call_Name_kw (ip I hg hm ?_ xm)
 refine PySem.W.callWith_K (h₀:=X.base) I.ok.mod.MY hk (bK (ha pos pins s σ H _ I h) fun us s1 ⟨vs,H1,I1,r,q⟩=>⟨I1.nN,?_⟩) he vP
 exact oZ F hr hb hd hx I1 r q
structure Mk (K:Frag)(C f:Addr):Prop where
 makes:PySem.W.makesIn K C=true
 init:PySem.W.findIn K (.ref C) "__init__"=some (some (.ref f))
 fn:PySem.W.isFn K (.ref f)=true
 kp:keepIn K (.ref C)=true
theorem rM {pins:List (Addr×Obj)}{σ:St}{H:Hp}{s:Shared}{Q:VK}{us:List Value}{vs:List V}(M:Mk X.K C f)(F:ck X.prog X.w X.K X.mg X.base CX k f fd ps sp)(hr:bV (k+1) X.A)(hb:Binds X.K fd ps ds)(hd:Vals dvs ds)
  (hx:Passes CX X E) (I:Inv X pins σ H s) (r:Vals vs us)
  (h:∀x dx,H x=none→H dx=none→dx≠x→sp (.ref x::(vs++dvs)) (upd (upd H dx (.own x)) x (.ins C dx [])) (fun v H2=>v=.cp∧Q (.ref x) H2) E):
  wpAny (model X.prog X.w) X.A (call (.ref C) us) (EP X pins σ Q) X.xe s:=by
 have hq:=h (s.heap.objs.size+1) s.heap.objs.size (I.bh.fresh (alF _)) (I.bh.fresh (adf _)) (adD (adO _))
 have I2:=Inv.made (C:=C) I
 have r2:Vals (V.ref (s.heap.objs.size+1)::(vs++dvs)) (Value.ref (s.heap.objs.size+1)::(us++ds)):=.cons rfl (r.append hd)
 have hl:(Value.ref (s.heap.objs.size+1)::us++ds).length=ps.length:=by
  have e:=r2.length
  rw [F.len _ _ _ _ hq] at e
  exact e.symm
 refine wpAny_call (z8 (f:=f) I.nN M.makes M.init (beq_iff_eq.mp M.fn) (codeAny_mono (F.run _ X.stack _ _ ⟨Value.ref (s.heap.objs.size+1)::us,[]⟩ (Value.ref (s.heap.objs.size+1)::(us++ds)) _ _ E (hr.make C us [])
  (I2.NY.make C us []) (hb _ (Value.ref (s.heap.objs.size+1)::us) I2.nN hl) r2 hq) fun r s' ja => ?_))
 cases r with
 | error e=>exact hx pins σ _ _ e s' I2 ja
 | ok fl=>
  cases fl with
  | ret u=>
   obtain ⟨v,H',I3,rv,ev,q3⟩:=I2.after ja
   subst ev
   exact ⟨rv,⟨V.ref (s.heap.objs.size+1),H',I3,rfl,q3⟩⟩
  | next=>exact False.elim ja
  | brk=>exact False.elim ja
  | cont=>exact False.elim ja
theorem GK (M:Mk X.K C f)(F:ck X.prog X.w X.K X.mg X.base CX k f fd ps sp)(hr:bV (k+1) X.A)(hg:Gl X x)(hm:X.mg x=some (.ref C))(hb:Binds X.K fd ps ds)(hd:Vals dvs ds)(hx:Passes CX X E)
  (ha:PA X (e::es) t) (xm:(x==("__debug__":Str))=false:=by decide) (he:starEach (e::es) X.env=(false,eval e X.env)::starEach es X.env:=by rfl) (vP:(backTo pos (starEach es X.env)).any (·.1)=false:=by rfl):
  PE X (.Call (.Name x p) (e::es) [] pos) (JD C sp dvs E t):=by
 intro pins s σ H Q I h
 refine wpAny_Call_Name_kw (ip I hg hm ?_ xm)
 refine PySem.W.callWith_K (h₀:=X.base) I.ok.mod.MY M.kp (bK (ha pos pins s σ H _ I h) fun us s1 ⟨vs,H1,I1,r,q⟩=>⟨I1.nN,?_⟩) he vP
 exact rM M F hr hb hd hx I1 r q
theorem z_ (M:Mk X.K C f)(F:ck X.prog X.w X.K X.mg X.base CX k f fd ps sp)(hr:bV (k+1) X.A)(hg:Gl X x)(hm:X.mg x=some (.ref C))(hb:Binds X.K fd ps ds)(hd:Vals dvs ds)(hx:Passes CX X E)
  (xm:(x==("__debug__":Str))=false:=by decide):PE X (.Call (.Name x p) [] [] pos) (JD C sp dvs E iu):=by
 intro pins s σ H Q I h
 refine wpAny_Call_Name_kw (ip I hg hm ?_ xm)
 exact PySem.W.callWith_K0 I.nN M.kp (rM (us:=[]) M F hr hb hd hx I .nil h)
end
section
variable {X:Cx}{CX:i7}{k:Nat}{f C:Addr}{fd:FuncData}{ps ks:List Str}{sp:Sp}{E:XK}{x m:Str}{p pos apos alJ:Pos}{e o:Expr}{es:List Expr}{kws:List Keyword}{te ta:TE}{t tk:TA}{nm:Option Str}
variable {g:List Value→List Value→List Value}{gV:List V→List V→List V}
end
structure aC (N P:List Str)(sc:Scope):Prop where
 kind:sc.kind=.function
 co:sc.isCoroutine=false
 gen:sc.isGenerator=false
 nd:N.Nodup
 pre:N.take P.length=P
 par:∀x∈P,sc.names.lookup x=some .local∨sc.names.lookup x=some .cell
 KS:∀y∈sc.names,y.2≠.free
theorem nV {kindOf:Str→Option NameKind}{x:Str}:∀{binds:List (Str×Value)} {m:Str→Option Value},(∀v,(x,v)∉binds)→bindL kindOf binds m x=m x
 | [],_,_=>rfl
 | (n,v)::r,m,h=>by
  unfold bindL
  rw [nV fun w hw=>h w (ade _ hw)]
  split
  ·have:x≠n:=by rintro rfl;exact h v adh
   simp [this]
  ·rfl
theorem nX {kindOf:Str→Option NameKind}{x:Str}:∀{binds:List (Str×Value)} {m:Str→Option Value},(∀v,(x,v)∉binds)→bindC kindOf binds m x=m x
 | [],_,_=>rfl
 | (n,v)::r,m,h=>by
  unfold bindC
  rw [nX fun w hw=>h w (ade _ hw)]
  split
  ·rfl
  ·have:x≠n:=by rintro rfl;exact h v adh
   simp [this]
theorem nY {kindOf:Str→Option NameKind}{x:Str}{v:Value}:∀{P:List Str} {vs:List Value} {i:Nat} {m:Str→Option Value},P.Nodup→P[i]? =some x→vs[i]? =some v→kindOf x=some .local→
  bindL kindOf (P.zip vs) m x=some v
 | [],_,_,_,_,h,_,_=>by simp at h
 | _::_,[],_,_,_,_,h,_=>by simp at h
 | p::P,w::vs,0,m,nd,h1,h2,hk=>by
  simp at h1 h2;subst h1;subst h2
  show bindL kindOf ((p,w)::P.zip vs) m p=_
  unfold bindL
  rw [nV fun v hv=>(adH.mp nd).1 (al0 hv).1,if_pos hk]
  simp
 | p::P,w::vs,i+1,m,nd,h1,h2,hk=>by
  show bindL kindOf ((p,w)::P.zip vs) m x=_
  unfold bindL
  exact nY (i:=i) (adH.mp nd).2 (by simpa using h1) (by simpa using h2) hk
theorem nZ {kindOf:Str→Option NameKind}{x:Str}{v:Value}:∀{P:List Str} {vs:List Value} {i:Nat} {m:Str→Option Value},P.Nodup→P[i]? =some x→vs[i]? =some v→kindOf x≠some .local→
  bindC kindOf (P.zip vs) m x=some v
 | [],_,_,_,_,h,_,_=>by simp at h
 | _::_,[],_,_,_,_,h,_=>by simp at h
 | p::P,w::vs,0,m,nd,h1,h2,hk=>by
  simp at h1 h2;subst h1;subst h2
  show bindC kindOf ((p,w)::P.zip vs) m p=_
  unfold bindC
  rw [nX fun v hv=>(adH.mp nd).1 (al0 hv).1,if_neg hk]
  simp
 | p::P,w::vs,i+1,m,nd,h1,h2,hk=>by
  show bindC kindOf ((p,w)::P.zip vs) m x=_
  unfold bindC
  exact nZ (i:=i) (adH.mp nd).2 (by simpa using h1) (by simpa using h2) hk
def start (N:List Str)(vs:List V):St:=vs.map some++adn (N.length - vs.length) none
def j8 (CX:i7)(P:Program)(w:World)(K:Frag)(mg:Str→Option Value)(base:Heap)(N:List Str)(qual:Str)(scope:Scope)(f:Addr)(cd:Value)(A:Around)(outer:List Env)(s:Shared)(H:Hp)(E:XK):Cx where
 prog:=P
 w:=w
 K:=K
 mg:=mg
 base:=base
 A:=A.deeper (envOfC qual scope s.heap.objs.size f cd)
 N:=N
 s₀:=s
 H₀:=H
 env:=envOfC qual scope s.heap.objs.size f cd
 outer:=outer
 stack:=envOfC qual scope s.heap.objs.size f cd::outer
 ex:=[]
 calm:=true
 fn:=fun _=>true
 pn:=[]
 xe:=fun e s' =>wpAny (model P w) (A.deeper (envOfC qual scope s.heap.objs.size f cd)) (leaving (envOfC qual scope s.heap.objs.size f cd) e) (fun _ NZ =>CX outer H s E e NZ) (fun e' NZ =>CX outer H s E e' NZ) s'
theorem rN {sc:Scope}{n:Nat}{x:Str}(h:sc.names.lookup x=some .cell):∃c,(cellsFrom n sc.names []).lookup x=some c:=by
 have q:=PySem.W.cellsFrom_some sc.names n [] (.inl h)
 exact alM.mp q
theorem xo {CX:i7}{P:Program}{w:World}{K:Frag}{mg:Str→Option Value}{base:Heap}{N ps:List Str}{qual:Str}{scope:Scope}{f:Addr}{cd:Value}{A:Around}{outer:List Env}{s s1:Shared}{H:Hp}{E:XK}{us:List Value}{vs:List V}
  (S:aC N ps scope) (hd:A.handled=none) (e0:uC P w K mg base A outer s H) (hl:vs.length=ps.length) (r:Vals vs us)
  (x:InCallC s s.heap.objs.size (bindL (envOfC qual scope s.heap.objs.size f cd).kindOf (ps.zip us) fun _=>none) (cellsFrom (s.heap.objs.size+1) scope.names []) (bindC (envOfC qual scope s.heap.objs.size f cd).kindOf (ps.zip us) fun _=>none) s1):
  Inv (j8 CX P w K mg base N qual scope f cd A outer s H E) [] (start N vs) H s1:=by
 have vP:ps.length≤N.length:=by have:=congrArg aee S.pre;rw [adJ] at this;omega
 obtain ⟨h1,tk,rfl,hk⟩:=x.done
 have N0:∀b:Addr,b∉(j8 CX P w K mg base N qual scope f cd A outer s H E).ex:=fun b z=>absurd (show b∈([]:List Addr) from z) (by simp)
 refine ⟨⟨e0.mod,S.kind,rfl,rfl,adf _,fun y z c h1 h2=> ?_,fun y hy=> ?_,fun y c _ h=> ?_,fun _=>hd,Around.frames_deeper e0.frames,.inr ⟨rfl,rfl⟩,fun b z=>absurd z (N0 b),e0.bs,e0.FQ,fun b _ _=>N0 b,fun b z=>absurd z (N0 b),e0.j7,e0.Ku⟩,
  rfl,e0.bare,Un.kept hk,⟨_,x.toInCall.ns,fun i y v h1 h2 h3=> ?_⟩,fun y c h=>⟨_,x.cell y c h⟩,e0.bh.fresh (adf _),fun y c h=> ?_,fun p hp=>absurd (show p∈([]:List (Addr×Obj)) from hp) (by simp),e0.bh.kept hk,?_⟩
 ·exact name_of_addr x.apart (PySem.mem_of_lookup h1) (PySem.mem_of_lookup h2)
 ·have hy:scope.names.lookup y=some .cell∨scope.names.lookup y=some .free:=hy
  rcases hy with hy | hy
  ·exact rN hy
  ·exact absurd rfl (S.KS _ (PySem.mem_of_lookup hy))
 ·exact aec (x.above y c (PySem.mem_of_lookup h))
 ·have hi:i < vs.length:=by
   unfold start at h2
   by_cases hi:i < vs.length
   ·exact hi
   ·rw [adu (by simpa using hi)] at h2
    rw [adS] at h2
    split at h2 <;> cases h2
  have ha:vs[i]? =some v:=by
   unfold start at h2
   rw [adl (by simpa using hi),ir] at h2
   cases e:vs[i]? with
   | none=>rw [e] at h2;cases h2
   | some a=>rw [e] at h2;cases h2;rfl
  obtain ⟨u,hu,rv⟩:=r.get ha
  have hp:ps[i]? =some y:=by
   rw [← S.pre,alN (by omega)];exact h1
  have ndP:ps.Nodup:=by rw [← S.pre];exact S.nd.sublist (List.take_sublist _ _)
  refine ⟨u,rv,?_⟩
  rcases S.par y (aa_ hp) with k | k
  ·exact .inl ⟨k,nY ndP hp hu k⟩
  ·obtain ⟨c,e⟩:=rN (n:=s.heap.objs.size+1) k
   refine .inr ⟨.inl k,c,e,?_⟩
   have q:=x.cell y c e
   rw [nZ ndP hp hu (by show scope.names.lookup y≠_;rw [k];decide)] at q
   exact q
 ·exact e0.bh.fresh (aec (x.above y c (PySem.mem_of_lookup h)))
 ·unfold start
  show _=N.length
  rw [adp,Wp,ad']
  omega
theorem vQ {CX:i7}{P:Program}{w:World}{K:Frag}{mg:Str→Option Value}{base:Heap}{k:Nat}{f:Addr}{name qual:Str}{params:Arguments}{body:List Stmt}{scope:Scope}{dV kV doc pm bj ct oc:Value}{an od:Option Addr}
  {kz:Array (Option Value)} {N ps:List Str} {sp:Sp} (lk:K.lookup f=some ⟨oc,od,.func (fnOf name qual params body scope dV kV doc pm an bj ct),kz⟩) (m6:codeIn K bj qual=true) (S:aC N ps scope)
  (len:∀vs H Q E,sp vs H Q E→vs.length=ps.length)
  (iy:∀(A:Around) (outer:List Env) (s:Shared) (H:Hp) (vs:List V) (Q:VK) (E:XK),bV k (A.deeper (envOfC qual scope s.heap.objs.size f bj))→sp vs H Q E→
   ∃t,PSs (j8 CX P w K mg base N qual scope f bj A outer s H E) body t∧t {nx:=fun _ H' =>Q .cp H',rt:=Q} (start N vs) H):
  ck P w K mg base CX (k+1) f (fnOf name qual params body scope dV kV doc pm an bj ct) ps sp:=by
 refine ⟨len,fun A outer s H args us vs Q E hr e0 hb r ue=> ?_⟩
 have hl:=len _ _ _ _ ue
 have KX:K.In s.heap:=e0.mod.MY.keeps fun b o e=>(e0.bs b o e).1
 have lim:s.heap.NoLimit:=e0.mod.nolimit.keeps fun b o e=>(e0.bs b o e).1
 have N1:∀y∈ps.zip us,scope.names.lookup y.1=some .local∨(scope.names.lookup y.1=some .cell∧((cellsFrom (s.heap.objs.size+1) scope.names []).lookup y.1).isSome=true):=fun ⟨n,v⟩ hy=>by
  rcases S.par n (al0 hy).1 with q | q
  ·exact .inl q
  ·exact .inr ⟨q,PySem.W.cellsFrom_some _ _ _ (.inl q)⟩
 refine codeAny_call_function hr.depth (KX _ _ lk) rfl S.co S.gen rfl (PySem.W.codeRec_of KX m6) (hb _ _ _ _ ?_)
 refine wpAny_newFunctionEnv_cells S.kind N1 fun env he s1 x=> ?_
 subst he
 refine ⟨lim.keeps x.toInCall.keep,codeAny_func ?_⟩
 obtain ⟨t,ht,hq⟩:=iy A outer s H vs Q E (hr.deeper _) ue
 have I:Inv (j8 CX P w K mg base N qual scope f bj A outer s H E) [] (start N vs) H s1:=xo S hr.hd e0 hl r x
 refine wpAny_mono (ht [] s1 (start N vs) H _ I hq) (fun fl s' hs=> ?_) fun e s' hs=>hs
 have fin:∀{σ' :St} {H' :Hp} {v:V} {u:Value},Inv (j8 CX P w K mg base N qual scope f bj A outer s H E) [] σ' H' s' →RelV v u→Q v H' →CE outer P w H s Q u s' :=
  fun {σ' H' v u} J rv q=>⟨v,H',J.os,J.bare,J.base,J.bh,rv,q⟩
 cases fl with
 | ret u=>
  obtain ⟨v,σ',H',J,rv,q⟩:=hs
  exact fin J rv q
 | next=>
  obtain ⟨σ',H',J,q⟩:=hs
  exact fin (v:=V.cp) (u:=Value.none) J rfl q
 | brk=>
  obtain ⟨_,_,_,q⟩:=hs
  exact False.elim q
 | cont=>
  obtain ⟨_,_,_,q⟩:=hs
  exact False.elim q
end L2
namespace L2
open PySem PySem.Spec PyProof.Rows
section
variable {X:Cx}{x:Str}{p pos:Pos}{e:Expr}{es:List Expr}{t:TA}{id T:String}{r:List V→Hp→VK→Prop}
def tCB (r:List V→Hp→VK→Prop)(t:TA):TE:=fun σ H Q=>t σ H fun vs H1=>r vs H1 Q
theorem a8 (hc:eO X (.builtin id) r)(hg:Gl X x)(hm:X.mg x=none)(hv:bootBuiltins x=some (.builtin id))(ha:PA X (e::es) t)(hn:x≠ "__name__":=by decide)(xm:(x==("__debug__":Str))=false:=by decide)
  (he:starEach (e::es) X.env=(false,eval e X.env)::starEach es X.env:=by rfl) (vP:(backTo pos (starEach es X.env)).any (·.1)=false:=by rfl):PE X (.Call (.Name x p) (e::es) [] pos) (tCB r t):=by
 intro pins s σ H Q I h
 refine wpAny_Call_Name_kw (gi I hg hm hv ?_ hn xm)
 exact PyProof.Rows.callWith_builtin1 (bK (ha pos pins s σ H _ I h) fun us s1 ⟨vs,H1,I1,r1,q1⟩=>hc pins s1 σ H1 vs us Q I1 r1 q1) he vP
theorem cz (hc:eO X (.type T) r)(hg:Gl X x)(hm:X.mg x=none)(hv:bootBuiltins x=some (.type T))(ha:PA X (e::es) t)(hn:x≠ "__name__":=by decide)(xm:(x==("__debug__":Str))=false:=by decide)
  (he:starEach (e::es) X.env=(false,eval e X.env)::starEach es X.env:=by rfl) (vP:(backTo pos (starEach es X.env)).any (·.1)=false:=by rfl):PE X (.Call (.Name x p) (e::es) [] pos) (tCB r t):=by
 intro pins s σ H Q I h
 refine wpAny_Call_Name_kw (gi I hg hm hv ?_ hn xm)
 exact PyProof.Rows.callWith_type1 (bK (ha pos pins s σ H _ I h) fun us s1 ⟨vs,H1,I1,r1,q1⟩=>hc pins s1 σ H1 vs us Q I1 r1 q1) he vP
end
end L2
namespace HT
open PySem PyProof.Rows
section
open PySem.SeqAt
open PySem.AutoSeq1 (wpAny_loadPart')
open PySem.MeetsSeq PySem.MeetsSeq2 PySem.MeetsSeq3
end
section
variable {prog:Program}{w:World}{A:Around}{E:Value→Shared→Prop}{s:Shared}
def rO (n d:Nat):Option Int→Nat
 | none=>d
 | some v=>if v < 0 then (v+(n:Int)).toNat else min v.toNat n
theorem rP (n d:Nat):rO n d none=d:=rfl
theorem kA (n d k:Nat):rO n d (some (k:Int))=min k n:=by
 show (if (k:Int) < 0 then ((k:Int)+(n:Int)).toNat else min (k:Int).toNat n)=min k n
 rw [if_neg (by omega),alG]
end
end HT
namespace L2
open PySem PySem.Spec PyProof.Rows
abbrev TO:=St→Hp→(Option Int→Hp→Prop)→Prop
def PO (X:Cx)(e:Option Expr)(t:TO):Prop:=
 ∀(pins:List (Addr×Obj)) (s:Shared) (σ:St) (H:Hp) (Q:Option Int→Hp→Prop),Inv X pins σ H s→t σ H Q→
  wpAny (model X.prog X.w) X.A (evalPart e X.env) (fun u s' =>∃o H',Inv X pins σ H' s' ∧IsPart u o∧Q o H') X.xe s
def GL:TO:=fun _ H Q=>Q none H
inductive AA (Q:(Option Int→Hp→Prop))(x:V)(H1:Hp):Prop where
 | mk (i:_) (_:x=.int i) (_:Q (some i) H1):AA Q x H1
def N2 (t:TE):TO:=fun σ H Q=>t σ H fun x H1=>AA Q x H1
section
variable {X:Cx}{e:Expr}{te:TE}{lo hi:Option Expr}{tl th:TO}{pos p2:Pos}
theorem gH:PO X none GL:=by
 intro pins s σ H Q I h
 rw [evalPart_none]
 exact wpAny_pure ⟨none,H,I,.none,h⟩
theorem eQ (h:PE X e te):PO X (some e) (N2 te):=by
 intro pins s σ H Q I hw
 rw [evalPart_some]
 refine bK (h pins s σ H _ I hw) fun u s1 ⟨x,H1,I1,r1,q1⟩=> ?_
 obtain ⟨i,rfl,q⟩:=q1
 obtain ⟨t,rfl⟩:=r1
 exact ⟨some i,H1,I1,.int i t,q⟩
def VW (X:Cx)(r:V→Option Int→Option Int→Hp→VK→Prop):Prop:=
 ∀(pins:List (Addr×Obj)) (s:Shared) (σ:St) (H:Hp) (x:V) (v vl vu:Value) (lo hi:Option Int) (sl:Addr) (Q:VK),Inv X pins σ H s→RelV x v→s.heap.IsSliceOf sl vl vu .none→IsPart vl lo→IsPart vu hi→r x lo hi H Q→
  ∃T id,typeLookup (.type T) "__getitem__"=pure (some (.builtin id))∧s.TypeIs v T∧wpAny (model X.prog X.w) X.A (getItem v (.ref sl)) (EP X pins σ Q) X.xe s
def tSl (r:V→Option Int→Option Int→Hp→VK→Prop)(te:TE)(tl th:TO):TE:=fun σ H Q=>te σ H fun x H1=>tl σ H1 fun l H2=>th σ H2 fun u H3=>r x l u H3 Q
theorem d6 {r:V→Option Int→Option Int→Hp→VK→Prop}(hr:VW X r)(he:PE X e te)(hl:PO X lo tl)(hu:PO X hi th):PE X (.Subscript e (.Slice lo hi none p2) pos) (tSl r te tl th):=by
 intro pins s σ H Q I h
 refine Subscript_ (bK (he pins s σ H _ I h) fun v s1 ⟨x,H1,I1,r1,q1⟩=> ?_)
 refine wpAny_Slice (bK (hl pins s1 σ H1 _ I1 q1) fun vl s2 ⟨l,H2,I2,pl,q2⟩=>bK (hu pins s2 σ H2 _ I2 q2) fun vu s3 ⟨u,H3,I3,pu,q3⟩=> ?_)
 rw [evalPart_none]
 refine wpAny_pure ?_
 have I4:Inv X pins σ H3 {s3 with heap:=s3.heap.push {cls:=.type "slice",data:=.fields #[vl,vu,.none]}}:=I3.kept (t' :=s3.toks) fun b ob q=>Heap.get?_push_of_some _ q
 obtain ⟨T,id,hT,ht,hg⟩:=hr pins {s3 with heap:=s3.heap.push {cls:=.type "slice",data:=.fields #[vl,vu,.none]}} σ H3 x v vl vu l u s3.heap.objs.size Q I4 r1 (Heap.IsSliceOf.new ..) pl pu q3
 show wpAny (model X.prog X.w) X.A (subscriptTail e (.Slice lo hi none p2) v (.ref s3.heap.objs.size)) (EP X pins σ Q) X.xe {s3 with heap:=s3.heap.push {cls:=.type "slice",data:=.fields #[vl,vu,.none]}}
 exact tail_any (ops:=[.ref s3.heap.objs.size,v]) ht hT hg (by with_unfolding_all rfl)
def fF (xs:List V)(lo hi:Option Int):List V:=(xs.drop (HT.rO xs.length 0 lo)).take (HT.rO xs.length xs.length hi - HT.rO xs.length 0 lo)
theorem rQ (xs:List V)(lo hi:Option Int):(fF xs lo hi).length≤xs.length:=by
 unfold fF
 rw [adJ,alP]
 omega
end
end L2
namespace L2
open PySem PySem.Spec PyProof.Rows
def EE (n:Nat)(i:Int):Option Nat:=if 0≤i then (if i < n then some i.toNat else none) else if -(n:Int)≤i then some (i+n).toNat else none
def i8 {α:Type}(xs:List α)(i:Int):Option α:=(EE xs.length i).bind fun j=>xs[j]?
theorem vR {n:Nat}{i:Int}{j:Nat}(h:EE n i=some j):seqIndex? i n=some j∧j < n∧ -(n:Int)≤i∧i < n:=by
 unfold EE at h
 by_cases h0:0≤i
 ·rw [if_pos h0] at h
  by_cases h1:i < n
  ·rw [if_pos h1] at h
   have e:i.toNat=j:=adB h
   exact ⟨by rw [seqIndex_of h0 h1,e],by omega,by omega,h1⟩
  ·rw [if_neg h1] at h;cases h
 ·rw [if_neg h0] at h
  by_cases h1: -(n:Int)≤i
  ·rw [if_pos h1] at h
   have e:(i+n).toNat=j:=adB h
   exact ⟨by rw [seqIndex_neg (by omega) h1,e],by omega,h1,by omega⟩
  ·rw [if_neg h1] at h;cases h
theorem o9 {α:Type}{xs:List α}{i:Int}{v:α}(h:i8 xs i=some v):∃j,seqIndex? i xs.length=some j∧xs[j]? =some v∧j < xs.length∧ -(xs.length:Int)≤i∧i < xs.length:=by
 unfold i8 at h
 cases e:EE xs.length i with
 | none=>rw [e] at h;cases h
 | some j=>
  rw [e] at h
  obtain ⟨h1,h2,h3,h4⟩:=vR e
  exact ⟨j,h1,h,h2,h3,h4⟩
theorem cU {α:Type}{xs:List α}{j:Nat}{v:α}(h:xs[j]? =some v):i8 xs (j:Int)=some v:=by
 have hj:j < xs.length:=(be.mp h).1
 have e:EE xs.length (j:Int)=some j:=by
  unfold EE
  rw [if_pos (by omega),if_pos (by omega)];simp
 unfold i8;rw [e];exact h
def GN (b:Expr):Prop:=∀o i,subscripted b false o i=operate [o,i] (getItem o i)
def KU (X:Cx)(r:R2):Prop:=
 ∀(value slice:Expr) (pins:List (Addr×Obj)) (s:Shared) (σ:St) (H:Hp) (x y:V) (v u:Value) (Q:VK),Inv X pins σ H s→RelV x v→RelV y u→r x y H Q→
  subscripted slice false v u=operate [v,u] (getItem v u)→wpAny (model X.prog X.w) X.A (subscriptTail value slice v u) (EP X pins σ Q) X.xe s
def MtR (X:Cx)(id:String)(r:V→List V→Hp→VK→Prop):Prop:=
 ∀(pins:List (Addr×Obj)) (s:Shared) (σ:St) (H:Hp) (x:V) (xs:List V) (v:Value) (us:List Value) (Q:VK),Inv X pins σ H s→RelV x v→Vals xs us→r x xs H Q→
  wpAny (model X.prog X.w) X.A (call (.builtin id) (v::us)) (EP X pins σ Q) X.xe s
section
variable {X:Cx}{a b:Expr}{ta tb:TE}{pos:Pos}
theorem bc {r:R2}(hr:KU X r)(ha:PE X a ta)(hb:PE X b tb)(hs:GN b):PE X (.Subscript a b pos) (M1 r ta tb):=by
 intro pins s σ H Q I h
 exact Subscript_ (KP ha hb I h fun v u s2 x y H2 I2 rx ry q=>hr a b pins s2 σ H2 x y v u Q I2 rx ry q (hs _ _))
inductive GO (K:Frag)(x:V)(y:V)(H:Hp)(Q:VK):Prop where
 | mk (p xs i v:_) (_:x=.ref p) (_:y=.int i) (_:aU K H p xs) (_:i8 xs i=some v) (_:Q v H):GO K x y H Q
inductive GP (K:Frag)(x:V)(y:V)(H:Hp)(Q:VK):Prop where
 | mk (p xs i v:_) (_:x=.ref p) (_:y=.int i) (_:bH K H p xs) (_:i8 xs i=some v) (_:Q v H):GP K x y H Q
inductive N3 (x:V)(y:V)(H:Hp)(Q:VK):Prop where
 | mk (z i c:_) (_:x=.str z) (_:y=.int i) (_:z.length≤sizeLine) (_:i8 z.cps.toList i=some c) (_:Q (.str ⟨#[c]⟩) H):N3 x y H Q
theorem a_:KU X (GO X.K):=by
 intro value slice pins s σ H x y v u Q I rx ry h hs
 obtain ⟨p,xs,i,z,rfl,rfl,hq,he,q⟩:=h
 cases rx
 obtain ⟨t,rfl⟩:=ry
 obtain ⟨its,r,pl,hz⟩:=I.list hq
 obtain ⟨j,h1,h2,h3,h4,h5⟩:=o9 he
 obtain ⟨w,ew,rB⟩:=r.get h2
 have hl:=r.length
 have hn:=k8
 have fin:EP X pins σ Q w s:=⟨z,H,I,rB,q⟩
 by_cases h0:0≤i
 ·have hj:i.toNat=j:=by
   rw [seqIndex_of h0 h5] at h1
   exact adB h1
  exact item_listR pl.isList h0 (by omega) (by rw [hj];simpa using ew) fin hs
 ·have hj:(i+(its.toArray.size:Int)).toNat=j:=by
   rw [seqIndex_neg (by omega) h4] at h1
   rw [adt, ← hl]
   exact adB h1
  exact subscriptTail_builtinR (x:=w) pl.isList.typeIs slot_list_getitem.lookup
   (wpAny_getItem_list_neg (Q:=fun r s' =>r=w∧EP X pins σ Q r s') pl.isList (by omega) (by rw [adt] <;> omega) (by omega) (by rw [hj];simpa using ew) ⟨rfl,fin⟩) hs
theorem uD:KU X (GP X.K):=by
 intro value slice pins s σ H x y v u Q I rx ry h hs
 obtain ⟨p,xs,i,z,rfl,rfl,hq,he,q⟩:=h
 cases rx
 obtain ⟨t,rfl⟩:=ry
 obtain ⟨its,r,pl,hz⟩:=I.tuple hq
 obtain ⟨j,h1,h2,h3,h4,h5⟩:=o9 he
 obtain ⟨w,ew,rB⟩:=r.get h2
 have hl:=r.length
 have hn:=k8
 have fin:EP X pins σ Q w s:=⟨z,H,I,rB,q⟩
 exact subscriptTail_builtinR (x:=w) pl.typeIs slot_tuple_getitem.lookup
  (getItem_tuple (j:=j) (Q:=fun r s' =>r=w∧EP X pins σ Q r s') pl (by omega) (by omega) (by rw [adt, ← hl];exact h1) (by simpa using ew) ⟨rfl,fin⟩) hs
theorem KW:KU X N3:=by
 intro value slice pins s σ H x y v u Q I rx ry h hs
 obtain ⟨z,i,c,rfl,rfl,hz,he,q⟩:=h
 obtain ⟨t,rfl⟩:=rx
 obtain ⟨t',rfl⟩:=ry
 obtain ⟨j,h1,h2,h3,h4,h5⟩:=o9 he
 have hl:z.cps.toList.length=z.length:=by simp [Str.length]
 rw [hl] at h1 h4 h5
 have hn:=k8
 exact tail_any (typeIs_str s z t) slot_str_getitem.lookup (getItem_str (c:=c) (by
  have e1:decide (i < -(2^63:Int))=false:=decide_eq_false (by omega)
  have e2:decide (i≥2^63)=false:=decide_eq_false (by omega)
  rw [e1,e2,amX]) (by rw [h1];simpa using h2) ⟨.str ⟨#[c]⟩,H,I.tok _,⟨_,rfl⟩,q⟩) hs
theorem uE (its:List Value)(n j:Nat)(u:Value):Obj.mapSeq (·.setIfInBounds j u) {cls:=.type "list",data:=.seq its.toArray n}={cls:=.type "list",data:=.seq (its.set j u).toArray n}:=by
 simp [Obj.mapSeq]
theorem Inv.lst {pins:List (Addr×Obj)}{σ:St}{H:Hp}{s:Shared}{p:Addr}{xs:List V}(I:Inv X pins σ H s)(h:H p=some (.lst xs)):
  ∃(its:List Value) (n:Nat),Vals xs its∧s.heap.get? p=some {cls:=.type "list",data:=.seq its.toArray n}∧xs.length≤sizeLine:=by
 obtain ⟨z,its,n,r,e⟩:=I.bh p _ h
 exact ⟨its,n,r,e,z⟩
theorem Inv.KY {pins:List (Addr×Obj)}{σ:St}{H:Hp}{s:Shared}{p:Addr}{xs ys:List V}{its its' :List Value}{n n' :Nat}{f:Obj→Obj}(I:Inv X pins σ H s)(h:H p=some (.lst xs))
  (ho:s.heap.get? p=some {cls:=.type "list",data:=.seq its.toArray n}) (hf:f {cls:=.type "list",data:=.seq its.toArray n}={cls:=.type "list",data:=.seq its'.toArray n' }) (r:Vals ys its') (hz:ys.length≤sizeLine) (t:Nat):
  Inv X pins σ (upd H p (.lst ys)) {s with heap:=s.heap.update p f,toks:=t}:=by
 have e:(s.heap.update p f).get? p=some {cls:=.type "list",data:=.seq its'.toArray n' }:=by
  rw [Heap.get?_update_self f ho (by rw [hf] <;> rfl),hf]
 refine I.write (x:=p) (e:=p) (by rw [h];trivial) (.inl rfl) (fun b u hb q=>(Heap.get?_update_other _ _ (adG hb)).trans q) ⟨_,e⟩ ?_
 exact ⟨hz,its',n',r,e⟩
inductive JE (o:V)(i:V)(v:V)(H:Hp)(Q:(Hp→Prop)):Prop where
 | mk (p xs k j:_) (_:o=.ref p) (_:i=.int k) (_:H p=some (.lst xs)) (_:EE xs.length k=some j) (_:Q (upd H p (.lst (xs.set j v)))):JE o i v H Q
theorem set_list:NM X JE:=by
 intro pins s σ H o i v ov iv u Q I ro ri rv h
 obtain ⟨p,xs,k,j,rfl,rfl,hp,hj,q⟩:=h
 cases ro
 obtain ⟨t,rfl⟩:=ri
 obtain ⟨its,n,r,ho,hz⟩:=I.lst hp
 obtain ⟨h1,h2,h3,h4⟩:=vR hj
 have hl:=r.length
 have hn:=k8
 have I' :Inv X pins σ (upd H p (.lst (xs.set j v))) {s with heap:=s.heap.update p (Obj.mapSeq (·.setIfInBounds j u))}:=
  I.KY hp ho (uE its n j u) (r.set rv j) (by rw [List.length_set];exact hz) s.toks
 by_cases h0:0≤k
 ·have hk:k.toNat=j:=by
   rw [seqIndex_of h0 h4] at h1
   exact adB h1
  exact PySem.W.ki_setAt ho h0 (by omega) (by rw [adt, ← hl];exact h4) (by rw [hk];exact ⟨_,I',q⟩)
 ·have hk:(k+(its.toArray.size:Int)).toNat=j:=by
   rw [seqIndex_neg (by omega) h3] at h1
   rw [adt, ← hl]
   exact adB h1
  exact PySem.W.ki_setBack ho (by omega) (by rw [adt, ← hl];exact h3) (by omega) (by rw [hk];exact ⟨_,I',q⟩)
theorem o_ (lo hi:Option Int)(n:Nat):(sliceBounds lo hi none n).1=((HT.rO n 0 lo:Nat):Int)∧(sliceBounds lo hi none n).2.1=((HT.rO n n hi:Nat):Int)∧(sliceBounds lo hi none n).2.2=1:=by
 refine ⟨?_,?_,rfl⟩
 ·cases lo with
  | none=>simp [sliceBounds,HT.rO]
  | some i=>
   simp only [sliceBounds,HT.rO,amx,show (1:Int) > 0 by decide,if_true]
   by_cases h:i < 0
   ·simp only [h,if_true] <;> omega
   ·simp only [h,if_false] <;> omega
 ·cases hi with
  | none=>simp [sliceBounds,HT.rO]
  | some i=>
   simp only [sliceBounds,HT.rO,amx,show (1:Int) > 0 by decide,if_true]
   by_cases h:i < 0
   ·simp only [h,if_true] <;> omega
   ·simp only [h,if_false] <;> omega
theorem m8 (its:List Value)(lo hi:Option Int):slicePick its.toArray lo hi none=((its.drop (HT.rO its.length 0 lo)).take (HT.rO its.length its.length hi - HT.rO its.length 0 lo)).toArray:=by
 obtain ⟨h1,h2,h3⟩:=o_ lo hi its.toArray.size
 unfold slicePick
 rw [h1,h2,h3]
 simp only [sliceRange_one,pick_run,adt] <;> rfl
inductive N4 (K:Frag)(x:V)(lo:Option Int)(hi:Option Int)(H:Hp)(Q:VK):Prop where
 | mk (a xs:_) (_:x=.ref a) (_:aU K H a xs) (_:∀p,H p=none→Q (.ref p) (upd H p (.lst (fF xs lo hi)))):N4 K x lo hi H Q
theorem gI:VW X (N4 X.K):=by
 intro pins s σ H x v vl vu lo hi sl Q I rx hs pl pu h
 obtain ⟨a,xs,rfl,hx,q⟩:=h
 cases rx
 obtain ⟨its,r,ht,hz⟩:=I.list hx
 have hlen:=r.length
 refine ⟨"list",_,slot_list_getitem.lookup,ht.isList.typeIs,?_⟩
 refine wpAny_getItem_list_slice ht.isList hs pl pu .none (by simp) ?_ (by rw [adt] <;> omega)
 rw [m8, ← hlen]
 refine ⟨.ref s.heap.objs.size,_,I.laid (t' :=s.toks) (o:=.lst (fF xs lo hi)) (fun b ob q=>Heap.get?_push_of_some _ q) (adf _) ?_,rfl,q _ (I.bh.fresh (adf _))⟩
 exact ⟨adb (rQ xs lo hi) hz,_,0,(r.drop (HT.rO xs.length 0 lo)).take (HT.rO xs.length xs.length hi - HT.rO xs.length 0 lo),Heap.get?_push_size _ rfl⟩
def gs:V→Bool
 | .cp=>true
 | .bl _=>true
 | .int _=>true
 | .str _=>true
 | _=>false
def m9:V→V→Bool
 | .cp,.cp=>true
 | .bl a,.bl b=>a==b
 | .bl a,.int b=>(if a then 1 else 0)==b
 | .int a,.bl b=>a==(if b then 1 else 0)
 | .int a,.int b=>a==b
 | .str a,.str b=>a==b
 | _,_=>false
theorem AB {A:Around}{s:Shared}{y x:V}{u v:Value}(ry:RelV y u)(rx:RelV x v)(fy:gs y=true)(fx:gs x=true):SeqAt.EqAt A s u v (m9 y x):=by
 cases y with
 | cp=>
  cases ry
  cases x with
  | cp=>cases rx;exact SeqAt.EqAt.same _
  | bl b=>cases rx;exact SeqAt.EqAt.none_bool b
  | int b=>obtain ⟨t,rfl⟩:=rx;exact SeqAt.EqAt.none_int b t
  | str b=>obtain ⟨t,rfl⟩:=rx;exact SeqAt.EqAt.none_str b t
  | _=>exact absurd (show false=true from fx) ads
 | bl a=>
  cases ry
  cases x with
  | cp=>cases rx;exact SeqAt.EqAt.bool_none a
  | bl b=>cases rx;exact SeqAt.EqAt.bool_bool a b
  | int b=>obtain ⟨t,rfl⟩:=rx;exact SeqAt.EqAt.bool_int a b t
  | str b=>obtain ⟨t,rfl⟩:=rx;exact SeqAt.EqAt.bool_str a b t
  | _=>exact absurd (show false=true from fx) ads
 | int a=>
  obtain ⟨t',rfl⟩:=ry
  cases x with
  | cp=>cases rx;exact SeqAt.EqAt.int_none a t'
  | bl b=>cases rx;exact SeqAt.EqAt.int_bool a t' b
  | int b=>obtain ⟨t,rfl⟩:=rx;exact SeqAt.EqAt.int_int a t' b t
  | str b=>obtain ⟨t,rfl⟩:=rx;exact SeqAt.EqAt.int_str a t' b t
  | _=>exact absurd (show false=true from fx) ads
 | str a=>
  obtain ⟨t',rfl⟩:=ry
  cases x with
  | cp=>cases rx;exact SeqAt.EqAt.str_none a t'
  | bl b=>cases rx;exact SeqAt.EqAt.str_bool a t' b
  | int b=>obtain ⟨t,rfl⟩:=rx;exact SeqAt.EqAt.str_int a t' b t
  | str b=>obtain ⟨t,rfl⟩:=rx;exact SeqAt.EqAt.str_str a t' b t
  | _=>exact absurd (show false=true from fx) ads
 | _=>exact absurd (show false=true from fy) ads
def GQ (x:V)(u:Value):Bool:=match u with
 | .none=>m9 .cp x
 | .bool b=>m9 (.bl b) x
 | .int i _=>m9 (.int i) x
 | .str z _=>m9 (.str z) x
 | _=>false
theorem AD {x y:V}{u:Value}(r:RelV y u)(f:gs y=true):GQ x u=m9 y x:=by
 cases y with
 | cp=>cases r;rfl
 | bl b=>cases r;rfl
 | int i=>obtain ⟨t,rfl⟩:=r;rfl
 | str z=>obtain ⟨t,rfl⟩:=r;rfl
 | _=>exact absurd (show false=true from f) ads
theorem pd {x:V}:∀{xs:List V} {us:List Value},Vals xs us→xs.all gs=true→us.any (GQ x)=xs.any fun y=>m9 y x
 | _,_,.nil,_=>rfl
 | y::xs,u::us,.cons r t,f=>by
  rw [aln,ael] at f
  rw [aeL,aeL,AD r f.1,pd t f.2]
theorem k_ {A:Around}{s:Shared}{x:V}{v:Value}(rx:RelV x v)(fx:gs x=true):∀{xs:List V} {us:List Value},Vals xs us→xs.all gs=true→∀u∈us,SeqAt.EqAt A s u v (GQ x u)
 | _,_,.nil,_=>fun u hu=>by cases hu
 | y::xs,u::us,.cons r t,f=>fun u' hu=>by
  rw [aln,ael] at f
  rcases adz.mp hu with rfl | hu
  ·rw [AD r f.1];exact AB r rx f.1 fx
  ·exact k_ rx fx t f.2 u' hu
def N5 (x:V)(xs:List V):Bool:=xs.any fun y=>m9 y x
inductive rIn (K:Frag)(neg:Bool)(x:V)(y:V)(H:Hp)(Q:VK):Prop where
 | mk (p xs:_) (_:y=.ref p) (_:(aU K H p xs∨bH K H p xs)) (_:gs x=true) (_:xs.all gs=true) (_:Q (.bl (if neg then !N5 x xs else N5 x xs)) H):rIn K neg x y H Q
theorem pe:gW X (compareOp .NotIn) (rIn X.K true):=by
 intro pins s σ H x y v u Q I rx ry h
 obtain ⟨p,xs,rfl,hq,fx,fs,q⟩:=h
 cases ry
 rcases hq with hq | hq
 ·obtain ⟨its,r,pl,hz⟩:=I.list hq
  refine SeqAt.notIn_listAt (GQ x) pl.isList (fun w hw=>k_ rx fx r fs w (by simpa using hw)) ⟨.bl _,H,I,rfl,?_⟩
  rw [show its.toArray.any (GQ x)=its.any (GQ x) by simp,pd r fs]
  exact q
 ·obtain ⟨its,r,pl,hz⟩:=I.tuple hq
  refine SeqAt.notIn_tupleAt (GQ x) pl (fun w hw=>k_ rx fx r fs w (by simpa using hw)) ⟨.bl _,H,I,rfl,?_⟩
  rw [show its.toArray.any (GQ x)=its.any (GQ x) by simp,pd r fs]
  exact q
theorem aY:eO X (.builtin "len") (fun xs H Q=>∃p ys,xs=[.ref p]∧(aU X.K H p ys∨bH X.K H p ys)∧Q (.int ys.length) H):=by
 intro pins s σ H xs us Q I r h
 obtain ⟨p,ys,rfl,hq,q⟩:=h
 obtain ⟨u,rfl,rx⟩:=vals1 r
 cases rx
 have hn:=k8
 rcases hq with hq | hq
 ·obtain ⟨its,r',pl,hz⟩:=I.list hq
  have hlen:=r'.length
  exact Calls.call_len_list pl.isList (by simp only [adt] <;> omega) ⟨.int ys.length,H,I.tok _,⟨s.toks+1,by rw [adt,hlen]⟩,q⟩
 ·obtain ⟨its,r',pl,hz⟩:=I.tuple hq
  have hlen:=r'.length
  exact len_tuple pl (by simp only [adt] <;> omega) ⟨.int ys.length,H,I.tok _,⟨s.toks+1,by rw [adt,hlen]⟩,q⟩
theorem ph:eO X (.type "list") (fun xs H Q=>∃p ys,xs=[.ref p]∧(aU X.K H p ys∨bH X.K H p ys)∧∀l,H l=none→Q (.ref l) (upd H l (.lst ys))):=by
 intro pins s σ H xs us Q I r h
 obtain ⟨p,ys,rfl,hq,q⟩:=h
 obtain ⟨u,rfl,rx⟩:=vals1 r
 cases rx
 have fin:∀(its:List Value),Vals ys its→ys.length≤sizeLine→∀(h' :Heap) (c' :Nat),(∀b o',s.heap.get? b=some o' →h'.get? b=some o')→
   h'.get? s.heap.objs.size=some {cls:=.type "list",dict:=none,data:=.seq its.toArray c',slots:= #[]}→EP X pins σ Q (.ref s.heap.objs.size) {s with heap:=h' }:=fun its r' hz h' c' kp e=>
  ⟨.ref s.heap.objs.size,_,I.laid (t' :=s.toks) kp (adf _) (show bY X.prog X.w _ h' _ (.lst ys) from ⟨hz,its,c',r',e⟩),rfl,q _ (I.bh.fresh (adf _))⟩
 rcases hq with hq | hq
 ·obtain ⟨its,r',pl,hz⟩:=I.list hq
  have hlen:=r'.length
  obtain ⟨o,ho,hc,n,hd⟩:=pl.isList
  exact call_list_seq p (.inl rfl) ho hc hd (fun h' c' kp e=>fin its r' hz h' c' kp e) (by simp only [adt] <;> omega)
 ·obtain ⟨its,r',pl,hz⟩:=I.tuple hq
  have hlen:=r'.length
  obtain ⟨o,ho,hc,n,hd⟩:=pl
  exact call_list_seq p (.inr rfl) ho hc hd (fun h' c' kp e=>fin its r' hz h' c' kp e) (by simp only [adt] <;> omega)
def tyV (K:Frag)(T:String)(x:V)(H:Hp):Prop:=match x with
 | .str _=>T="str"
 | .int _=>T="int"
 | .ref p=>(T="list"∧∃xs,aU K H p xs)∨(T="tuple"∧∃o,K.lookup p=some o∧o.cls=.type "tuple"∧o.dict=none)∨
   (T="dict"∧((∃kvs,H p=some (.dK kvs))∨∃kvs,H p=some (.dT kvs)))∨(T="set"∧∃S n,H p=some (.set S n))
 | _=>False
theorem AE {pins:List (Addr×Obj)}{σ:St}{H:Hp}{s:Shared}{T:String}{x:V}{v:Value}(I:Inv X pins σ H s)(r:RelV x v)(ty:tyV X.K T x H):
  s.TypeIs v T∧∀a,v=.ref a→∃ob,s.heap.get? a=some ob∧ob.dict=none:=by
 cases x with
 | str z=>
  obtain ⟨t,rfl⟩:=r
  cases (show T="str" from ty)
  exact ⟨typeIs_str s z t,fun _ e=>nomatch e⟩
 | int i=>
  obtain ⟨t,rfl⟩:=r
  cases (show T="int" from ty)
  exact ⟨typeIs_int s i t,fun _ e=>nomatch e⟩
 | ref p=>
  cases r
  rcases ty with ⟨rfl,xs,hq⟩ | ⟨rfl,o,hk,hc,hd⟩ | ⟨rfl,hk⟩ | ⟨rfl,S,n,hk⟩
  ·obtain ⟨its,_,pl,_⟩:=I.list hq
   refine ⟨pl.isList.typeIs,fun a e=> ?_⟩
   cases e
   obtain ⟨o,n,e,c,hd,_⟩:=pl
   exact ⟨o,e,hd⟩
  ·refine ⟨⟨o,I.nN p o hk,hc⟩,fun a e=> ?_⟩
   cases e
   exact ⟨o,I.nN _ o hk,hd⟩
  ·have z:∃o,s.heap.get? p=some o∧o.ExactDict:=by
    rcases hk with ⟨kvs,hk⟩ | ⟨kvs,hk⟩
    ·obtain ⟨_,_,_,_,o,_,_,e,ex,_⟩:=I.bh p _ hk
     exact ⟨o,e,ex⟩
    ·obtain ⟨_,_,_,_,o,_,_,e,ex,_⟩:=I.bh p _ hk
     exact ⟨o,e,ex⟩
   obtain ⟨o,e,ex⟩:=z
   refine ⟨⟨o,e,ex.1⟩,fun a e2=> ?_⟩
   cases e2
   exact ⟨o,e,ex.2.1⟩
  ·obtain ⟨o,_,_,_,e,ex,_⟩:=I.bh p _ hk
   refine ⟨⟨o,e,ex.1⟩,fun a e2=> ?_⟩
   cases e2
   exact ⟨o,e,ex.2.1⟩
 | _=>exact False.elim ty
def tBM (K:Frag)(T:String)(r:V→List V→Hp→VK→Prop)(to:TE)(t:TA):TE:=fun σ H Q=>to σ H fun x H1=>tyV K T x H1∧t σ H1 fun xs H2=>r x xs H2 Q
variable {o e:Expr}{es:List Expr}{to:TE}{t:TA}{name:Str}{apos dI:Pos}{T id:String}{r:V→List V→Hp→VK→Prop}
theorem lh (pa:PlainAttrs T)(slot:Slot T name id)(hty:typeOf (.builtin id)=pure (.type "method_descriptor"))(hm:MtR X id r)(ho:PE X o to)(ha:PA X (e::es) t)
  (lj:attributeBase o name X.env (eval o X.env)=eval o X.env:=by rfl)
  (VX:((backTo dI (starEach (e::es) X.env)).all (fun x=> !x.1) && (backToKw dI (keywordEach [] X.env)).all (fun x=>x.1.isSome)
   && decide ((e::es).length+([]:List Keyword).length+(if ([]:List Keyword).isEmpty then 0 else 1) < 30))=true:=by rfl)
  (lC:(apos.endLine==dI.line)=true:=by rfl) (hs:starEach (e::es) X.env=(false,eval e X.env)::starEach es X.env:=by rfl) (KZ:(backTo dI (starEach es X.env)).any (·.1)=false:=by rfl):
  PE X (.Call (.Attribute o name apos) (e::es) [] dI) (tBM X.K T r to t):=by
 intro pins s σ H Q I h
 refine wpAny_Call_method_late lj VX lC rfl (bK (ho pins s σ H _ I h) fun v s1 ⟨x,H1,I1,r1,ty,q1⟩=> ?_)
 obtain ⟨h1,h2⟩:=AE I1 r1 ty
 refine ⟨T,id,pa,slot,hty,h1,h2,?_⟩
 have hA:=ha dI pins s1 σ H1 _ I1 q1
 rw [hs] at hA ⊢
 refine Calls.callWith_builtin (by show (false || (backTo dI (starEach es X.env)).any (·.1))=false;rw [KZ] <;> rfl) (Calls.evalArgs_plain ?_)
 exact bK hA fun us s2 ⟨vs,H2,I2,r2,q2⟩=>hm pins s2 σ H2 x vs v us Q I2 r1 r2 q2
end
end L2
namespace L2
open PySem PySem.Spec PyProof.Rows
def MtM (X:Cx)(id:String)(r:V→List V→Hp→VK→Prop):Prop:=
 ∀(pins:List (Addr×Obj)) (s:Shared) (σ:St) (H:Hp) (x:V) (xs:List V) (v:Value) (us:List Value) (Q:VK),Inv X pins σ H s→RelV x v→Vals xs us→r x xs H Q→
  wpAny (model X.prog X.w) X.A (call (.builtin id) (v::us)) (EP X pins σ Q) X.xe s
theorem Vals.one:∀{x:V} {us:List Value},Vals [x] us→∃u,us=[u]∧RelV x u
 | _,_,.cons r .nil=>⟨_,rfl,r⟩
theorem Vals.rep {xs:List V}{us:List Value}(h:Vals xs us):∀k:Nat,Vals (adn k xs).flatten (adn k us).flatten
 | 0=>.nil
 | k+1=>by
  rw [aej,aej,aeO,aeO]
  exact Vals.append h (Vals.rep h k)
theorem foldl_rep (its:List Value):∀(k:Nat) (acc:List Value),
  amM (fun x1 x2=>x1++x2) acc.toArray (adn k its.toArray)=(acc++(adn k its).flatten).toArray
 | 0,acc=>by simp
 | k+1,acc=>by
  have e:acc.toArray++its.toArray=(acc++its).toArray:=by simp
  have e2:(acc++its)++(adn k its).flatten=acc++(adn (k+1) its).flatten:=by
   rw [aej,aeO,aeg]
  rw [← e2, ← foldl_rep its k (acc++its), ← e,aej,List.foldl_cons]
section
variable {X:Cx}{pins:List (Addr×Obj)}{σ:St}{H:Hp}{s:Shared}{l b:Addr}{xs ys zs:List V}
theorem Inv.K0 {its its' :List Value}{n:Nat}{f:Array Value→Array Value}{t' :Nat}(I:Inv X pins σ H s)(hH:H l=some (.lst xs))
  (e:s.heap.get? l=some {cls:=.type "list",data:=.seq its.toArray n}) (hf:f its.toArray=its'.toArray) (hv:Vals ys its') (hz:ys.length≤sizeLine):
  Inv X pins σ (upd H l (.lst ys)) {s with heap:=s.heap.update l (Obj.mapSeq f),toks:=t' }:=by
 have q:=PySem.IsL.update e f
 rw [hf] at q
 refine I.write (x:=l) (e:=l) (by rw [hH];exact trivial) (.inl rfl) (fun b' u hb hu=>(Heap.get?_update_other s.heap (Obj.mapSeq f) (adG hb)).trans hu) ⟨_,q⟩ ?_
 exact ⟨hz,its',_,hv,q⟩
theorem Inv.K1 {its:List Value}{t' :Nat}(I:Inv X pins σ H s)(hv:Vals ys its)(hz:ys.length≤sizeLine):
  Inv X pins σ (upd H s.heap.objs.size (.lst ys)) {s with heap:=s.heap.push {cls:=.type "list",data:=.seq its.toArray},toks:=t' }:=
 I.laid (fun _ _ q=>Heap.get?_push_of_some _ q) (adf _) ⟨hz,its,0,hv,Heap.get?_push_size _ rfl⟩
theorem Inv.fresh (I:Inv X pins σ H s):H s.heap.objs.size=none:=I.bh.fresh (adf _)
theorem Inv.jb (I:Inv X pins σ H s)(hH:H l=some (.lst xs)):xs.length≤sizeLine∧∃(its:List Value) (n:Nat),Vals xs its∧xs.length=its.length∧s.heap.get? l=some {cls:=.type "list",data:=.seq its.toArray n}:=by
 obtain ⟨z,its,n,r,e⟩:=I.bh l _ hH
 exact ⟨z,its,n,r,r.length,e⟩
theorem lD {n:Nat}(h:n≤sizeLine):Builtin.List.listTooLong n=false:=by
 unfold Builtin.List.listTooLong
 exact decide_eq_false (by omega)
end
section
variable {X:Cx}
inductive vS (x:V)(vs:List V)(H:Hp)(Q:VK):Prop where
 | mk (l xs y:_) (_:x=.ref l) (_:vs=[y]) (_:H l=some (.lst xs)) (_:xs.length < sizeLine) (_:Q .cp (upd H l (.lst (xs++[y])))):vS x vs H Q
theorem dX:MtM X "list.append" vS:=by
 intro pins s σ H x vs v us Q I rx rv h
 obtain ⟨l,xs,y,rfl,rfl,hH,hz,q⟩:=h
 cases rx
 obtain ⟨u,rfl,ru⟩:=rv.one
 obtain ⟨z,its,n,r,hl,e⟩:=I.jb hH
 refine call_meets F.slot_list_append ⟨_,e,rfl⟩ F.entry_list_append (F.args_list_append_2 _ _) (PySem.list_append l its.toArray n u (by rw [adt];omega)) ⟨e,?_⟩
 refine ⟨.cp,_,I.K0 (its' :=its++[u]) hH e (by simp) (r.append (.cons ru .nil)) ?_,rfl,q⟩
 rw [adp,List.length_singleton]
 omega
inductive vT (x:V)(vs:List V)(H:Hp)(Q:VK):Prop where
 | mk (l b xs zs:_) (_:x=.ref l) (_:vs=[.ref b]) (_:H l=some (.lst xs)) (_:H b=some (.lst zs)) (_:xs.length+zs.length≤sizeLine) (_:Q .cp (upd H l (.lst (xs++zs)))):vT x vs H Q
theorem xp:MtM X "list.extend" vT:=by
 intro pins s σ H x vs v us Q I rx rv h
 obtain ⟨l,b,xs,zs,rfl,rfl,hH,hB,hz,q⟩:=h
 cases rx
 obtain ⟨u,rfl,ru⟩:=rv.one
 cases ru
 obtain ⟨z,its,n,r,hl,e⟩:=I.jb hH
 obtain ⟨z2,cX,n2,r2,uf,e2⟩:=I.jb hB
 have hsz:its.toArray.size+cX.toArray.size≤sizeLine:=by rw [adt,adt];omega
 have rR:¬ (!its.toArray.isEmpty && Builtin.List.listTooLong (its.toArray.size+cX.toArray.size))=true:=by
  rw [lD hsz,alA]
  exact ads
 refine call_meets F.slot_list_extend ⟨_,e,rfl⟩ F.entry_list_extend (F.args_list_extend_2 _ _)
  (AutoSeq1.list_extend_list_list_0 l its.toArray n b cX.toArray n2 rR (by rw [adt];omega) (by omega)) ⟨e,e2,?_⟩
 refine ⟨.cp,_,I.K0 (its' :=its++cX) hH e (by simp) (r.append r2) ?_,rfl,q⟩
 rw [adp]
 omega
inductive N6 (x:V)(y:V)(H:Hp)(Q:VK):Prop where
 | mk (l b xs zs:_) (_:x=.ref l) (_:y=.ref b) (_:H l=some (.lst xs)) (_:H b=some (.lst zs)) (_:xs.length+zs.length≤sizeLine) (_:∀p,H p=none→Q (.ref p) (upd H p (.lst (xs++zs)))):N6 x y H Q
theorem g_:gW X (binaryOp .Add) N6:=by
 intro pins s σ H x y v u Q I rx ry h
 obtain ⟨l,b,xs,zs,rfl,rfl,hH,hB,hz,q⟩:=h
 cases rx
 cases ry
 obtain ⟨z,its,n,r,hl,e⟩:=I.jb hH
 obtain ⟨z2,cX,n2,r2,uf,e2⟩:=I.jb hB
 refine PySem.P.add_list e e2 ?_ (by rw [adt,adt];omega)
 have ea:its.toArray++cX.toArray=(its++cX).toArray:=by simp
 rw [ea]
 exact ⟨.ref _,_,I.K1 (t' :=s.toks) (r.append r2) (by rw [adp];omega),rfl,q _ I.fresh⟩
inductive N7 (x:V)(y:V)(H:Hp)(Q:VK):Prop where
 | mk (l k xs:_) (_:x=.ref l) (_:y=.int k) (_:H l=some (.lst xs)) (_: -(2^63)≤k) (_:k < 2^63) (_:xs.length*k.toNat≤sizeLine) (_:∀p,H p=none→Q (.ref p) (upd H p (.lst (adn k.toNat xs).flatten))):N7 x y H Q
theorem len_rep {α:Type}(xs:List α)(k:Nat):(adn k xs).flatten.length=k*xs.length:=by
 induction k with
 | zero=>simp
 | succ k ih=>rw [aej,aeO,adp,ih,Nat.succ_mul,alX]
theorem uF:gW X (binaryOp .Mult) N7:=by
 intro pins s σ H x y v u Q I rx ry h
 obtain ⟨l,k,xs,rfl,rfl,hH,h1,h2,hz,q⟩:=h
 cases rx
 obtain ⟨t,rfl⟩:=ry
 obtain ⟨z,its,n,r,hl,e⟩:=I.jb hH
 have hlen:its.toArray.size*k.toNat≤sizeLine:=by rw [adt, ← hl];exact hz
 have VY:¬ its.toArray.size*k.toNat > (2^63 - 1) / 8:=by
  have:(sizeLine:Nat)≤(2^63 - 1) / 8:=by decide
  omega
 have VZ:¬ (!Builtin.List.listFitsIndex k)=true:=by
  rw [fitsIndex_both h1 h2]
  exact ads
 have rR:¬ Builtin.List.listTooLong (its.toArray.size*k.toNat)=true:=by
  rw [lD hlen]
  exact ads
 have V0:amM (fun x1 x2=>x1++x2) #[] (adn (if its.toArray.isEmpty=true then 0 else k.toNat) its.toArray)=(adn k.toNat its).flatten.toArray:=by
  have f0:∀m:Nat,amM (fun x1 x2=>x1++x2) #[] (adn m its.toArray)=(adn m its).flatten.toArray:=fun m=>by
   have:=foldl_rep its m []
   rw [aeM] at this
   exact this
  rw [f0]
  cases its with
  | nil=>simp
  | cons a r' =>rw [if_neg (by simp)]
 refine wpAny_binaryOp_repeat_ref (T:="list") (U:="int") (by decide) ⟨_,e,rfl⟩ (fun s' =>typeIs_int s' k t) noFill_list_mul F.fills_int_mul F.slot_int_rmul repeat_list F.slot_int_index.lookup
  (call_meets F.slot_int_rmul (typeIs_int s k t) F.entry_int_rmul (F.args_int_rmul_2 _ _) (int___rmul___int_list k t l its.toArray n)
   ⟨e,rfl,⟨_,e,rfl⟩,call_meets F.slot_list_mul ⟨_,e,rfl⟩ F.entry_list_mul (F.args_list_mul_2 _ _) (AutoListH.list___mul___list_int_3 l its.toArray n k t VZ VY rR) ⟨e,?_⟩⟩)
 rw [V0]
 exact ⟨.ref _,_,I.K1 (t' :=s.toks) (r.rep k.toNat) (by rw [len_rep,aly];exact hz),rfl,q _ I.fresh⟩
end
section
variable {prog:Program}{w:World}{A:Around}{E:Value→Shared→Prop}{s:Shared}
set_option maxRecDepth 100000 in
end
section
variable {X:Cx}
end
end L2
namespace Att
open PySem PySem.W PySem.Calls PyProof.Rows
theorem j9 {P:Params}{h:Heap}:∀(ns:List Int) (vs:List Value),WellAll P h vs (ns.map WData.int)→IntsAre vs ns:=by
 intro ns
 induction ns with
 | nil=>
  intro vs w
  rw [adZ] at w
  cases w
  exact .nil
 | cons n ns ih=>
  intro vs w
  rw [ada] at w
  cases w with
  | cons a b=>
   cases a
   exact .cons _ _ (ih _ b)
theorem xq {l:OpenLaw}{n:Nat}(hn:l.most=some n){P:Params}{h:Heap}{args:List WData}{vals:List Value}
  (GU:l.row.toRowW.claim.pre args=true) (V1:WellAll P h vals args):
  ∃a vs ns,vals=[Value.ref a]∧args=[WData.list (ns.map WData.int)]∧h.get? a=some {cls:=.type "list",data:=.seq vs.toArray}∧IntsAre vs ns∧ns.length≤n:=by
 have hsh:WShape.hasAll [] args [.list .int]=true:=(pre_splitW GU).1
 have hc:l.pre.holds [] {args:=args}=true:=(pre_splitW GU).2
 obtain ⟨d,r,rfl,h1,h2⟩:=hasAllW_cons hsh
 obtain rfl:=hasAllW_nil h2
 obtain ⟨xs,rfl,h3⟩:=hasW_list h1
 obtain ⟨ns,rfl⟩:=items_int h3
 have hlen:ns.length≤n:=by
  unfold OpenLaw.pre at hc
  have h4:(WTm.not (.lt (.lit (.int (n:Int))) (.len (.arg 0)))).holds [] {args:=[.list (ns.map .int)]}=true:=by
   have h4:=(holds_andW hc).1
   rw [hn] at h4
   exact h4
  have h5:=condW_of h4 (w_not (w_lt w_lit (w_len_list (w_arg rfl))))
  rw [Wp] at h5
  refine alQ fun q=> ?_
  have q' :(n:Int) < ((ns.length:Nat):Int):=by omega
  first
   | (rw [decide_eq_true q'] at h5;exact absurd h5 (by decide))
   | (simp at h5;omega)
 cases V1 with
 | cons w1 w2=>
  cases w2
  cases w1 with
  | list ho AF=>exact ⟨_,_,ns,rfl,rfl,ho,j9 ns _ AF,hlen⟩
theorem xr (l:OpenLaw)(args:List WData):l.row.toRowW.claim.post args (.bool true) args=true:=
 postW_of (r:=l.row.toRowW) (X:=(true==true))
  (show WShape.has [] (.bool true) .bool=true by first | rfl | decide | simp [WShape.has,WShape.arms,WShape.armsAll])
  (show (WTm.eq .res (.lit (.bool true))).value [] {args:=args,res:=some (.bool true),after:=args}=some (.bool (true==true)) from w_eq_bool (w_res rfl) w_lit) rfl
section
variable {prog:Program}{w:World}{A:Around}{E:Value→Shared→Prop}{s:Shared}{K:Frag}
end
end Att
namespace L2
open PySem PySem.Spec PyProof.Rows
theorem n_:∀{vs:List Value} {ns:List Int},IntsAre vs ns→Vals (ns.map V.int) vs
 | _,_,.nil=>.nil
 | _,_,.cons n t h=>.cons ⟨t,rfl⟩ (n_ h)
def N8 (H:Hp):Prop:=∀b,H b=none∨∃o xs,H b=some (.bP o (.lst xs))
theorem AG {P:Program}{w:World}{K:Frag}{mg mb:Str→Option Value}{CX:i7}{k:Nat}{fa a:Addr}{fd:FuncData}{x:Str}{sp:Sp}{s₁:Shared}{vs:List Value}{ns:List Int}
  (KX:K.In s₁.heap) (hns:s₁.heap.Ns mainGlobals mg) (hb:s₁.heap.Ns builtinsNs mb) (hbb:∀x:Str,x≠ "__name__"→mb x=bootBuiltins x) (V2:s₁.heap.NoLimit) (GV:s₁.heap.NoSeer) (hg:s₁.gens= #[])
  (ha:s₁.heap.get? a=some {cls:=.type "list",data:=.seq vs.toArray}) (hi:IntsAre vs ns) (hl:ns.length≤sizeLine) (hr:bV k callerA)
  (F:∀base:Heap,K.In base→base.Ns mainGlobals mg→ck P w K mg base CX k fa fd [x] sp) (N9:∀(s:Shared) (u:Value),BindsTo s fd ⟨[u],[]⟩ [(x,u)])
  (ue:∀H:Hp,N8 H→aU K H a (ns.map V.int)→sp [.ref a] H (fun v _=>v=.bl true) fun _ _ _=>False)
  (hCX:∀H e s',CX [] H s₁ (fun _ _ _=>False) e s' →False):
  codeAny (model P w) callerA (.call (.ref fa) ⟨[.ref a],[]⟩) (fun r s' =>r=.ok (.ret (.bool true))∧OldK s₁.heap s'.heap∧s'.os=s₁.os∧AllBare s'.gens) s₁:=by
 have rv:=n_ hi
 have V3:=hi.length
 have core:∀H:Hp,N8 H→aU K H a (ns.map V.int)→gQ P w H s₁.heap→(∀b,H b≠none→b=a)→(H a≠none→K.lookup a=none)→
   codeAny (model P w) callerA (.call (.ref fa) ⟨[.ref a],[]⟩) (fun r s' =>r=.ok (.ret (.bool true))∧OldK s₁.heap s'.heap∧s'.os=s₁.os∧AllBare s'.gens) s₁:=by
  intro H hO hS bh hA hK
  have pj:∀{b:Addr} {o:Obj},s₁.heap.get? b=some o→H b=none→(oP s₁.heap H).get? b=some o:=fun e n=>zH e n
  have N0:∀{b:Addr} {o:Obj} {es:Array DictEntry} {ep:Nat},s₁.heap.get? b=some o→o.data=.dict es ep→H b=none:=fun {b o es ep} e d=>by
   cases q:H b with
   | none=>rfl
   | some u=>
    have e' :b=a:=hA b (by rw [q];simp)
    subst e'
    rw [ha] at e;cases e
    have d' :Data.seq vs.toArray _=Data.dict es ep:=d
    cases d'
  have JF:∀{b:Addr} {m:Str→Option Value},s₁.heap.Ns b m→(oP s₁.heap H).Ns b m:=fun {b m} ⟨o,es,ep,e,d,r⟩=>⟨o,es,ep,pj e (N0 e d),d,r⟩
  have hKb:K.In (oP s₁.heap H):=fun b o e=>pj (KX b o e) (by
   cases q:H b with
   | none=>rfl
   | some u=>
    have e' :b=a:=hA b (by rw [q];simp)
    subst e'
    rw [hK (by rw [q];simp)] at e;cases e)
  have hM:Mod K mg (oP s₁.heap H):=⟨hKb,JF hns,⟨mb,JF hb,hbb⟩,let ⟨mc,h1,h2⟩:=V2;⟨mc,JF h1,h2⟩,
   ⟨let ⟨mc,h1,h2⟩:=GV.statics;⟨mc,JF h1,h2⟩,let ⟨mc,h1,h2⟩:=GV.mods;⟨mc,JF h1,h2⟩,let ⟨mc,h1,h2⟩:=GV.imp;⟨mc,JF h1,h2⟩,
    let ⟨mg',bm,ob,h1,h2,h3,h4,h5⟩:=GV.main;⟨mg',bm,ob,JF h1,h2,pj h3 (by
     cases q:H bm with
     | none=>rfl
     | some u=>
      have e' :bm=a:=hA bm (by rw [q];simp)
      subst e'
      rw [ha] at h3
      cases h3
      have h4' :Value.type "list"=Value.type "module":=h4
      injection h4' with e9
      exact absurd e9 (by decide)),h4,h5⟩⟩⟩
  have e0:uC P w K mg (oP s₁.heap H) callerA [] s₁ H:=⟨rfl,hM,fun b o e=>FO e,amh (xf _ _),trivial,fun b hb=>absurd (show b∈([]:List Addr) from hb) (by simp),bh,.of_eq hg⟩
  refine codeAny_mono ((F _ hKb (JF hns)).run callerA [] s₁ H ⟨[.ref a],[]⟩ [.ref a] [.ref a] _ _ hr e0 (N9 s₁ (.ref a)) (.cons rfl .nil) (ue H hO hS)) fun r s' h=> ?_
  cases r with
  | error e=>exact (hCX H e s' h).elim
  | ok fl=>
   cases fl with
   | next=>exact False.elim h
   | brk=>exact False.elim h
   | cont=>exact False.elim h
   | ret u=>
    obtain ⟨v,H',os,bare,un,V4,r',q⟩:=h
    have q' :v=.bl true:=q
    subst q'
    obtain rfl:u=Value.bool true:=r'
    refine ⟨rfl,OldK.of_keep fun b o e=> ?_,os,bare⟩
    cases q:H b with
    | none=>exact un.keep b o e q (by intro z;exact absurd (show b∈([]:List Addr) from z) (by simp)) (by simp)
    | some u=>
     rcases hO b with z | ⟨ob,xs,z⟩
     ·rw [q] at z;cases z
     ·have z2:=un.m5 b ob _ z
      obtain ⟨e1,_⟩:=bh b _ z
      obtain ⟨e2,_⟩:=V4 b _ z2
      rw [e] at e1;cases e1
      exact e2
 cases hk:K.lookup a with
 | some o=>
  have e:=KX a o hk
  rw [ha] at e
  cases e
  refine core (fun _=>none) (fun _=>.inl rfl) (.inr ⟨_,vs.toArray,_,hk,rfl,rfl,rfl,by rw [adt,V3];exact hl,by simpa using rv⟩) (fun b u z=>by have z' :(none:Option HO)=some u:=z;cases z') (fun b z=>absurd rfl z) fun z=>absurd rfl z
 | none=>
  refine core (fun b=>if b=a then some (.bP {cls:=.type "list",data:=.seq vs.toArray} (.lst (ns.map V.int))) else none) (fun b=> ?_) (.inl (.inr ⟨{cls:=.type "list",data:=.seq vs.toArray},if_pos rfl⟩)) (fun b u z=> ?_) (fun b z=> ?_) fun _=>hk
  ·by_cases hb:b=a
   ·exact .inr ⟨_,_,if_pos hb⟩
   ·exact .inl (if_neg hb)
  ·by_cases hb:b=a
   ·have z' :=(if_pos hb).symm.trans z
    cases z'
    subst hb
    exact ⟨ha,by rw [Wp];exact hl,vs,_,rv,ha⟩
   ·have z' :=(if_neg hb).symm.trans z
    cases z'
  ·by_cases hb:b=a
   ·exact hb
   ·exact absurd (if_neg hb) z
end L2
namespace L2
open PySem PySem.Spec PyProof.Rows
abbrev KOf {K:Frag}{h:Heap}(_:K.In h):Frag:=K
end L2
namespace L2
open PySem PySem.Spec PyProof.Rows
def inClass (s:Stmt)(j:Nat):Stmt:=match s with
 | .ClassDef _ _ _ body _ _ _ _ _ _ _=>body.getD j (.Pass ⟨0,0,0,0⟩)
 | _=>.Pass ⟨0,0,0,0⟩
def aw (s:Stmt):Arguments:=match s with
 | .FunctionDef _ a _ _ _ _ _ _ _ _=>a
 | _=>{posonlyargs:=[],args:=[],vararg:=none,kwonlyargs:=[],kw_defaults:=[],kwarg:=none,defaults:=[]}
def av (s:Stmt):List Stmt:=match s with
 | .FunctionDef _ _ b _ _ _ _ _ _ _=>b
 | _=>[]
def af (s:Stmt):Scope:=match s with
 | .FunctionDef _ _ _ _ _ _ sc _ _ _=>sc
 | _=>{kind:=.function,names:=[],isGenerator:=false,isCoroutine:=false}
abbrev E0:XK:=fun _ _ _=>False
structure mX (K:Frag)(x qual:Str)(st:Stmt)(f:Addr)(fd:FuncData):Prop where
 ex:∃(oc:Value) (od:Option Addr) (kV doc pm:Value) (an:Option Addr) (bj ct:Value) (kz:Array (Option Value)),
  fd=fnOf x qual (aw st) (av st) (af st) .none kV doc pm an bj ct∧K.lookup f=some ⟨oc,od,.func fd,kz⟩∧codeIn K bj qual=true
 kp:keepIn K (.ref f)=true
section
variable {P:Program}{w:World}{K:Frag}{mg:Str→Option Value}{base:Heap}
theorem mX.binds {x qual:Str}{st:Stmt}{f:Addr}{fd:FuncData}{ps:List Str}(F:mX K x qual st f fd)
  (h:∀(kV doc pm:Value) (an:Option Addr) (bj ct:Value) (us:List Value),us.length=ps.length→bindArgs (fnOf x qual (aw st) (av st) (af st) .none kV doc pm an bj ct) ⟨us,[]⟩=pure (ps.zip us)):Binds K fd ps []:=by
 obtain ⟨oc,od,kV,doc,pm,an,bj,ct,kz,rfl,lk,m6⟩:=F.ex
 exact .all (h kV doc pm an bj ct)
theorem cF {x qual:Str}{st:Stmt}{f:Addr}{oc:Value}{od an:Option Addr}{kz:Array (Option Value)}{kV doc pm bj ct:Value}(l:K.lookup f=some ⟨oc,od,.func (fnOf x qual (aw st) (av st) (af st) .none kV doc pm an bj ct),kz⟩)
  (c:codeIn K bj qual=true) (k:keepIn K (.ref f)=true):mX K x qual st f (fnOf x qual (aw st) (av st) (af st) .none kV doc pm an bj ct):=⟨⟨oc,od,kV,doc,pm,an,bj,ct,kz,rfl,l,c⟩,k⟩
end
theorem cf {A:Around}{k:Nat}(hr:bV k A):A.units+1 < cLine:=adm (Nat.add_le_add_left (by decide:1≤64) _) hr.units
section
variable {X:Cx}
theorem pv (i:Nat){x:Str}{pos:Pos}(hN:X.N[i]? =some x:=by rfl)(hv:Vw X.env.scope x:=by first | exact adi rfl | exact ad0 (adi rfl) | exact ad0 (ad0 rfl))(hd:(x==("__debug__":Str))=false:=by decide)
  (m6:(x==("__classdict__":Str))=false:=by decide):PE X (.Name x pos) (Kw i):=Kx hN hv hd m6
end
theorem N_ {A B:Prop}(h:B):if false=true then A else B:=by
 rw [if_neg ads]
 exact h
theorem bB {c A B:Prop}[Decidable c](h1:c→A)(h2:¬ c→B):if c then A else B:=by
 by_cases h:c
 ·rw [if_pos h]
  exact h1 h
 ·rw [if_neg h]
  exact h2 h
def au (H H' :Hp):Prop:=∀b o,H b=some o→H' b=some o
theorem au.refl (H:Hp):au H H:=fun _ _ h=>h
theorem au.trans {H H1 H2:Hp}(a:au H H1)(b:au H1 H2):au H H2:=fun c o h=>b c o (a c o h)
theorem au.free {H H' :Hp}(e:au H H'){l:Addr}(h:H' l=anc):H l=anc:=by
 cases q:H l with
 | none=>rfl
 | some o=>
  rw [e l o q] at h
  cases h
theorem au.seq {K:Frag}{H H' :Hp}{a:Addr}{xs:List V}(e:au H H')(h:aU K H a xs):aU K H' a xs:=by
 rcases h with (h | ⟨o,h⟩) | h
 ·exact .inl (.inl (e _ _ h))
 ·exact .inl (.inr ⟨o,e _ _ h⟩)
 ·exact .inr h
end L2
namespace Ty
def gz (t b:Int):Int:=(adW t b:Nat)
def sg (t b:Int):Int:=if b < 0 then -gz t b else gz t b
def low (t b:Int):Int×Int:=(t.fdiv (sg t b),b.fdiv (sg t b))
theorem rS (a b:Int):adW b (a.fmod b)=adW a b:=by
 rw [ami,Int.gcd_sub_mul_left_right,Int.gcd_comm]
theorem oa {a b:Int}(h:b≠0):(a.fmod b).natAbs < b.natAbs:=by
 rcases alH b 0 with q | q | q
 ·have h1:(-a).fmod (-b)= -(a.fmod b):=by
   rw [ami,ami,Int.neg_fdiv_neg,Int.neg_mul]
   omega
  have h2:=aey (-a) (show 0 < -b by omega)
  have h3:=alB (-a) (show 0 < -b by omega)
  omega
 ·exact absurd q h
 ·have h2:=aey a q
  have h3:=alB a q
  omega
theorem pC {t b:Int}(h:b≠0):0 < gz t b:=by
 have:=amE.mpr (ad0 h:t≠0∨b≠0)
 show (0:Int) < ((adW t b:Nat):Int)
 omega
theorem N' {t b:Int}(h:b≠0):(gz t b).natAbs≤b.natAbs:=by
 have h1:adW t b ∣ b.natAbs:=aeC.mpr (aeq t b)
 have h2:=Nat.le_of_dvd (by omega) h1
 show ((adW t b:Nat):Int).natAbs≤_
 omega
theorem lE {t b:Int}(h:b≠0):sg t b≠0:=by
 have:=pC (t:=t) h
 unfold sg
 split <;> omega
theorem K2 {t b:Int}:(sg t b).natAbs=(gz t b).natAbs:=by
 unfold sg
 split
 ·exact al8 _
 ·rfl
theorem rT (t b:Int):sg t b ∣ t:=by
 unfold sg gz
 split
 ·exact Int.neg_dvd.mpr (aew t b)
 ·exact aew t b
theorem pD (t b:Int):sg t b ∣ b:=by
 unfold sg gz
 split
 ·exact Int.neg_dvd.mpr (aeq t b)
 ·exact aeq t b
theorem bS {a g:Int}(h:g≠0)(d:g ∣ a):a=g*a.fdiv g:=by
 obtain ⟨c,hc⟩:=d
 have:=aeE h hc
 rw [this]
 exact hc
theorem kC {t b:Int}(h:b≠0):t=sg t b*(low t b).1:=bS (lE h) (rT t b)
theorem iz {t b:Int}(h:b≠0):b=sg t b*(low t b).2:=bS (lE h) (pD t b)
theorem iA {t b:Int}(h:b≠0):0 < (low t b).2:=by
 have e:=iz (t:=t) h
 have g:=pC (t:=t) h
 rcases alH (low t b).2 0 with q | q | q
 ·exfalso
  by_cases c:b < 0
  ·have s:sg t b= -gz t b:=by unfold sg;rw [if_pos c]
   rw [s] at e
   have:=Int.mul_pos_of_neg_of_neg (show -gz t b < 0 by omega) q
   omega
  ·have s:sg t b=gz t b:=by unfold sg;rw [if_neg c]
   rw [s] at e
   have:=alD g q
   omega
 ·exfalso
  rw [q,aeP] at e
  exact h e
 ·exact q
theorem xt {t b:Int}(h:b≠0):(low t b).1*b=t*(low t b).2:=by
 have e1:=kC (t:=t) h
 have e2:=iz (t:=t) h
 calc (low t b).1*b=(low t b).1*(sg t b*(low t b).2):=by rw [← e2]
  _=sg t b*(low t b).1*(low t b).2:=by rw [← alo,aer (low t b).1]
  _=t*(low t b).2:=by rw [← e1]
theorem kD {t b:Int}(h:b≠0):adW (low t b).1 (low t b).2=1:=by
 have e1:=kC (t:=t) h
 have e2:=iz (t:=t) h
 have k:adW t b=(sg t b).natAbs*adW (low t b).1 (low t b).2:=by
  have q:=amy (sg t b) (low t b).1 (low t b).2
  rw [← e1, ← e2] at q
  exact q
 have g:(sg t b).natAbs=adW t b:=by
  rw [K2]
  rfl
 have p:=amE.mpr (ad0 h:t≠0∨b≠0)
 rw [g] at k
 have k' :adW t b*1=adW t b*adW (low t b).1 (low t b).2:=by rw [Nat.mul_one];exact k
 exact (Nat.eq_of_mul_eq_mul_left p k').symm
theorem cH {g a:Int}(h:g≠0):a.natAbs≤(g*a).natAbs:=by
 rw [aef]
 have:1≤g.natAbs:=by omega
 have:=adR a.natAbs this
 omega
theorem lF {t b:Int}(h:b≠0):(low t b).1.natAbs≤t.natAbs:=by
 have e:=kC (t:=t) h
 have:=cH (g:=sg t b) (a:=(low t b).1) (lE h)
 rw [← e] at this
 exact this
theorem lG {t b:Int}(h:b≠0):(low t b).2.natAbs≤b.natAbs:=by
 have e:=iz (t:=t) h
 have:=cH (g:=sg t b) (a:=(low t b).2) (lE h)
 rw [← e] at this
 exact this
theorem AH {t b g x y:Int}(hg:g≠0)(ht:t=g*x)(hb:b=g*y)(hy:0 < y)(h1:adW x y=1):low t b=(x,y):=by
 have hbn:b≠0:=by
  rw [hb]
  exact amF hg (by omega)
 have gg:adW t b=g.natAbs:=by
  rw [ht,hb,amy,h1,Nat.mul_one]
 have s:sg t b=g:=by
  unfold sg gz
  rw [gg]
  by_cases c:g < 0
  ·have:b < 0:=by rw [hb];exact Int.mul_neg_of_neg_of_pos c hy
   rw [if_pos this]
   omega
  ·have:¬ b < 0:=by
    have:=Int.mul_nonneg (show 0≤g by omega) (show 0≤y by omega)
    omega
   rw [if_neg this]
   omega
 unfold low
 rw [s]
 rw [aeE hg ht,aeE hg hb]
theorem rV {x y:Int}(hy:0 < y)(h:adW x y=1):low x y=(x,y):=AH (g:=1) (by decide) (by omega) (by omega) hy h
theorem og {t b k:Int}(hk:k≠0)(h:b≠0):low (k*t) (k*b)=low t b:=by
 refine AH (g:=k*sg t b) (amF hk (lE h)) ?_ ?_ (iA h) (kD h)
 ·rw [alo]
  exact congrArg (k*·) (kC h)
 ·rw [alo]
  exact congrArg (k*·) (iz h)
theorem m_ {t b u c:Int}(hb:b≠0)(hc:c≠0)(h:t*c=u*b):low t b=low u c:=by
 rw [← og (t:=t) (b:=b) hc hb, ← og (t:=u) (b:=c) hb hc]
 rw [aer c t,h,aer u b,aer c b]
end Ty
set_option maxHeartbeats 4000000
namespace Ty
open PySem PySem.Spec PyProof.Rows L2
open Builtin.Int (intBits)
section
variable {X:Cx}
def rW (i j:Int):Prop:=intBits i≤33554432∧intBits j≤33554432
theorem bN:gW X (binaryOp .Mult) (rI rW fun i j=>.int (i*j)):=
 NS fun _ _ _ _ _ _ _ hc q=>mul_int q (IntMulOk.of_le hc.1 hc.2 (by decide))
def Oa (i j:Int):Prop:=j≠0∧intBits j≤9000
theorem V5 {i j:Int}(h:intBits j≤9000):Builtin.divisionGoesByPylong i j=false:=by
 refine PyProof.noPylong_of_log2 ?_
 have h1:=intBits_le_iff.mp h
 by_cases h0:j.natAbs=0
 ·rw [h0]
  decide+kernel
 ·exact (Nat.log2_lt h0).mpr h1
theorem lH:gW X (binaryOp .FloorDiv) (rI Oa fun i j=>.int (i.fdiv j)):=
 NS fun _ _ _ _ _ _ _ hc q=>floordiv_int hc.1 q (.inl (V5 hc.2))
end
inductive Da where
 | v (x:V)
 | t (ds:List Da)
 | l (ds:List Da)
mutual
def Is (K:Frag)(H:Hp):Da→V→Prop
 | .v x,u=>u=x∧gs x=true
 | .t ds,u=>∃p xs,u=.ref p∧bH K H p xs∧hG K H ds xs
 | .l ds,u=>∃p xs,u=.ref p∧aU K H p xs∧hG K H ds xs
def hG (K:Frag)(H:Hp):List Da→List V→Prop
 | [],[]=>True
 | d::ds,x::xs=>Is K H d x∧hG K H ds xs
 | _,_=>False
end
mutual
def iB:Da→Da→Bool
 | .v x,.v y=>m9 x y
 | .t ds,.t es=>d_ ds es
 | .l ds,.l es=>d_ ds es
 | _,_=>false
def d_:List Da→List Da→Bool
 | [],[]=>true
 | d::ds,e::es=>iB d e && d_ ds es
 | _,_=>false
end
mutual
def alike:Da→Da→Bool
 | .v _,.v _=>true
 | .t ds,.t es=>ef ds es
 | .l ds,.l es=>ef ds es
 | _,_=>false
def ef:List Da→List Da→Bool
 | d::ds,e::es=>alike d e && ef ds es
 | _,_=>true
end
mutual
def dep:Da→Nat
 | .v _=>0
 | .t ds=>ng ds+1
 | .l ds=>ng ds+1
def ng:List Da→Nat
 | []=>0
 | d::ds=>max (dep d) (ng ds)
end
theorem hG.length {K:Frag}{H:Hp}:∀{ds:List Da} {xs:List V},hG K H ds xs→ds.length=xs.length
 | [],[],_=>rfl
 | _::_,_::_,h=>congrArg (·+1) (hG.length (by unfold hG at h;exact h.2))
 | [],_::_,h=>by unfold hG at h;exact h.elim
 | _::_,[],h=>by unfold hG at h;exact h.elim
def iC (ds es:List Da)(j:Nat):Bool:=match ds[j]?,es[j]? with
 | some d,some e=>iB d e
 | _,_=>true
theorem c9:∀ds es:List Da,d_ ds es=((adY (min ds.length es.length)).all (iC ds es) && ds.length==es.length)
 | [],[]=>rfl
 | [],_::_=>by simp [d_]
 | _::_,[]=>by simp [d_]
 | d::ds,e::es=>by
  have ih:=c9 ds es
  have r:min (d::ds).length (e::es).length=min ds.length es.length+1:=by simp [Nat.succ_min_succ]
  rw [r,aeQ,aln,amj]
  have b0:iC (d::ds) (e::es) 0=iB d e:=rfl
  have b1:(iC (d::ds) (e::es) ∘ Nat.succ)=iC ds es:=by
   funext j
   rfl
  have l1:((d::ds).length==(e::es).length)=(ds.length==es.length):=by simp
  rw [b0,b1,l1,Bool.and_assoc, ← ih]
  rfl
section
variable {X:Cx}{pins:List (Addr×Obj)}{σ:L2.St}{H:Hp}{s:Shared}
theorem AI {x:V}(h:gs x=true):m9 x x=true:=by
 cases x <;> first | rfl | (simp [m9];done) | (cases h;done)
mutual
theorem pE (I:Inv X pins σ H s):∀(d e:Da) (x:V),Is X.K H d x→Is X.K H e x→alike d e=true→iB d e=true
 | .v a,.v b,x,h1,h2,_=>by
  unfold Is at h1 h2
  obtain ⟨rfl,f⟩:=h1
  obtain ⟨rfl,_⟩:=h2
  unfold iB
  exact AI f
 | .t ds,.t es,x,h1,h2,a=>by
  unfold Is at h1 h2
  obtain ⟨p,xs,rfl,q1,k1⟩:=h1
  obtain ⟨p',ys,e',q2,k2⟩:=h2
  cases e'
  cases I.fg q1 q2
  unfold iB
  unfold alike at a
  exact lI I ds es xs k1 k2 a
 | .l ds,.l es,x,h1,h2,a=>by
  unfold Is at h1 h2
  obtain ⟨p,xs,rfl,q1,k1⟩:=h1
  obtain ⟨p',ys,e',q2,k2⟩:=h2
  cases e'
  cases I.gj q1 q2
  unfold iB
  unfold alike at a
  exact lI I ds es xs k1 k2 a
 | .v _,.t _,_,_,_,a=>by unfold alike at a;cases a
 | .v _,.l _,_,_,_,a=>by unfold alike at a;cases a
 | .t _,.v _,_,_,_,a=>by unfold alike at a;cases a
 | .t _,.l _,_,_,_,a=>by unfold alike at a;cases a
 | .l _,.v _,_,_,_,a=>by unfold alike at a;cases a
 | .l _,.t _,_,_,_,a=>by unfold alike at a;cases a
theorem lI (I:Inv X pins σ H s):∀(ds es:List Da) (xs:List V),hG X.K H ds xs→hG X.K H es xs→ef ds es=true→d_ ds es=true
 | [],[],_,_,_,_=>by unfold d_;rfl
 | d::ds,e::es,x::xs,h1,h2,a=>by
  unfold hG at h1 h2
  unfold ef at a
  rw [ael] at a
  unfold d_
  rw [pE I d e x h1.1 h2.1 a.1,lI I ds es xs h1.2 h2.2 a.2]
  rfl
 | [],_::_,[],_,h2,_=>by unfold hG at h2;exact h2.elim
 | [],_::_,_::_,h1,_,_=>by unfold hG at h1;exact h1.elim
 | _::_,[],[],h1,_,_=>by unfold hG at h1;exact h1.elim
 | _::_,[],_::_,_,h2,_=>by unfold hG at h2;exact h2.elim
 | _::_,_::_,[],h1,_,_=>by unfold hG at h1;exact h1.elim
end
theorem in1_units (A:Around):A.in1.units=A.units+1:=rfl
mutual
theorem vU (I:Inv X pins σ H s):∀(d e:Da) (x y:V) (u w:Value) (A:Around),Is X.K H d x→Is X.K H e y→alike d e=true→RelV x u→RelV y w→A.units+dep d < cLine→SeqAt.EqAt A s u w (iB d e)
 | .v a,.v b,x,y,u,w,A,h1,h2,_,r1,r2,_=>by
  unfold Is at h1 h2
  obtain ⟨rfl,f1⟩:=h1
  obtain ⟨rfl,f2⟩:=h2
  unfold iB
  exact AB r1 r2 f1 f2
 | .t ds,.t es,x,y,u,w,A,h1,h2,a,r1,r2,hu=>by
  have gR :=h1
  have V6 :=h2
  unfold Is at h1 h2
  obtain ⟨p,xs,rfl,q1,k1⟩:=h1
  obtain ⟨p',ys,rfl,q2,k2⟩:=h2
  cases r1
  cases r2
  by_cases e:p=p'
  ·subst e
   rw [pE I _ _ _ gR V6 a]
   exact .same _
  ·refine .of_refs e ?_
   obtain ⟨its,v1,t1,_⟩:=I.tuple q1
   obtain ⟨cX,v2,t2,_⟩:=I.tuple q2
   unfold iB
   rw [c9,k1.length,k2.length,v1.length,v2.length]
   have z:=SeqAt.RcAt.tuples (A:=A) (e:=iC ds es) t1 t2 (by unfold dep at hu;omega) fun j g1 g2=>by
    unfold dep at hu
    unfold alike at a
    exact gu I ds es xs ys its cX A.in1 k1 k2 a v1 v2 (by rw [in1_units];omega) j (by simpa using g1) (by simpa using g2)
   simpa using z
 | .l ds,.l es,x,y,u,w,A,h1,h2,a,r1,r2,hu=>by
  have gR :=h1
  have V6 :=h2
  unfold Is at h1 h2
  obtain ⟨p,xs,rfl,q1,k1⟩:=h1
  obtain ⟨p',ys,rfl,q2,k2⟩:=h2
  cases r1
  cases r2
  by_cases e:p=p'
  ·subst e
   rw [pE I _ _ _ gR V6 a]
   exact .same _
  ·refine .of_refs e ?_
   obtain ⟨its,v1,t1,_⟩:=I.list q1
   obtain ⟨cX,v2,t2,_⟩:=I.list q2
   unfold iB
   unfold dep at hu
   unfold alike at a
   by_cases el:its.length=cX.length
   ·rw [c9,k1.length,k2.length,v1.length,v2.length]
    have z:=SeqAt.RcAt.lists (A:=A) (e:=iC ds es) t1.isList t2.isList (by simpa using el) (by omega) fun j g1 g2=>
     gu I ds es xs ys its cX A.in1 k1 k2 a v1 v2 (by rw [in1_units];omega) j (by simpa using g1) (by simpa using g2)
    rw [el,Nat.min_self,beq_self_eq_true,amY]
    rw [adt,el] at z
    exact z
   ·have ne:d_ ds es=false:=by
     rw [c9,k1.length,k2.length,v1.length,v2.length,beq_eq_false_iff_ne.mpr el,alA]
    rw [ne]
    exact SeqAt.RcAt.lists_lengths t1.isList t2.isList (by simpa using el) (by omega)
 | .v _,.t _,_,_,_,_,_,_,_,a,_,_,_=>by unfold alike at a;cases a
 | .v _,.l _,_,_,_,_,_,_,_,a,_,_,_=>by unfold alike at a;cases a
 | .t _,.v _,_,_,_,_,_,_,_,a,_,_,_=>by unfold alike at a;cases a
 | .t _,.l _,_,_,_,_,_,_,_,a,_,_,_=>by unfold alike at a;cases a
 | .l _,.v _,_,_,_,_,_,_,_,a,_,_,_=>by unfold alike at a;cases a
 | .l _,.t _,_,_,_,_,_,_,_,a,_,_,_=>by unfold alike at a;cases a
theorem gu (I:Inv X pins σ H s):∀(ds es:List Da) (xs ys:List V) (us ws:List Value) (A:Around),hG X.K H ds xs→hG X.K H es ys→ef ds es=true→Vals xs us→Vals ys ws→A.units+ng ds < cLine→
  ∀(j:Nat) (h1:j < us.length) (h2:j < ws.length),SeqAt.EqAt A s us[j] ws[j] (iC ds es j)
 | d::ds,e::es,x::xs,y::ys,u::us,w::ws,A,k1,k2,a,.cons r1 v1,.cons r2 v2,hu,0,_,_=>by
  unfold hG at k1 k2
  unfold ef at a
  rw [ael] at a
  unfold ng at hu
  exact vU I d e x y u w A k1.1 k2.1 a.1 r1 r2 (by omega)
 | d::ds,e::es,x::xs,y::ys,u::us,w::ws,A,k1,k2,a,.cons r1 v1,.cons r2 v2,hu,j+1,h1,h2=>by
  unfold hG at k1 k2
  unfold ef at a
  rw [ael] at a
  unfold ng at hu
  exact gu I ds es xs ys us ws A k1.2 k2.2 a.2 v1 v2 (by omega) j (by simpa using h1) (by simpa using h2)
 | [],_,[],_,_,_,_,_,_,_,.nil,_,_,_,h1,_=>absurd h1 (ad6 _)
 | _,[],_,[],_,_,_,_,_,_,_,.nil,_,_,_,h2=>absurd h2 (ad6 _)
 | [],_,_::_,_,_,_,_,k1,_,_,_,_,_,_,_,_=>by unfold hG at k1;exact k1.elim
 | _::_,_,[],_,_,_,_,k1,_,_,_,_,_,_,_,_=>by unfold hG at k1;exact k1.elim
 | _,[],_,_::_,_,_,_,_,k2,_,_,_,_,_,_,_=>by unfold hG at k2;exact k2.elim
 | _,_::_,_,[],_,_,_,_,k2,_,_,_,_,_,_,_=>by unfold hG at k2;exact k2.elim
end
end
section
variable {X:Cx}
inductive JG (K:Frag)(x:V)(y:V)(H:Hp)(Q:VK):Prop where
 | mk (ds es:_) (_:((Is K H (.t ds) x∧Is K H (.t es) y)∨(Is K H (.l ds) x∧Is K H (.l es) y))) (_:ef ds es=true) (_:ng ds≤60) (_:Q (.bl (d_ ds es)) H):JG K x y H Q
theorem GX (hu:X.A.units+64 < cLine):gW X (compareOp .Eq) (JG X.K):=by
 intro pins s σ H x y v u Q I rx ry h
 obtain ⟨ds,es,h,a,hd,q⟩:=h
 rcases h with ⟨h1,h2⟩ | ⟨h1,h2⟩
 ·unfold Is at h1 h2
  obtain ⟨p,xs,rfl,q1,k1⟩:=h1
  obtain ⟨p',ys,rfl,q2,k2⟩:=h2
  cases rx
  cases ry
  obtain ⟨its,v1,t1,_⟩:=I.tuple q1
  obtain ⟨cX,v2,t2,_⟩:=I.tuple q2
  have z:=SeqAt.RcAt.tuples (A:=X.A) (e:=iC ds es) t1 t2 (by omega) fun j g1 g2=>
   gu I ds es xs ys its cX X.A.in1 k1 k2 a v1 v2 (by rw [in1_units];omega) j (by simpa using g1) (by simpa using g2)
  refine z X.prog X.w X.xe _ ⟨.bl _,H,I,rfl,?_⟩
  have e:=c9 ds es
  rw [k1.length,k2.length,v1.length,v2.length] at e
  simpa [e] using q
 ·unfold Is at h1 h2
  obtain ⟨p,xs,rfl,q1,k1⟩:=h1
  obtain ⟨p',ys,rfl,q2,k2⟩:=h2
  cases rx
  cases ry
  obtain ⟨its,v1,t1,_⟩:=I.list q1
  obtain ⟨cX,v2,t2,_⟩:=I.list q2
  have e:=c9 ds es
  rw [k1.length,k2.length,v1.length,v2.length] at e
  by_cases el:its.length=cX.length
  ·have z:=SeqAt.RcAt.lists (A:=X.A) (e:=iC ds es) t1.isList t2.isList (by simpa using el) (by omega) fun j g1 g2=>
    gu I ds es xs ys its cX X.A.in1 k1 k2 a v1 v2 (by rw [in1_units];omega) j (by simpa using g1) (by simpa using g2)
   refine z X.prog X.w X.xe _ ⟨.bl _,H,I,rfl,?_⟩
   rw [el,Nat.min_self,beq_self_eq_true,amY] at e
   simpa [e,el] using q
  ·have ne:d_ ds es=false:=by rw [e,beq_eq_false_iff_ne.mpr el,alA]
   rw [ne] at q
   exact SeqAt.RcAt.lists_lengths t1.isList t2.isList (by simpa using el) (by omega) X.prog X.w X.xe _ ⟨.bl _,H,I,rfl,q⟩
def Ob:V→Value
 | .ty n=>.type n
 | .ref a=>.ref a
 | _=>.none
def Oc:V→Bool
 | .ty _=>true
 | .ref _=>true
 | _=>false
theorem GY {c:V}{u:Value}(h:Oc c=true)(r:RelV c u):u=Ob c:=by
 cases c <;> first | exact r | (cases h;done)
end
section
variable {K:Frag}
end
theorem dA:bootBuiltins "len"=some (.builtin "len"):=by decide+kernel
theorem AJ:bootBuiltins "abs"=some (.builtin "abs"):=by decide+kernel
theorem pF:bootBuiltins "isinstance"=some (.builtin "isinstance"):=by decide+kernel
theorem Od:bootBuiltins "all"=some (.builtin "all"):=by decide+kernel
theorem JH:bootBuiltins "int"=some (.type "int"):=by decide+kernel
theorem Oe:bootBuiltins "str"=some (.type "str"):=by decide+kernel
theorem jd:bootBuiltins "list"=some (.type "list"):=by decide+kernel
theorem GZ:bootBuiltins "tuple"=some (.type "tuple"):=by decide+kernel
theorem Of {X:Cx}{x:Str}{n:String}{pos:Pos}(hg:Gl X x)(hm:X.mg x=none)(hv:bootBuiltins x=some (.type n))(hn:x≠ "__name__":=by decide)(hd:(x==("__debug__":Str))=false:=by decide):PE X (.Name x pos) (tC (.ty n)):=FU (v:=.ty n) hg hm hv rfl hn hd
def K3 (_ j:Int):Prop:=j≠0
theorem nz {i j:Int}(h:j≠0):K3 i j:=h
theorem dq {X:Cx}:gW X (binaryOp .Mod) (rI K3 fun i j=>.int (i.fmod j)):=F_
end Ty
set_option maxHeartbeats 4000000
namespace TyAtt
open PySem PySem.W PySem.Calls PyProof.Rows
open Builtin.Int (intBits)
theorem xu {ns:List Int}{n:Int}(h:(WData.list (ns.map WData.int)).layable=true)(hn:n∈ns):intBits n≤1048576:=by
 obtain ⟨_,_,hw⟩:=layableW_iff.mp h
 have a:∀(l:List Int),n∈l→intBits n≤WData.weightAll (l.map WData.int):=by
  intro l
  induction l with
  | nil=>intro q;cases q
  | cons y r ih=>
   intro q
   rw [ada]
   unfold WData.weightAll
   rcases adz.mp q with z | z
   ·subst z
    have:intBits n≤WData.weight (.int n):=by
     unfold WData.weight
     exact adf _
    omega
   ·have:=ih z
    omega
 have b:=a ns hn
 unfold WData.weight at hw
 omega
theorem rX {l:OpenLaw}{n:Nat}{q:Program}{loose:List Str}{XP:(Str→Option Value)→Heap→Prop}{YP:World→Heap→Prop}{d:DefRec}
  (hn:l.most=some n) (V7:d.params.defaults=[])
  (call:∀(w:World) (s₀ s₁:Shared) (mg mb:Str→Option Value) (fa:Addr) (o:Obj) (pm cd doc:Value) (a:Addr) (vs:List Value) (ns:List Int),
   Ground q loose [] XP w s₀ mg mb s₁.heap→YP w s₁.heap→
   s₁.heap.get? fa=some o→o.data=.func (docDef d.name d.params d.body d.scope pm cd doc)→s₁.heap.CodeRec cd d.name→mg d.name=some (.ref fa)→
   s₁.heap.get? a=some {cls:=.type "list",data:=.seq vs.toArray}→IntsAre vs ns→ns.length≤n→(∀i∈ns,intBits i≤1048576)→s₁.gens= #[]→
   codeAny (model l.prog w) callerA (.call (.ref fa) ⟨[.ref a],[]⟩) (fun r s' =>r=.ok (.ret (.bool true))∧OldK s₁.heap s'.heap∧s'.os=s₁.os∧AllBare s'.gens) s₁):
  WalkO q loose XP YP l.row.toRowW d [] (fun f vs=>PySem.call f vs):=by
 intro w s₀ s₁ mg mb G Y fa o pm cd doc dV kV ho hd m6 hD Og hg args vals as GU hlay hrd V1 hlo
 obtain rfl:dV=.none:=Dflts.none hD V7
 obtain rfl:kV=.none:=Dflts.noKw hD
 obtain ⟨a,vs,ns,rfl,rfl,K4,hints,hlen⟩:=Att.xq hn GU V1
 have hb:∀i∈ns,intBits i≤1048576:=fun i hi=>xu (layW_cons hlay).1 hi
 refine enter_call (codeAny_mono (call w s₀ s₁ mg mb fa o pm cd doc a vs ns G Y ho (fd_plain hd) m6 Og K4 hints hlen hb hg) fun r s' hq=> ?_)
 obtain ⟨rfl,h2,h3,h4⟩:=hq
 exact ⟨.inl ⟨.bool true,.bool true,[],rfl,fun _=>rfl,.bool true,Att.xr l _,fun _=>⟨List.Pairwise.nil,fun _ hm=>(nomatch hm)⟩⟩,h2,h3,h4⟩
end TyAtt
namespace Ty
open PySem PySem.Spec PyProof.Rows L2
open Builtin.Int (intBits)
structure Fn (P:Program)(w:World)(K:Frag)(mg:Str→Option Value)(base:Heap)(CX:i7)(k:Nat)(x:Str)(ps:List Str)(sp:Sp):Prop where
 ex:∃(f:Addr) (fd:FuncData),ck P w K mg base CX k f fd ps sp∧Binds K fd ps []∧mg x=some (.ref f)∧keepIn K (.ref f)=true
structure Def (K:Frag)(mg:Str→Option Value)(x:Str)(st:Stmt)(ps:List Str):Prop where
 ex:∃(f:Addr) (dV oc:Value) (od:Option Addr) (kV doc pm:Value) (an:Option Addr) (bj ct:Value) (kz:Array (Option Value)),
  K.lookup f=some ⟨oc,od,.func (fnOf x x (aw st) (av st) (af st) dV kV doc pm an bj ct),kz⟩∧codeIn K bj x=true∧keepIn K (.ref f)=true∧
  Binds K (fnOf x x (aw st) (av st) (af st) dV kV doc pm an bj ct) ps []∧mg x=some (.ref f)
theorem Def.of {K:Frag}{mg:Str→Option Value}{x:Str}{st:Stmt}{ps:List Str}{f:Addr}{fd:FuncData}(F:mX K x x st f fd)(b:Binds K fd ps [])(m:mg x=some (.ref f)):Def K mg x st ps:=by
 obtain ⟨oc,od,kV,doc,pm,an,bj,ct,kz,rfl,lk,m6⟩:=F.ex
 exact ⟨f,.none,oc,od,kV,doc,pm,an,bj,ct,kz,lk,m6,F.kp,b,m⟩
section
variable {P:Program}{w:World}{K:Frag}{mg:Str→Option Value}{base:Heap}{CX:i7}
theorem Def.ok {x:Str}{st:Stmt}{N ps:List Str}{k:Nat}{sp:Sp}(D:Def K mg x st ps)(S:aC N ps (af st))(len:∀vs H Q E,sp vs H Q E→vs.length=ps.length)
  (iy:∀(f:Addr) (bj:Value) (A:Around) (outer:List Env) (s:Shared) (H:Hp) (vs:List V) (Q:VK) (E:XK),bV k (A.deeper (envOfC x (af st) s.heap.objs.size f bj))→sp vs H Q E→
   ∃t,PSs (j8 CX P w K mg base N x (af st) f bj A outer s H E).vI (av st) t∧t {nx:=fun _ H' =>Q .cp H',rt:=Q} (start N vs) H):Fn P w K mg base CX (k+1) x ps sp:=by
 obtain ⟨f,dV,oc,od,kV,doc,pm,an,bj,ct,kz,lk,m6,kp,b,m⟩:=D.ex
 refine ⟨f,_,vQ lk m6 S len fun A outer s H vs Q E hr ue=> ?_,b,m,kp⟩
 obtain ⟨t,h,q⟩:=iy f bj A outer s H vs Q E hr ue
 exact ⟨t,h.vI,q⟩
theorem _root_.L2.mX.okG {x:Str}{st:Stmt}{f:Addr}{fd:FuncData}{N ps:List Str}{k:Nat}{sp:Sp}(F:mX K x x st f fd)(S:aC N ps (af st))(len:∀vs H Q E,sp vs H Q E→vs.length=ps.length)
  (iy:∀(bj:Value) (A:Around) (outer:List Env) (s:Shared) (H:Hp) (vs:List V) (Q:VK) (E:XK),bV k (A.deeper (envOfC x (af st) s.heap.objs.size f bj))→sp vs H Q E→
   ∃t,PSs (j8 CX P w K mg base N x (af st) f bj A outer s H E).vI (av st) t∧t {nx:=fun _ H' =>Q .cp H',rt:=Q} (start N vs) H):ck P w K mg base CX (k+1) f fd ps sp:=by
 obtain ⟨oc,od,kV,doc,pm,an,bj,ct,kz,rfl,lk,m6⟩:=F.ex
 refine vQ lk m6 S len fun A outer s H vs Q E hr ue=> ?_
 obtain ⟨t,h,q⟩:=iy bj A outer s H vs Q E hr ue
 exact ⟨t,h.vI,q⟩
def rY (CX:i7):Prop:=∀outer H s e s',CX outer H s E0 e s' →False
theorem rZ {X:Cx}(h:rY CX):Passes CX X.vI E0:=fun _ _ _ _ _ _ _ q=>(h _ _ _ _ _ q).elim
section
variable {X:Cx}{k:Nat}{ps:List Str}{sp:Sp}{E:XK}{x:Str}{p pos:Pos}{e:Expr}{es:List Expr}{t:TA}
theorem aD (F:Fn X.prog X.w X.K X.mg X.base CX k x ps sp)(hr:bV k X.A)(hx:Passes CX X E)(ha:PA X (e::es) t)(hg:Gl X x:=by rfl)(xm:(x==("__debug__":Str))=false:=by decide)
  (he:starEach (e::es) X.env=(false,eval e X.env)::starEach es X.env:=by rfl) (vP:(backTo pos (starEach es X.env)).any (·.1)=false:=by rfl):PE X (.Call (.Name x p) (e::es) [] pos) (JC sp [] E t):=by
 obtain ⟨f,fd,G,b,m,kp⟩:=F.ex
 exact GJ G hr hg m kp b .nil hx ha xm he vP
end
end
def AK (K:Frag):Sp:=fun vs H Q _=>∃(a:Addr) (ns:List Int),vs=[.ref a]∧aU K H a (ns.map V.int)∧ns.length≤63∧(∀i∈ns,intBits i≤1048576)∧∀H',Q (.bl true) H'
theorem walk {l:PySem.W.OpenLaw}{q:Program}{loose:List Str}{XP:(Str→Option Value)→Heap→Prop}{YP:World→Heap→Prop}{d:DefRec}{K:Params→Frag}{CX:World→i7}{x:Str}{k:Nat}
  (hn:l.most=some 63) (V7:d.params.defaults=[]) (hi:importsNone q=true) (hr:bV k callerA)
  (hY:∀(w:World) (h:Heap),YP w h→(K w.params).In h) (hm:∀w,rY (CX w))
  (F:∀(w:World) (mg:Str→Option Value) (fa:Addr) (h:Heap),(K w.params).In h→h.Ns mainGlobals mg→mg d.name=some (.ref fa)→
   ∃fd:FuncData,(∀(s:Shared) (u:Value),BindsTo s fd ⟨[u],[]⟩ [(x,u)])∧
    ∀base:Heap,(K w.params).In base→base.Ns mainGlobals mg→ck l.prog w (K w.params) mg base (CX w) k fa fd [x] (AK (K w.params))):
  PySem.W.WalkO q loose XP YP l.row.toRowW d [] (fun f vs=>PySem.call f vs):=by
 refine TyAtt.rX hn V7 fun w s₀ s₁ mg mb fa o pm cd doc a vs ns G Y ho hd m6 Og K4 hints hlen hb hg=> ?_
 have KX:=hY w _ Y
 obtain ⟨fd,hbd,hF⟩:=F w mg fa _ KX G.T.g Og
 exact AG KX G.T.g G.T.b G.T.builtins G.T.nolimit (G.T.seer hi) hg K4 hints (adb hlen (by decide)) hr hF hbd (fun H hO hS=>⟨a,ns,rfl,hS,hlen,hb,fun _=>rfl⟩) fun H e s' =>hm w [] H s₁ e s'
end Ty
set_option maxHeartbeats 4000000
namespace Ty
open PySem PySem.Spec PyProof.Rows
end Ty
set_option maxHeartbeats 4000000
namespace Ty
open PySem PySem.Spec PyProof.Rows L2
def DictAt (h:Heap)(a:Addr)(dx:Option Addr):Prop:=∃o,h.get? a=some o∧o.dict=dx
def aS (P:Program)(w:World):i7:=fun outer H s E e s' =>∃(a:Addr) (cls a0:Value) (dx:Option Addr) (H' :Hp) (B:Heap),
 e=.ref a∧Heap.FlyingW B outer a cls a0 s'.heap∧DictAt s'.heap a dx∧Un (vE outer) [] H H' s.heap s'.heap∧gQ P w H' s'.heap∧s'.os=s.os∧AllBare s'.gens∧
 (∀b o,s.heap.get? b=some o→b∉vE outer→∃o',B.get? b=some o')∧(∀b u,H' b=some u→∃o,B.get? b=some o)∧E cls dx H'
theorem aS.pG {P:Program}{w:World}:rY (aS P w):=fun _ _ _ _ _ ⟨_,_,_,_,_,_,_,_,_,_,_,_,_,_,_,z⟩=>z
section
variable {P:Program}{w:World}{K:Frag}{mg:Str→Option Value}{base:Heap}{N:List Str}{qual:Str}{scope:Scope}{f:Addr}{bj:Value}{A:Around}{outer:List Env}{s0:Shared}{H0:Hp}{E:XK}
abbrev cxr (P:Program)(w:World)(K:Frag)(mg:Str→Option Value)(base:Heap)(N:List Str)(qual:Str)(scope:Scope)(f:Addr)(bj:Value)(A:Around)(outer:List Env)(s0:Shared)(H0:Hp)(E:XK):Cx:=j8 (aS P w) P w K mg base N qual scope f bj A outer s0 H0 E
end
end Ty
set_option maxHeartbeats 4000000
namespace Ty
open PySem PySem.Spec PyProof.Rows L2
section
variable {X:Cx}{pins:List (Addr×Obj)}{σ:L2.St}{H H' :Hp}{s:Shared}
def XP (X:Cx)(pins:List (Addr×Obj))(σ:L2.St)(E:XK)(e:Value)(s' :Shared):Prop:=∃H s,Inv X pins σ H s∧aS X.prog X.w X.stack H s E e s'
end
end Ty
set_option maxHeartbeats 4000000
namespace TyExc
open PySem PySem.W PySem.Calls PyProof.Rows Builtin Builtin.ObjectAttr Builtin.Getset_descriptor
section
variable {prog:Program}{w:World}{A:Around}{E:Value→Shared→Prop}{K:Frag}{h:Heap}{g:Array GenState}{d:Drawn}{t:Nat}{os:OsState}{a C:Addr}{o:Obj}
end
end TyExc
set_option maxHeartbeats 4000000
namespace Ty
open PySem PySem.Spec PyProof.Rows L2
section
variable {X:Cx}
end
end Ty
set_option maxHeartbeats 4000000
namespace TyExc
open PySem PySem.W PySem.Calls PyProof.Rows Builtin Builtin.ObjectAttr Builtin.Getset_descriptor
section
variable {prog:Program}{w:World}{A:Around}{E:Value→Shared→Prop}{K:Frag}{h:Heap}{g:Array GenState}{d:Drawn}{t:Nat}{os:OsState}{a C:Addr}{o:Obj}{od:Option Obj}{name:Str}{v:Value}
end
end TyExc
set_option maxHeartbeats 4000000
namespace TyExc
open PySem PySem.W PySem.Calls PyProof.Rows Builtin Builtin.ObjectAttr
section
variable {prog:Program}{w:World}{A:Around}{E:Value→Shared→Prop}{K:Frag}{s:Shared}{x C:Addr}{ox:Obj}{od:Option Obj}{name:Str}{v:Value}{cd:ClassData}
end
end TyExc
set_option maxHeartbeats 400000
namespace TyExc
open PySem PySem.W PySem.Calls PyProof.Rows Builtin
section
variable {prog:Program}{w:World}{A:Around}{K:Frag}{h:Heap}{g:Array GenState}{d:Drawn}{t:Nat}{os:OsState}{e C:Addr}{oe:Obj}{vs:Array Value}{args:List Value}{E:Value→Shared→Prop}
end
end TyExc
set_option maxHeartbeats 400000
namespace TyExc
open PySem PySem.W PySem.Calls PyProof.Rows Builtin
section
variable {prog:Program}{w:World}{A:Around}{K:Frag}{h:Heap}{g:Array GenState}{d:Drawn}{t:Nat}{os:OsState}{nm q:Str}{C N f:Addr}{bs bm bmB:List Value}{V8:Bool}{sn:List Str}{sub:List Value}{ab:Bool}{col:Option Bool}{dd:Option Addr}{k0 k1 k2 k3 k5:Option Value}{B newId V9:String}{rest:List Value}{E:Value→Shared→Prop}
end
end TyExc
set_option maxHeartbeats 400000
namespace TyExc
open PySem PySem.W PySem.Calls PyProof.Rows Builtin
section
variable {M:Model}{A:Around}{E:Value→Shared→Prop}{env:Env}{nm q:Str}{C N:Addr}{bs bm:List Value}{V8:Bool}{sn:List Str}{sub:List Value}{ab:Bool}{col:Option Bool}{dd:Option Addr}{k0 k1 k2 k3 k5:Option Value}{newId:String}{s:Shared}{x:Sem Value}{Q:Flow→Shared→Prop}
end
end TyExc
set_option maxHeartbeats 400000
namespace TyExc
open PySem PySem.W
end TyExc
namespace Ty
open PySem PySem.Spec PyProof.Rows L2
section
variable {P:Program}{w:World}{H:Hp}{h:Heap}{C a:Addr}{dx:Option Addr}
end
section
variable {X:Cx}
end
end Ty
set_option maxHeartbeats 1000000
namespace Ty
open PySem PySem.Spec PyProof.Rows L2
section
variable {P:Program}{w:World}{K:Frag}{mg:Str→Option Value}{base:Heap}{N:List Str}{qual:Str}{scope:Scope}{f:Addr}{bj:Value}{A:Around}{outer:List Env}{s0:Shared}{H0:Hp}{E:XK}
end
end Ty
set_option maxHeartbeats 4000000
namespace Ty
open PySem PySem.Spec PyProof.Rows L2
section
variable {prog:Program}{w:World}{A:Around}{R:Result→Shared→Prop}{s:Shared}
theorem pH {elt target iter:Expr}{ifs:List Expr}{scope:Scope}{pos:Pos}{it acc:Value}{env:Env}(I:Nat→Shared→Prop)
  (turn:∀n s,I n s→wpAny (model prog w) A (pyNext it) (fun r s₁=>match r with
   | none=>R (.ok .next) s₁
   | some v=>wpAny (model prog w) A (letOwnedTupleGo target it v) (fun _ s₁' =>wpAny (model prog w) A (assign target env v) (fun _ s₂=>
     wpAny (model prog w) A (forIn ifs true fun c r=>if r=true then do let ok ← isTrue c env (eval c env);pure (ForInStep.yield ok) else pure (ForInStep.yield r)) (fun ok s₃=>
      if ok=true then wpAny (model prog w) A (eval elt env) (fun x s₄=>
       wpAny (model prog w) A (call (.builtin "list.append") [acc,x]) (fun _ s₅=>∃m,m < n∧I m s₅) (fun _ _=>False) s₄) (fun _ _=>False) s₃
      else ∃m,m < n∧I m s₃) (fun _ _=>False) s₂) (fun _ _=>False) s₁') (fun _ _=>False) s₁) (fun _ _=>False) s)
  (n:Nat) (h:I n s):
  codeAny (model prog w) A (.compLoop (.ListComp elt [⟨target,iter,ifs,0⟩] scope pos) 0 it acc env) R s:=by
 refine codeAny_loop rfl I (fun n s hI=> ?_) n h
 show wpAny _ A ((compTurn (.ListComp elt [⟨target,iter,ifs,0⟩] scope pos) 0 it acc env).onRaise (fun x=>do noteFrame x env;theTreesLotGoes x)) _ _ s
 refine wpAny_noted ?_
 rw [compTurn_list]
 refine wpAny_bind (wpAny_standAt (wpAny_bind (wpAny_mono (turn n s hI) (fun r s₁ h₁=> ?_) fun _ _ h' =>h'.elim)))
 cases r with
 | none=>exact wpAny_pure h₁
 | some v=>
  refine wpAny_bind (wpAny_mono h₁ (fun _ s₁' h₁' => ?_) fun _ _ h' =>h'.elim)
  refine wpAny_bind (wpAny_mono h₁' (fun _ s₂ h₂=>wpAny_bind (wpAny_mono h₂ (fun ok s₃ h₃=> ?_) fun _ _ h' =>h'.elim)) fun _ _ h' =>h'.elim)
  cases ok with
  | false=>exact wpAny_pure ⟨rfl,h₃⟩
  | true=>
   exact wpAny_bind (wpAny_bind (wpAny_mono h₃ (fun x s₄ h₄=>wpAny_bind (wpAny_mono h₄ (fun _ s₅ h₅=>wpAny_pure (wpAny_pure ⟨rfl,h₅⟩)) fun _ _ h' =>h'.elim)) fun _ _ h' =>h'.elim))
end
def cu (env:Env)(fr:List Str):List (Str×Addr):=fr.filterMap fun n=>(env.cells.lookup n).map fun c=>(n,c)
theorem lookup_mem {α:Type}{x:Str}{c:α}:∀{l:List (Str×α)},l.lookup x=some c→(x,c)∈l
 | [],h=>by simp at h
 | (y,d)::r,h=>by
  rw [amz] at h
  cases e:x==y with
  | true=>
   rw [e] at h
   have e1:x=y:=by simpa using e
   cases h
   rw [e1]
   exact adh
  | false=>
   rw [e] at h
   exact ade _ (lookup_mem h)
theorem xv {env:Env}{fr:List Str}{x:Str}{c:Addr}(h:(x,c)∈cu env fr):env.cells.lookup x=some c:=by
 obtain ⟨n,_,e⟩:=alz.mp h
 cases q:env.cells.lookup n with
 | none=>rw [q] at e;cases e
 | some d=>
  rw [q] at e
  have e' :(n,d)=(x,c):=adB e
  cases e'
  exact q
theorem dY {env:Env}{fr:List Str}{x:Str}{c:Addr}(h:(cu env fr).lookup x=some c):env.cells.lookup x=some c:=xv (lookup_mem h)
theorem je {env:Env}{x:Str}{c:Addr}(q:env.cells.lookup x=some c):∀{fr:List Str},x∈fr→(cu env fr).lookup x=some c
 | [],h=>nomatch h
 | y::r,h=>by
  unfold cu
  rw [aeJ]
  by_cases e:x=y
  ·subst e
   rw [q]
   simp
  ·have hr:x∈r:=by
    rcases adz.mp h with z | z
    ·exact absurd z e
    ·exact z
   have ih:=je q hr
   cases z:env.cells.lookup y with
   | none=>exact ih
   | some d=>
    show aep x ((y,d)::_)=_
    rw [amz]
    have ne:(x==y)=false:=by simpa using e
    rw [ne]
    exact ih
def jf (env:Env):List Str→Prop
 | []=>True
 | y::r=>(env.kindOf y=some .cell∨env.kindOf y=some .free)∧jf env r
theorem jf.at {env:Env}{x:Str}:∀{fr:List Str},jf env fr→x∈fr→env.kindOf x=some .cell∨env.kindOf x=some .free
 | [],_,h=>nomatch h
 | y::r,a,h=>by
  rcases adz.mp h with z | z
  ·rw [z]
   exact a.1
  ·exact jf.at a.2 z
section
variable {X:Cx}
def r6 (X:Cx)(NB:List Str)(scope:Scope)(cl:List (Str×Addr))(C:Addr)(s:Shared)(H:Hp)(fp:List Addr):Cx:=
 {prog:=X.prog,w:=X.w,K:=X.K,mg:=X.mg,base:=X.base,A:=X.A,N:=NB,s₀:=s,H₀:=H,env:=compEnvC scope cl C X.env,outer:=X.stack,stack:=X.stack,ex:=fp,fn:=fun _=>false,calm:=X.calm,pn:=[],xe:=fun _ _=>False}
structure K5 (X:Cx)(scope:Scope)(fr:List Str)(caps:List Nat):Prop where
 Oh:closureFor scope X.env=pure (cu X.env fr)
 cell:∀y∈scope.names,y.2≠.cell
 kind:scope.kind=.function
 names:∀y∈scope.names,y.2=.local→scope.names.lookup y.1=some .local
 free:∀y∈scope.names,y.2=.free→y.1∈fr
 caps:caps.map (fun i=>X.N[i]?)=fr.map some
 out:jf X.env fr
 inn:jf (compEnvC scope [] 0 X.env) fr
def PF (X:Cx)(ifs:List Expr)(t:TT):Prop:=
 ∀(pins:List (Addr×Obj)) (s:Shared) (σ:L2.St) (H:Hp) (Q:Bool→Hp→Prop),Inv X pins σ H s→t σ H Q→
  wpAny (model X.prog X.w) X.A (forIn ifs true fun c r=>if r=true then do let ok ← isTrue c X.env (eval c X.env);pure (ForInStep.yield ok) else pure (ForInStep.yield r)) (TP X pins σ Q) X.xe s
def jg:TT:=fun _ H Q=>Q true H
theorem c_:PF X [] jg:=fun _ _ _ H _ I h=>wpAny_tests_nil ⟨H,I,h⟩
def sB (k:Nat)(caps:List Nat)(σ:L2.St):L2.St:=adn k none++caps.map fun i=>(σ[i]?).getD none
def nh (D:Addr)(g:TG)(tt:TT)(te:TE)(J:It)(σ0:L2.St)(H1:Hp)(Q:VK):Prop:=∃W:Nat→Nat→L2.St→List V→Hp→Prop,
 (∃m,W 0 m σ0 [] (upd H1 D (.lst [])))∧∀i m σ2 ys H2,W i m σ2 ys H2→(J.stop i H2∧Q (.ref D) H2)∨(J.go i H2∧∀x H3,J.vJ i H2 x H3→g x σ2 H3 fun σ4 H4=>tt σ4 H4 fun b H5=>
  if b=true then te σ4 H5 fun v H6=>H6 D=some (.lst ys)∧ys.length < sizeLine∧∃m',m' < m∧W (i+1) m' σ4 (ys++[v]) (upd H6 D (.lst (ys++[v]))) else ∃m',m' < m∧W (i+1) m' σ4 ys H5)
def JI (k:Nat)(caps:List Nat)(wi:TI)(g:TG)(tt:TT)(te:TE):TE:=fun σ H Q=>wi σ H fun J H1=>∀D,H1 D=none→nh D g tt te J (sB k caps σ) H1 Q
theorem K6 {k:Nat}{caps:List Nat}{σ:L2.St}{i:Nat}{v:V}(h:(sB k caps σ)[i]? =some (some v)):k≤i∧∃j,caps[i - k]? =some j∧σ[j]? =some (some v):=by
 unfold sB at h
 by_cases c:i < k
 ·rw [adl (by simpa using c),adS,if_pos c] at h
  cases h
 ·rw [adu (by simpa using alQ c),ad',ir] at h
  refine ⟨alQ c,?_⟩
  cases e:caps[i - k]? with
  | none=>rw [e] at h;cases h
  | some j=>
   rw [e] at h
   refine ⟨j,rfl,?_⟩
   have h' :(σ[j]?).getD none=some v:=adB h
   cases z:σ[j]? with
   | none=>rw [z] at h';cases h'
   | some o=>
    rw [z] at h'
    exact congrArg some h'
theorem lJ {elt target iter:Expr}{ifs:List Expr}{scope:Scope}{pos:Pos}{tn fr:List Str}{caps:List Nat}{g:TG}{tt:TT}{te:TE}{pins:List (Addr×Obj)}{σ:L2.St}{H2:Hp}{s2:Shared}{J:It}{fp:List Addr}{it:Addr}
  {JJ:Nat→Heap→Prop} {Q:VK} {RR:Value→Addr→Result→Shared→Prop} {E:Value→Shared→Prop} (hc:X.calm=true) (B:K5 X scope fr caps)
  (hg:∀C s H fp,PG (r6 X (tn++fr) scope (cu X.env fr) C s H fp) target g) (ht:∀C s H fp,PF (r6 X (tn++fr) scope (cu X.env fr) C s H fp) ifs tt) (he:∀C s H fp,PE (r6 X (tn++fr) scope (cu X.env fr) C s H fp) elt te)
  (I2:Inv X pins σ H2 s2) (T:Turn X.prog X.w X.K target J fp it JJ) (Jx:JJ 0 s2.heap) (f2:∀b∈fp,i9 X pins H2 b) (q:∀D,H2 D=none→nh D g tt te J (sB tn.length caps σ) H2 Q)
  (fin:∀D C H' s' m,Inv X pins σ H' s' →s'.heap.Ns C m→i9 X pins H' C→Q (.ref D) H' →RR (.ref D) C (.ok .next) s'):
  wpAny (model X.prog X.w) X.A (newList []) (fun acc s₃=>wpAny (model X.prog X.w) X.A (newFunctionEnv scope X.env.globals (cu X.env fr) [] X.env.qual none .none (some X.env)) (fun Oi s₄=>
   codeAny (model X.prog X.w) X.A (.compStart (.ListComp elt [⟨target,iter,ifs,0⟩] scope pos) 0 (.ref it) acc {Oi with scope:=relabel scope X.env}) (RR acc Oi.locals) s₄) E s₃) E s2:=by
 refine wpAny_newObj_type (wpAny_newFunctionEnv B.cell (by intro y hy;simp at hy) (fun h₁ V_ V'=> ?_) B.kind)
 have I3:Inv X pins σ (upd H2 s2.heap.objs.size (.lst [])) {s2 with heap:=s2.heap.push {cls:=.type "list",data:=.seq ([]:List Value).toArray}}:=I2.K1 (t' :=s2.toks) (its:=[]) .nil (adL _)
 obtain ⟨W,⟨m0,w0⟩,turn⟩:=q s2.heap.objs.size (I2.bh.fresh (adf _))
 generalize hH3:upd H2 s2.heap.objs.size (.lst [])=H3 at I3 w0
 have f3:∀b∈fp,i9 X pins H3 b:=fun b hb=>by
  obtain ⟨a0,a1⟩:=f2 b hb
  refine ⟨?_,a1⟩
  obtain ⟨o,e,_⟩:=T.obj _ _ Jx b hb
  rw [← hH3,aj (adD (Heap.lt_size e))]
  exact a0
 generalize hD:s2.heap.objs.size=D at*
 generalize UK:({s2 with heap:=s2.heap.push {cls:=.type "list",data:=.seq ([]:List Value).toArray}}:Shared)=s3 at*
 have e3:s3.heap=s2.heap.push {cls:=.type "list",data:=.seq ([]:List Value).toArray}:=by rw [← UK]
 have NR:JJ 0 s3.heap:=T.keep _ _ _ Jx fun b _ o e=>by rw [e3];exact Heap.get?_push_of_some _ e
 have kept:∀b o,s3.heap.get? b=some o→h₁.get? b=some o:=fun b o e=>(V'.2 b (adD (Heap.lt_size e))).trans (Heap.get?_push_of_some _ e)
 generalize hC:s3.heap.objs.size=C at*
 have UL:s3.heap.objs.size≤C:=amh hC
 have I4:Inv X pins σ H3 {s3 with heap:=h₁,toks:=s3.toks+([]:List (Str×Value)).length}:=I3.kept kept
 have fpC:∀b∈fp,b≠C:=fun b hb z=>by
  obtain ⟨o,e,_⟩:=T.obj _ _ NR b hb
  exact absurd z (adD (adx (Heap.lt_size e) UL))
 have nst:∀b∈fp,b∉vE X.stack:=fun b hb z=>(adz.mp (I3.uo b z)).elim (f3 b hb).2.1 (f3 b hb).2.2.1
 have okB:(r6 X (tn++fr) scope (cu X.env fr) C s3 H3 fp).Ok:=by
  refine ⟨I3.ok.mod,B.kind,I3.ok.glob,I3.ok.blt,UL,fun x y c e1 e2=>I3.ok.inj x y c (dY e1) (dY e2),fun x hx=> ?_,fun x c z=>(nomatch z),I3.ok.hd,I3.ok.frames,.inl rfl,
   fun b hb=>⟨fpC b hb,fun x c e=>(f3 b hb).2.2.2.2.1 x c (dY e)⟩,I3.bs,adb I3.ok.FQ I3.sz,fun b o e hb=> ?_,nst,I3.stack,I3.vF⟩
  ·have hm:∃k,(x,k)∈scope.names∧k≠.local∧(k=.cell∨k=.free):=by
    have:∃k',(relabel scope X.env).names.lookup x=some k' ∧(k' =.cell∨k' =.free):=by
     rcases hx with z | z
     ·exact ⟨_,z,.inl rfl⟩
     ·exact ⟨_,z,.inr rfl⟩
    obtain ⟨k',e',h'⟩:=this
    obtain ⟨⟨n,k⟩,hn,en⟩:=ab_.mp (lookup_mem e')
    dsimp only at en
    by_cases cc:(k==NameKind.free && X.env.scope.kind==.function && X.env.kindOf n==some .cell)=true
    ·rw [if_pos cc] at en
     cases en
     have kf:k=.free:=by
      rw [ael,ael] at cc
      simpa using cc.1.1
     exact ⟨k,hn,(by intro z;rw [kf] at z;cases z),.inr kf⟩
    ·rw [if_neg cc] at en
     cases en
     exact ⟨k',hn,fun z' =>by rcases h' with y | y <;> (rw [y] at z';cases z'),h'⟩
   obtain ⟨k,hk,_,h2⟩:=hm
   rcases h2 with z | z
   ·exact absurd z (B.cell _ hk)
   ·have hf:=B.free _ hk z
    obtain ⟨c,ec⟩:=I3.ok.has x (B.out.at hf)
    exact ⟨c,je ec hf⟩
  ·obtain ⟨_,_,_,h1,_⟩:=f3 b hb
   rcases h1 with z | z
   ·exact I3.ok.zI b o e z
   ·exact aek _ (adx (adx (Heap.lt_size e) I3.ok.FQ) z)
 have IB:Inv (r6 X (tn++fr) scope (cu X.env fr) C s3 H3 fp) [] (sB tn.length caps σ) H3 {s3 with heap:=h₁,toks:=s3.toks+([]:List (Str×Value)).length}:=by
  refine ⟨okB,rfl,I3.bare,Un.kept kept,⟨_,V_,fun i x v e1 e2 _=> ?_⟩,fun x c e=>I4.cell x c (dY e),?_,fun x c e=>I3.gh x c (dY e),fun p hp=>(nomatch hp),I3.bh.kept kept,?_⟩
  ·obtain ⟨hk,j,ej,es⟩:=K6 e2
   have xw :fr[i - tn.length]? =some x:=by
    have z:(tn++fr)[i]? =some x:=e1
    rw [adu hk] at z
    exact z
   have hx:x∈fr:=aa_ xw
   have eN:X.N[j]? =some x:=by
    have z:=congrArg (fun l:List (Option Str)=>l[i - tn.length]?) B.caps
    simp only [ir,ej,xw,aeo] at z
    exact adB z
   have ko:=B.out.at hx
   obtain ⟨m,hn,hl⟩:=I4.loc
   obtain ⟨u,r,lk⟩:=hl j x v eN es (by rcases ko with z | z;exact .inr (.inl z);exact .inr (.inr z))
   refine ⟨u,r,?_⟩
   rcases lk with ⟨k1,_⟩ | ⟨_,c,ec,ic⟩
   ·rcases ko with z | z <;> (rw [z] at k1;cases k1)
   ·exact .inr ⟨B.inn.at hx,c,je ec hx,ic⟩
  ·exact I3.bh.fresh UL
  ·have:=congrArg aee B.caps
   simp only [Wp] at this
   show (sB tn.length caps σ).length=(tn++fr).length
   unfold sB
   simp [this]
 have AL:∀{H' :Hp},(∀b∈fp,H' b=none)→∀b∈fp,i9 (r6 X (tn++fr) scope (cu X.env fr) C s3 H3 fp) [] H' b:=fun hn b hb=>
  ⟨hn b hb,fpC b hb,nst b hb,.inl hb,fun x c e=>(f3 b hb).2.2.2.2.1 x c (dY e),fun p hp=>(nomatch hp)⟩
 have st4:JJ 0 h₁:=T.keep _ _ _ NR fun b _ o e=>kept b o e
 have loop:codeAny (model X.prog X.w) X.A (.compLoop (.ListComp elt [⟨target,iter,ifs,0⟩] scope pos) 0 (.ref it) (.ref D) (compEnvC scope (cu X.env fr) C X.env)) (RR (.ref D) C) {s3 with heap:=h₁,toks:=s3.toks+([]:List (Str×Value)).length}:=by
  refine pH (fun n s' =>∃i σ' ys H',Inv (r6 X (tn++fr) scope (cu X.env fr) C s3 H3 fp) [] σ' H' s' ∧JJ i s'.heap∧(∀b∈fp,H' b=none)∧W i n σ' ys H') ?_ m0 ⟨0,_,[],H3,IB,st4,fun b hb=>(f3 b hb).1,w0⟩
  rintro n s5 ⟨i,σ5,ys,H5,I5,M0,UJ,w5⟩
  rcases turn i n σ5 ys H5 w5 with ⟨stop,qn⟩ | ⟨go,step⟩
  ·refine wpAny_mono (T.done (r6 X (tn++fr) scope (cu X.env fr) C s3 H3 fp) rfl rfl rfl hc i [] s5 σ5 H5 (fun _ _=>False) I5 (AL UJ) M0 stop) (fun r s6 ⟨hr,I6⟩=> ?_) fun _ _ z=>z
   subst hr
   obtain ⟨m,hn,_⟩:=I6.loc
   have J6:Inv X pins σ H5 s6:=I3.NA (ch:=fp) I6.os I6.base I6.bh I6.bare fun b hb=>⟨(f3 b hb).2.2.2.1,(f3 b hb).2.1,(f3 b hb).2.2.2.2.1,(f3 b hb).2.2.2.2.2⟩
   exact fin D C H5 s6 m J6 hn (I3.iq UL I6.free) qn
  ·refine wpAny_mono (T.item (r6 X (tn++fr) scope (cu X.env fr) C s3 H3 fp) rfl rfl rfl hc i [] s5 σ5 H5 (fun _ _=>False) I5 (AL UJ) M0 go) (fun r s6 ⟨u,hr,h6⟩=> ?_) fun _ _ z=>z
   subst hr
   refine wpAny_mono h6 (fun _ s7 ⟨x,H7,I7,r7,y7,Wa,fr7⟩=> ?_) fun _ _ z=>z
   have I7' :=I7.pinned (AL fr7) (T.obj _ _ Wa)
   have held:∀{σ' :L2.St} {H' :Hp} {s' :Shared},Inv (r6 X (tn++fr) scope (cu X.env fr) C s3 H3 fp) ([]++kZ fp s7.heap) σ' H' s' →JJ (i+1) s'.heap∧∀b∈fp,H' b=none:=fun {σ' H' s'} I' =>by
    refine ⟨T.keep _ _ _ Wa fun b hb o e=>(I'.pin (b,o) (adE _ (adE _ (fE hb e)))).1,fun b hb=> ?_⟩
    obtain ⟨o,e,d⟩:=T.obj _ _ Wa b hb
    exact (I'.pin (b,o) (adE _ (adE _ (fE hb e)))).2.1
   refine wpAny_mono (hg C s3 H3 fp _ s7 σ5 H7 x u _ I7' r7 (step x H7 y7)) (fun _ s8 ⟨σ8,H8,I8,q8⟩=> ?_) fun _ _ z=>z
   refine wpAny_mono (ht C s3 H3 fp _ s8 σ8 H8 _ I8 q8) (fun ok s9 ⟨H9,I9,q9⟩=> ?_) fun _ _ z=>z
   cases ok with
   | false=>
    rw [if_neg ads] at q9
    obtain ⟨m',hm,w9⟩:=q9
    rw [if_neg ads]
    obtain ⟨a,b⟩:=held I9
    exact ⟨m',hm,i+1,σ8,ys,H9,I9.gm,a,b,w9⟩
   | true=>
    rw [if_pos rfl] at q9
    rw [if_pos rfl]
    refine wpAny_mono (he C s3 H3 fp _ s9 σ8 H9 _ I9 q9) (fun v xx ⟨y,K7,I10,r10,hDD,hl,m',hm,w10⟩=> ?_) fun _ _ z=>z
    refine wpAny_mono (dX (X:=r6 X (tn++fr) scope (cu X.env fr) C s3 H3 fp) _ xx σ8 K7 (.ref D) [y] (.ref D) [v] (fun _ H' =>W (i+1) m' σ8 (ys++[y]) H') I10 rfl (.cons r10 .nil) ⟨D,ys,y,rfl,rfl,hDD,hl,w10⟩) (fun _ vV ⟨z,K8,I11,_,q11⟩=> ?_) fun _ _ z=>z
    obtain ⟨a,b⟩:=held I11
    exact ⟨m',hm,i+1,σ8,ys++[y],K8,I11.gm,a,b,q11⟩
 exact codeAny_compStart_list loop (T.self X.A 0 _ _ _ st4 loop)
theorem du {elt target iter:Expr}{ifs:List Expr}{scope:Scope}{pos:Pos}{tn fr:List Str}{caps:List Nat}{wi:TI}{g:TG}{tt:TT}{te:TE}(hc:X.calm=true)(B:K5 X scope fr caps)(hi:PI X target iter wi)
  (hg:∀C s H fp,PG (r6 X (tn++fr) scope (cu X.env fr) C s H fp) target g) (ht:∀C s H fp,PF (r6 X (tn++fr) scope (cu X.env fr) C s H fp) ifs tt) (he:∀C s H fp,PE (r6 X (tn++fr) scope (cu X.env fr) C s H fp) elt te)
  (hs:∀x,foldedSetIterable iter X.env x=pure x:=by intro _;rfl):PE X (.ListComp elt [⟨target,iter,ifs,0⟩] scope pos) (JI tn.length caps wi g tt te):=by
 intro pins s σ H Q I h
 rw [eval_ListComp]
 refine wpAny_comprehension_free (use:=none) rfl hs B.Oh B.kind B.names (bK (hi pins s σ H _ I h) fun v s1 h1=>bK h1 fun UI s2 h2=> ?_)
 obtain ⟨it,fp,JJ,J,H2,rfl,I2,T,Jx,f2,q⟩:=h2
 refine lJ (Q:=Q) (RR:=fun acc C=>compPost (model X.prog X.w) X.A X.xe none (EP X pins σ Q) acc C) hc B hg ht he I2 T Jx f2 q ?_
 intro D C H' s' m I' hn fc qq
 obtain ⟨g0,g1,g2,g3,g4,g5⟩:=fc
 exact ⟨m,hn,fun h' JK =>⟨.ref D,H',I'.turned (t' :=s'.toks) (fun b o hb e=>(JK.2 b hb).trans e) g0 g1 g3 g4 g5,rfl,qq⟩⟩
theorem pI {i:Nat}{y:Str}{py:Pos}{Oj:Pos}{elt target iter:Expr}{ifs:List Expr}{scope:Scope}{pos:Pos}{tn fr:List Str}{caps:List Nat}{wi:TI}{g:TG}{tt:TT}{te:TE}(hN:X.N.Nodup)(hiN:X.N[i]? =some y)(hx:Loc X.env.scope y)
  (hc:X.calm=true) (B:K5 X scope fr caps) (hi:PI X target iter wi)
  (hg:∀C s H fp,PG (r6 X (tn++fr) scope (cu X.env fr) C s H fp) target g) (ht:∀C s H fp,PF (r6 X (tn++fr) scope (cu X.env fr) C s H fp) ifs tt) (he:∀C s H fp,PE (r6 X (tn++fr) scope (cu X.env fr) C s H fp) elt te)
  (UM:swapsWith (.ListComp elt [⟨target,iter,ifs,0⟩] scope pos) (some (.Name y py)) Oj.line X.env=pure true:=by rfl)
  (hs:∀x,foldedSetIterable iter X.env x=pure x:=by intro _;rfl) (hf:X.fn y=true∨X.env.scope.names.lookup y=some .local:=by first | exact .inl rfl | exact .inr rfl | assumption):
  PS X (.Assign [.Name y py] (.ListComp elt [⟨target,iter,ifs,0⟩] scope pos) Oj) (KJ (JI tn.length caps wi g tt te) (cY i)):=by
 intro pins s σ H D I h
 rw [exec_Assign_Name_used _ _ _ _ UM]
 refine wpAny_bind (wpAny_standAt (wpAny_bind ?_))
 show wpAny _ X.A (do let _ ← comprehension (.ListComp elt [⟨target,iter,ifs,0⟩] scope pos) scope X.env _ (newList []) false (eval iter X.env) (some (assign (.Name y py) X.env))) _ _ s
 refine wpAny_bind (wpAny_mono (wpAny_comprehension_free (use:=some (assign (.Name y py) X.env)) (Q:=fun _ s' =>SP X pins D .next s') rfl hs B.Oh B.kind B.names
  (bK (hi pins s σ H _ I h) fun v s1 h1=>bK h1 fun UI s2 h2=> ?_)) (fun _ s' hq=>wpAny_pure (wpAny_pure hq)) fun _ _ e=>e)
 obtain ⟨it,fp,JJ,J,H2,rfl,I2,T,Jx,f2,q⟩:=h2
 refine lJ (Q:=fun v H1=>cY i v σ H1 D.nx) (RR:=fun acc C=>compPost (model X.prog X.w) X.A X.xe (some (assign (.Name y py) X.env)) (fun _ s' =>SP X pins D .next s') acc C) hc B hg ht he I2 T Jx f2 q ?_
 intro DD C H' s' m I' hn fc qq
 obtain ⟨g0,g1,g2,g3,g4,g5⟩:=fc
 show wpAny _ X.A (assign (.Name y py) X.env (.ref DD)) _ _ _
 refine wpAny_assign_Name (nO I' hN hiN hx (v:=.ref DD) (u:=.ref DD) rfl (fun NZ I'' ⟨a,sb,ha⟩=> ?_) hf)
 have hCa:C≠a:=by
  rcases ha with z | z
  ·rw [z]
   exact g1
  ·exact fun e=>g4 y a z e.symm
 exact ⟨m,hn.sameBut sb hCa,fun h' JK =>⟨_,H',I''.turned (t' :=NZ.toks) (fun b o hb e=>(JK.2 b hb).trans e) g0 g1 g3 g4 g5,qq⟩⟩
end
section
variable {D:Addr}{te:TE}{cap:L2.St}{H1:Hp}{Q:VK}
theorem AM {J:It}(n:Nat)(xs:Nat→V)(Pv:Nat→List V→Hp→Prop)(h0:Pv 0 [] (upd H1 D (.lst [])))
  (go:∀i ys H,i < n→Pv i ys H→J.go i H∧∀x H',J.vJ i H x H' →H' =H∧x=xs i) (stop:∀ys H,Pv n ys H→J.stop n H)
  (hs:∀i ys H (R:VK),i < n→Pv i ys H→H D=some (.lst ys)→(∀v H6,H6 D=some (.lst ys)→ys.length < sizeLine→Pv (i+1) (ys++[v]) (upd H6 D (.lst (ys++[v])))→R v H6)→te (some (xs i)::cap) H R)
  (hd:∀ys H,Pv n ys H→H D=some (.lst ys)→Q (.ref D) H):nh D (cY 0) jg te J (none::cap) H1 Q:=by
 refine ⟨fun i m σ ys H=>m=n - i∧i≤n∧(∃o,σ=o::cap)∧Pv i ys H∧H D=some (.lst ys),⟨n,by simp,adL _,⟨none,rfl⟩,h0,ag⟩,?_⟩
 rintro i m σ ys H ⟨rfl,hi,⟨o,rfl⟩,p,hD⟩
 by_cases g7:i < n
 ·obtain ⟨g1,g2⟩:=go i ys H g7 p
  refine .inr ⟨g1,fun x H' y=> ?_⟩
  obtain ⟨e1,e2⟩:=g2 x H' y
  subst e1 e2
  unfold cY jg
  dsimp only
  rw [if_pos rfl]
  exact hs i ys _ _ g7 p hD fun v H6 a b c=>⟨a,b,n - (i+1),by omega,rfl,by omega,⟨_,rfl⟩,c,ag⟩
 ·have e:i=n:=by omega
  subst e
  exact .inl ⟨stop ys H p,hd ys H p hD⟩
end
section
variable {X:Cx}{tg:Expr}
end
end Ty
set_option maxHeartbeats 4000000
namespace Ty
open PySem PySem.Spec PyProof.Rows L2
section
variable {prog:Program}{w:World}{A:Around}{E:Value→Shared→Prop}
end
structure Ol (K:Frag)(C:Addr):Prop where
 makes:PySem.W.makesIn K C=true
 init:PySem.W.findIn K (.ref C) "__init__"=some (some (.builtin "object.__init__"))
 kp:keepIn K (.ref C)=true
def Om (C:Addr):TE:=fun _ H Q=>∀x dx,H x=none→H dx=none→dx≠x→Q (.ref x) (upd (upd H dx (.own x)) x (.ins C dx []))
section
variable {X:Cx}
theorem G_ {pins:List (Addr×Obj)}{σ:L2.St}{H:Hp}{s:Shared}{Q:VK}{C:Addr}(M:Ol X.K C)(I:Inv X pins σ H s)(h:Om C σ H Q):wpAny (model X.prog X.w) X.A (call (.ref C) []) (EP X pins σ Q) X.xe s:=by
 have hq:=h (s.heap.objs.size+1) s.heap.objs.size (I.bh.fresh (alF _)) (I.bh.fresh (adf _)) (adD (adO _))
 have I2:=Inv.made (C:=C) I
 have Y:=PySem.W.makes_of (M:=model X.prog X.w) I.nN M.makes
 refine wpAny_call (xk I.nN M.makes M.init (fun self=>PySem.W.Looks.of_pure (PySem.W.oi_bind self)) ?_)
 have ho:((s.heap.push PySem.W.emptyDict).push (PySem.W.instObj C s.heap.objs.size)).get? (s.heap.objs.size+1)=some (PySem.W.instObj C s.heap.objs.size):=by
  have:=Heap.get?_push_size (s.heap.push PySem.W.emptyDict) (o:=PySem.W.instObj C s.heap.objs.size) rfl
  rwa [Heap.size_push] at this
 have t1:PySem.W.Looks (model X.prog X.w) ((s.heap.push PySem.W.emptyDict).push (PySem.W.instObj C s.heap.objs.size)) (typeOf (.ref (s.heap.objs.size+1))) (.ref C):=(PySem.W.Looks.ld ho).andThen .now
 have t2:PySem.W.Looks (model X.prog X.w) ((s.heap.push PySem.W.emptyDict).push (PySem.W.instObj C s.heap.objs.size)) (isInstance (.ref (s.heap.objs.size+1)) (.type "object")) true:=
  t1.andThen (Y.top.keeps fun b o e=>Heap.get?_push_of_some _ (Heap.get?_push_of_some _ e))
 refine codeAny_call_builtin PySem.W.oi_plain PySem.W.entry_oi (@PySem.W.check_slot (model X.prog X.w) _ _ _ "object.__init__" "object" "__init__" (.ref (s.heap.objs.size+1)) [] [] _ PySem.W.oi_kind PySem.W.oi_split t2 (PySem.W.oi_args (.ref (s.heap.objs.size+1))) ?_)
 rw [PySem.W.oi_run]
 exact wpAny_pure (And.intro rfl ⟨V.ref (s.heap.objs.size+1),_,I2,rfl,hq⟩)
theorem K9 {x:Str}{p pos:Pos}{C:Addr}(M:Ol X.K C)(hg:Gl X x)(hm:X.mg x=some (.ref C))(xm:(x==("__debug__":Str))=false:=by decide):PE X (.Call (.Name x p) [] [] pos) (Om C):=by
 intro pins s σ H Q I h
 refine wpAny_Call_Name_kw (ip I hg hm ?_ xm)
 exact PySem.W.callWith_K0 I.nN M.kp (G_ M I h)
end
structure bq (P:Program)(w:World)(K:Frag)(mg:Str→Option Value)(base:Heap)(CX:i7)(k:Nat)(C:Addr)(m:Str)(ps:List Str)(sp:Sp):Prop where
 ex:∃(f:Addr) (fd:FuncData),ud K C∧Meth K C m f∧ck P w K mg base CX k f fd ps sp∧Binds K fd ps []
theorem bq.mono {P:Program}{w:World}{K:Frag}{mg:Str→Option Value}{base:Heap}{CX:i7}{j k:Nat}{C:Addr}{m:Str}{ps:List Str}{sp:Sp}(M:bq P w K mg base CX j C m ps sp)(h:j≤k):bq P w K mg base CX k C m ps sp:=by
 obtain ⟨f,fd,a,b,c,d⟩:=M.ex
 exact ⟨f,fd,a,b,c.mono h,d⟩
section
variable {X:Cx}{CX:i7}{k:Nat}{E:XK}{m:Str}{pos apos:Pos}{e o:Expr}{es:List Expr}{ta:TE}{t:TA}
inductive JL (P:Program)(w:World)(K:Frag)(mg:Str→Option Value)(base:Heap)(CX:i7)(k:Nat)(m:Str)(E:XK)(t:TA)(σ:L2.St)(Q:VK)(x:V)(H1:Hp):Prop where
 | mk (a C dx fs ps sp:_) (_:x=.ref a) (_:H1 a=some (.ins C dx fs)) (_:fs.lookup m=none) (_:bq P w K mg base CX k C m ps sp) (_:t σ H1 fun vs H2=>sp (x::vs) H2 Q E):JL P w K mg base CX k m E t σ Q x H1
def Oo (P:Program)(w:World)(K:Frag)(mg:Str→Option Value)(base:Heap)(CX:i7)(k:Nat)(m:Str)(E:XK)(ta:TE)(t:TA):TE:=fun σ H Q=>ta σ H fun x H1=>JL P w K mg base CX k m E t σ Q x H1
theorem dw {pl:Sem Bool}(he:PE X o ta)(hr:bV k X.A)(hx:Passes CX X E)
  (ht:eval (.Call (.Attribute o m apos) [] [] pos) X.env=(do
   let ov ← eval o X.env
   standAt apos.atName
   let (f,first) ← holding [ov] (getMethod ov m pl)
   callWith pos f first (backTo pos (starEach [] X.env)) (backToKw pos (keywordEach [] X.env))):=by rfl):
  PE X (.Call (.Attribute o m apos) [] [] pos) (Oo X.prog X.w X.K X.mg X.base CX k m E ta iu):=by
 intro pins s σ H Q I h
 refine PySem.W.methodCall_KW (pl:=pl) (bK (he pins s σ H _ I h) fun u s1 ⟨x,H1,I1,rx,a,C,dx,fs,ps,sp,ex,ea,l,M,q⟩=> ?_) ht
 subst ex
 obtain rfl:u=Value.ref a:=rx
 obtain ⟨f,fd,c,hm,F,hb⟩:=M.ex
 refine g9 I1 ea c hm l ?_
 exact PySem.W.callWith_K0 (first:=[.ref a]) I1.nN hm.kp (oZ (us:=[.ref a]) (vs:=[.ref a]) (dvs:=[]) F hr hb .nil hx I1 (.cons rfl .nil) q)
theorem dc {pl:Sem Bool}(he:PE X o ta)(hr:bV k X.A)(hx:Passes CX X E)(ha:PA X (e::es) t)
  (FV:starEach (e::es) X.env=(false,eval e X.env)::starEach es X.env:=by rfl) (vP:(backTo pos (starEach es X.env)).any (·.1)=false:=by rfl)
  (ht:eval (.Call (.Attribute o m apos) (e::es) [] pos) X.env=(do
   let ov ← eval o X.env
   standAt apos.atName
   let (f,first) ← holding [ov] (getMethod ov m pl)
   callWith pos f first (backTo pos (starEach (e::es) X.env)) (backToKw pos (keywordEach [] X.env))):=by rfl):
  PE X (.Call (.Attribute o m apos) (e::es) [] pos) (Oo X.prog X.w X.K X.mg X.base CX k m E ta t):=by
 intro pins s σ H Q I h
 refine PySem.W.methodCall_KW (pl:=pl) (bK (he pins s σ H _ I h) fun u s1 ⟨x,H1,I1,rx,a,C,dx,fs,ps,sp,ex,ea,l,M,q⟩=> ?_) ht
 subst ex
 obtain rfl:u=Value.ref a:=rx
 obtain ⟨f,fd,c,hm,F,hb⟩:=M.ex
 refine g9 I1 ea c hm l ?_
 refine PySem.W.callWith_K (first:=[.ref a]) (h₀:=X.base) I.ok.mod.MY hm.kp (bK (ha pos pins s1 σ H1 _ I1 q) fun us s2 ⟨vs,H2,I2,r,q2⟩=>⟨I2.nN,?_⟩) FV vP
 refine oZ (us:=.ref a::us) (vs:=.ref a::vs) (dvs:=[]) F hr hb .nil hx I2 (.cons rfl r) ?_
 rw [alr]
 exact q2
end
theorem r8 {X:Cx}{CX:i7}(h:rY CX)(e:X.xe=fun _ _=>False):Passes CX X E0:=fun _ _ _ _ _ _ _ q=>(h _ _ _ _ _ q).elim
end Ty
set_option maxHeartbeats 4000000
namespace Ty
open PySem PySem.Spec PyProof.Rows L2
section
variable {σ:L2.St}{H:Hp}{Q:VK}{QB:Bool→Hp→Prop}{QA:List V→Hp→Prop}{D:Ends}{t u:TS}{ta tb te:TE}{tc td:TT}{t1:TA}
end
end Ty
set_option maxHeartbeats 4000000
namespace Ty
open PySem PySem.Spec PyProof.Rows L2
section
variable {X:Cx}
inductive Oq (x:V)(lo:Option Int)(hi:Option Int)(H:Hp)(Q:VK):Prop where
 | mk (z:_) (_:x=.str z) (_:z.length≤sizeLine) (_:Q (.str (Txt.slice z lo hi)) H):Oq x lo hi H Q
theorem K_:VW X Oq:=by
 intro pins s σ H x v vl vu lo hi sl Q I rx hs pl pu h
 obtain ⟨z,rfl,hz,q⟩:=h
 obtain ⟨t,rfl⟩:=rx
 refine ⟨"str",_,F.slot_str_getitem.lookup,typeIs_str _ _ _,?_⟩
 cases pl <;> cases pu
 ·exact wpAny_getItem_str_slice (l:=none) (u:=none) (st:=none) hs rfl (post_val_or_str ⟨adb (Txt.slice_le z _ _) hz,fun t' k=>⟨.str _,H,I.tok k,⟨t',rfl⟩,q⟩⟩)
 ·rename_i j uj
  exact wpAny_getItem_str_slice (l:=none) (u:=some (j,uj)) (st:=none) hs rfl (post_val_or_str ⟨adb (Txt.slice_le z _ _) hz,fun t' k=>⟨.str _,H,I.tok k,⟨t',rfl⟩,q⟩⟩)
 ·rename_i i ui
  exact wpAny_getItem_str_slice (l:=some (i,ui)) (u:=none) (st:=none) hs rfl (post_val_or_str ⟨adb (Txt.slice_le z _ _) hz,fun t' k=>⟨.str _,H,I.tok k,⟨t',rfl⟩,q⟩⟩)
 ·rename_i i ui j uj
  exact wpAny_getItem_str_slice (l:=some (i,ui)) (u:=some (j,uj)) (st:=none) hs rfl (post_val_or_str ⟨adb (Txt.slice_le z _ _) hz,fun t' k=>⟨.str _,H,I.tok k,⟨t',rfl⟩,q⟩⟩)
inductive JM (x:V)(y:V)(H:Hp)(Q:VK):Prop where
 | mk (z n:_) (_:x=.str z) (_:y=.int n) (_:MulOk z n) (_:Q (.str (Txt.mul z n)) H):JM x y H Q
theorem pJ:gW X (binaryOp .Mult) JM:=by
 intro pins s σ H x y v u Q I rx ry h
 obtain ⟨z,n,rfl,rfl,ok,q⟩:=h
 obtain ⟨t,rfl⟩:=rx
 obtain ⟨t',rfl⟩:=ry
 exact SB.mul ok fun t' k=>⟨.str _,H,I.tok k,⟨t',rfl⟩,q⟩
theorem all_range (bs:List Bool):(adY bs.length).all (fun i=>(bs[i]?).getD true)=bs.all id:=by
 induction bs with
 | nil=>rfl
 | cons b r ih=>
  rw [adI,aeQ,aln,amj,aln, ← ih]
  rfl
inductive Ot (K:Frag)(xs:List V)(H:Hp)(Q:VK):Prop where
 | mk (p:Addr) (bs:List Bool) (_:xs=[.ref p]) (_:aU K H p (bs.map V.bl)) (_:Q (.bl (bs.all id)) H):Ot K xs H Q
theorem xy (hc:X.calm=true):eO X (.builtin "all") (Ot X.K):=by
 intro pins s σ H xs us Q I r h
 obtain ⟨p,bs,rfl,hq,q⟩:=h
 obtain ⟨u,rfl,r1⟩:=vals1 r
 cases r1
 obtain ⟨its,rv,pl,hz⟩:=I.list hq
 refine call_all_walk (wpAny_pyIter_list pl.isList ?_)
 have zv:p≠s.heap.objs.size:=by obtain ⟨o,ho,_⟩:=pl.isList;exact adD (Heap.lt_size ho)
 have I1:Inv X pins σ H {s with heap:=s.heap.push {cls:=.type "list_iterator",data:=.fields #[.ref p,.int 0 0]}}:=I.kept (t' :=s.toks) fun b o e=>Heap.get?_push_of_some _ e
 obtain ⟨f0,f1,f2,f3,f4,f5⟩:=I.iq (H' :=H) (adf s.heap.objs.size) (I.bh.fresh (adf _))
 have hl:its.length=bs.length:=by rw [← rv.length,Wp]
 refine ⟨s.heap.objs.size,_,_,_,_,_,fun i=>(bs[i]?).getD true,rfl,Walks.list (A:=X.A.in1) (I.ok.hd hc) s.heap.objs.size p zv its.toArray,⟨⟨_,Heap.get?_push_size _ rfl,rfl,rfl⟩,pl.isList.at fun o e=>Heap.get?_push_of_some _ e⟩,?_,fun h' tk kk=> ?_⟩
 ·intro i v s' Q' E' hv ja
  have KR :its[i]? =some v:=by simpa using hv
  have hi:i < bs.length:=by rw [← hl];exact (be.mp KR).1
  have eb:(bs.map V.bl)[i]? =some (.bl bs[i]):=by rw [ir,gE hi];rfl
  obtain ⟨u,eu,ru⟩:=rv.get eb
  rw [KR] at eu
  cases eu
  cases ru
  dsimp only at ja
  rw [gE hi] at ja
  exact wpAny_truthy_bool ja
 ·refine ⟨.bl (bs.all id),H,I1.turned (t' :=tk) (it:=s.heap.objs.size) (fun b o hb e=>kk b o (by simpa using hb) e) f0 f1 f3 f4 f5,?_,q⟩
  show _=_
  rw [← all_range bs,adt,hl]
end
end Ty
set_option maxHeartbeats 4000000
namespace Ty
open PySem PySem.Spec PyProof.Rows L2 PySem.NumText
def dg (m:Nat):List Nat:=(Nat.toDigits 10 m).map Char.toNat
def tx (n:Int):Str:=Str.ofString (toString n)
def Ou:Str:=Str.ofString "/"
def nt (q:Int×Int):Str:=if q.2=1 then tx q.1 else tx q.1++Ou++tx q.2
end Ty
set_option maxHeartbeats 4000000
namespace Ty
open PySem PySem.Spec PyProof.Rows L2 PySem.NumText
section
variable {X:Cx}
end
def isStar:Expr→Bool
 | .Starred .. =>true
 | _=>false
theorem xA {e:Expr}{es:List Expr}{env:Env}(h:isStar e=false):starEach (e::es) env=(false,eval e env)::starEach es env:=by
 cases e <;> first | rfl | (cases h;done)
theorem ar {X:Cx}{e:Expr}{es:List Expr}{te:TE}{t:TA}(ha:PE X e te)(hr:PA X es t)(h:isStar e=false:=by rfl):PA X (e::es) (JB te t):=GH ha hr (xA h)
end Ty
set_option maxHeartbeats 4000000
namespace Ty
open PySem PySem.Spec PyProof.Rows L2
section
variable {D:Addr}{te:TE}{cap:L2.St}{H1:Hp}{Q:VK}
def aH (D:Addr)(H H' :Hp):Prop:=∀b o,b≠D→H b=some o→H' b=some o
theorem aH.of {H H' :Hp}(s:au H H'):aH D H H' :=fun b o _ e=>s b o e
theorem aH.upd {H:Hp}{o:HO}:aH D H (upd H D o):=fun b o' n e=>by rw [aj n];exact e
theorem AN {J:It}(n:Nat)(xs:Nat→V)(Rel:Nat→V→Hp→Prop)(nD:H1 D=none)(hn:n < sizeLine)
  (go:∀i H,i < n→au H1 H→J.go i H∧∀x H',J.vJ i H x H' →H' =H∧x=xs i) (stop:∀H,au H1 H→J.stop n H)
  (hR:∀i v H H' ys,H D=some (.lst ys)→aH D H H' →Rel i v H→Rel i v H')
  (he:∀i H (R:VK),i < n→au H1 H→(∀v H6,au H H6→Rel i v H6→R v H6)→te (some (xs i)::cap) H R)
  (hd:∀ys H,ys.length=n→(∀i v,ys[i]? =some v→Rel i v H)→au H1 H→H D=some (.lst ys)→Q (.ref D) H):
  nh D (cY 0) jg te J (none::cap) H1 Q:=by
 refine AM n xs (fun i ys H=>ys.length=i∧(∀i v,ys[i]? =some v→Rel i v H)∧au H1 H) ⟨rfl,fun i v e=>by simp at e,fun b o e=>by rw [aj (ao e nD)];exact e⟩ ?_ ?_ ?_ ?_
 ·rintro i ys H hi ⟨_,_,s⟩
  exact go i H hi s
 ·rintro ys H ⟨_,_,s⟩
  exact stop H s
 ·rintro i ys H R hi ⟨l,r,s⟩ hD k
  refine he i H R hi s fun v H6 s6 rv=>k v H6 (s6 _ _ hD) (by omega) ⟨by simp [l],fun j u e=> ?_,fun b o e=> ?_⟩
  ·by_cases c:j < ys.length
   ·rw [adl c] at e
    have ru:=hR j u H H6 ys hD (aH.of s6) (r j u e)
    exact hR j u H6 _ ys (s6 _ _ hD) aH.upd ru
   ·rw [adu (by omega)] at e
    have ej:j=i:=by
     by_cases z:j - ys.length=0
     ·omega
     ·rw [ac_ (by simp;omega)] at e
      cases e
    subst ej
    have:v=u:=by
     rw [show j - ys.length=0 by omega] at e
     exact adB e
    subst this
    exact hR j v H6 _ ys (s6 _ _ hD) aH.upd rv
  ·rw [aj (ao e nD)]
   exact s6 _ _ (s _ _ e)
 ·rintro ys H ⟨l,r,s⟩ hD
  exact hd ys H l r s hD
theorem dZ {K:Frag}{a:Addr}{xs:List V}(Rel:Nat→V→Hp→Prop)(nD:H1 D=none)(hn:xs.length < sizeLine)(hS:∀H,au H1 H→aU K H a xs)
  (hR:∀i v H H' ys,H D=some (.lst ys)→aH D H H' →Rel i v H→Rel i v H')
  (he:∀i x H (R:VK),xs[i]? =some x→au H1 H→(∀v H6,au H H6→Rel i v H6→R v H6)→te (some x::cap) H R)
  (hd:∀ys H,ys.length=xs.length→(∀i v,ys[i]? =some v→Rel i v H)→au H1 H→H D=some (.lst ys)→Q (.ref D) H):
  nh D (cY 0) jg te (KN K a) (none::cap) H1 Q:=by
 refine AN xs.length (fun i=>(xs[i]?).getD .cp) Rel nD hn (fun i H hi s=>⟨⟨xs,xs[i],hS H s,gE hi⟩,fun x H' y=>⟨y.1,?_⟩⟩) (fun H s=>⟨xs,hS H s,adf _⟩) hR (fun i H R hi s k=> ?_) hd
 ·rw [y.2 xs (hS H s)];rfl
 ·have e:xs[i]? =some xs[i]:=gE hi
  have k' :=he i _ H R e s k
  rw [← (show (xs[i]?).getD .cp=xs[i] by rw [e];rfl)] at k'
  exact k'
end
end Ty
set_option maxHeartbeats 4000000
namespace Ty
open PySem PySem.Spec PyProof.Rows L2
section
variable {X:Cx}{pins:List (Addr×Obj)}{σ:L2.St}{H:Hp}{s:Shared}{h' :Heap}
theorem Inv.kE {t' :Nat}{fp:List Addr}(I:Inv X pins σ H s)(k:∀b o,b∉fp→s.heap.get? b=some o→h'.get? b=some o)(hf:∀b∈fp,i9 X pins H b):Inv X pins σ H {s with heap:=h',toks:=t' }:=by
 have Jr:∀b u,H b=some u→b∉fp:=fun b u e z=>by rw [(hf b z).1] at e;cases e
 refine I.step (g' :=s.gens) (d' :=s.drawn) (ch:=fp) (fun b hb=> ?_) (fun b o _ _ hc e _=>k b o hc e) (fun b o _ _ hc e _=>⟨o.slots,k b o hc e⟩) (fun _ _ _ _ n=>n)
  (fun b o hc e=>⟨o,k b o hc e⟩) (fun _ _ e=>e) (fun _ _ _ e=>e) (fun b ps e=>⟨#[],by rw [e];simp⟩) (fun m hm=> ?_) (fun b u e=> ?_) I.bare
 ·obtain ⟨f0,f1,f2,f3,f4,f5⟩:=hf b hb
  exact ⟨f3,f1,f4,f5⟩
 ·obtain ⟨o,es,ep,ho,r⟩:=hm
  exact ⟨o,es,ep,k _ o (fun z=>(hf _ z).2.1 rfl) ho,r⟩
 ·refine (I.bh b u e).m4 (fun c v hc q=>k c v ?_ q) (fun _ q=>q) fun _ _ q=>q
  rcases hc with z | z
  ·rw [z];exact Jr b u e
  ·exact Jr c _ z
theorem Inv.pK {t' :Nat}{fp:List Addr}{T:Addr}{xs:List V}{its:List Value}(I:Inv X pins σ H s)(k:∀b o,b∉fp→s.heap.get? b=some o→h'.get? b=some o)(hf:∀b∈fp,i9 X pins H b)(hT:s.heap.objs.size≤T)
  (hz:xs.length≤sizeLine) (rv:Vals xs its) (ht:IsTup h' T its.toArray):Inv X pins σ (upd H T (.tup xs)) {s with heap:=h',toks:=t' }:=by
 have hn:=I.bh.fresh hT
 have Jr:∀b u,H b=some u→b∉fp:=fun b u e z=>by rw [(hf b z).1] at e;cases e
 have ne:∀b o,s.heap.get? b=some o→b≠T:=fun b o e=>adD (adx (Heap.lt_size e) hT)
 refine I.step (g' :=s.gens) (d' :=s.drawn) (ch:=fp) (fun b hb=> ?_) (fun b o _ _ hc e _=>k b o hc e) (fun b o _ _ hc e _=>⟨o.slots,k b o hc e⟩) (fun b o _ e n=>by rw [aj (ne b o e)];exact n)
  (fun b o hc e=>⟨o,k b o hc e⟩) (fun b ys e=>by rw [aj (ao e hn)];exact e) (fun b o u e=>by rw [aj (ao e hn)];exact e) (fun b ps e=>⟨#[],by rw [aj (ao e hn),e];simp⟩) (fun m hm=> ?_) (fun b u e=> ?_) I.bare
 ·obtain ⟨f0,f1,f2,f3,f4,f5⟩:=hf b hb
  exact ⟨f3,f1,f4,f5⟩
 ·obtain ⟨o,es,ep,ho,r⟩:=hm
  exact ⟨o,es,ep,k _ o (fun z=>(hf _ z).2.1 rfl) ho,r⟩
 ·by_cases hb:b=T
  ·subst hb
   rw [ag] at e
   cases e
   exact ⟨hz,its,rv,ht⟩
  ·rw [aj hb] at e
   refine (I.bh b u e).m4 (fun c v hc q=>k c v ?_ q) (fun c q=>by rw [aj (ao q hn)];exact q) fun c ys q=>by rw [aj (ao q hn)];exact q
   rcases hc with z | z
   ·rw [z];exact Jr b u e
   ·exact Jr c _ z
end
def UN (K:Frag)(a b:Addr):It:=
 ⟨fun i H=>∃xs ys x y,aU K H a xs∧aU K H b ys∧xs[i]? =some x∧ys[i]? =some y,
  fun i H v H' =>∃p x y,(∀xs,aU K H a xs→xs[i]? =some x)∧(∀ys,aU K H b ys→ys[i]? =some y)∧v=.ref p∧H p=none∧H' =upd H p (.tup [x,y]),
  fun i H=>∃xs ys,aU K H a xs∧aU K H b ys∧(xs.length≤i∨ys.length≤i)⟩
theorem AO {P:Program}{w:World}{K:Frag}{es:List Expr}{k:Nat}{pos:Pos}(a b z TI TO i1 i2:Addr)(D:ZipApart z TI TO i1 i2 a b):
  Turn P w K (.Tuple es k pos) (UN K a b) [z,TI,TO,i1,i2] z (fun i h=>IsZip h z TI TO .none∧IsPair h TI (.ref i1) (.ref i2)∧(∃x y,IsPair h TO x y)∧h.IsListIter i1 a i∧h.IsListIter i2 b i) where
 mem:=by simp
 obj:=fun i h st c hc=>by
  obtain ⟨hz,hJ,⟨x,y,oh⟩,⟨o1,e1,c1,d1⟩,⟨o2,e2,c2,d2⟩⟩:=st
  have rq :c=z∨c=TI∨c=TO∨c=i1∨c=i2:=by simpa using hc
  rcases rq with e | e | e | e | e <;> subst e
  ·exact ⟨_,hz,fun v z=>by cases z⟩
  ·exact ⟨_,hJ,fun v z=>by cases z⟩
  ·exact ⟨_,oh,fun v z=>by cases z⟩
  ·exact ⟨_,e1,fun v z=>by rw [d1] at z;cases z⟩
  ·exact ⟨_,e2,fun v z=>by rw [d2] at z;cases z⟩
 keep:=fun i h h' st k=>by
  obtain ⟨hz,hJ,⟨x,y,oh⟩,h1,h2⟩:=st
  exact ⟨k z (by simp) _ hz,k TI (by simp) _ hJ,⟨x,y,k TO (by simp) _ oh⟩,h1.at fun o e=>k i1 (by simp) o e,h2.at fun o e=>k i2 (by simp) o e⟩
 item:=by
  intro X hP hw hK hc i pins s σ H E I hf st hg
  subst hP hw hK
  obtain ⟨hz,hJ,⟨x0,y0,oh⟩,h1,h2⟩:=st
  obtain ⟨xs,ys,x,y,qx,qy,ex,ey⟩:=hg
  obtain ⟨its,rv,p,_⟩:=I.list qx
  obtain ⟨Ov,rB,p',_⟩:=I.list qy
  obtain ⟨u,hu,ru⟩:=rv.get ex
  obtain ⟨v,hv,rv'⟩:=rB.get ey
  refine wpAny_pyNext_zip_item D hz hJ oh h1 h2 p.isList p'.isList (x:=u) (y:=v) (by simpa using hu) (by simpa using hv) fun h' a1 a2 a3 a4 a5 a6 a7=> ?_
  refine ⟨_,rfl,wpAny_letOwnedTupleGo_zip (s:={s with heap:=h' }) a1 fun EF b1 sb=> ?_⟩
  have nz:∀c,c≠z→∀o,h'.get? c=some o→EF.get? c=some o:=fun c hc o e=>(sb.2 c hc).trans e
  have kk:∀b o,b∉[z,TI,TO,i1,i2]→s.heap.get? b=some o→EF.get? b=some o:=fun b o hb e=>by
   have fG :b≠z∧b≠TI∧b≠TO∧b≠i1∧b≠i2:=by simpa using hb
   exact nz b fG.1 o (a7 b o fG.1 fG.2.2.1 fG.2.2.2.1 fG.2.2.2.2 e)
  have sz:∀c o,s.heap.get? c=some o→s.heap.objs.size≠c:=fun c o e=>alx (Heap.lt_size e)
  have tz:s.heap.objs.size≠z:=sz _ _ hz
  have hn:=I.bh.fresh (adf s.heap.objs.size)
  have I2:Inv X pins σ (upd H s.heap.objs.size (.tup [x,y])) {s with heap:=EF,toks:=s.toks}:=
   Inv.pK I kk hf (adf _) (by show 2≤sizeLine;decide) (its:=[u,v]) (.cons ru (.cons rv' .nil)) ⟨_,nz _ tz _ a5,rfl,_,rfl⟩
  refine ⟨.ref s.heap.objs.size,_,I2,rfl,⟨s.heap.objs.size,x,y,fun xs' q=>by rw [I.gj q qx];exact ex,fun ys' q=>by rw [I.gj q qy];exact ey,rfl,hn,rfl⟩,⟨b1,nz _ D.TIz _ (a7 _ _ D.TIz D.TITO D.TIi1 D.TIi2 hJ),⟨_,_,nz _ D.TOz _ a2⟩,a3.at fun o e=>nz _ D.i1z o e,a4.at fun o e=>nz _ D.i2z o e⟩,fun b hb=> ?_⟩
  have ob:∃o,s.heap.get? b=some o:=by
   obtain ⟨o1,e1,_⟩:=h1
   obtain ⟨o2,e2,_⟩:=h2
   have rq :b=z∨b=TI∨b=TO∨b=i1∨b=i2:=by simpa using hb
   rcases rq with e | e | e | e | e <;> subst e
   ·exact ⟨_,hz⟩
   ·exact ⟨_,hJ⟩
   ·exact ⟨_,oh⟩
   ·exact ⟨_,e1⟩
   ·exact ⟨_,e2⟩
  obtain ⟨o,e⟩:=ob
  rw [aj (adG (sz _ _ e))]
  exact (hf b hb).1
 done:=by
  intro X hP hw hK hc i pins s σ H E I hf st hg
  subst hP hw hK
  obtain ⟨hz,hJ,⟨x0,y0,oh⟩,h1,h2⟩:=st
  obtain ⟨xs,ys,qx,qy,ee⟩:=hg
  obtain ⟨its,rv,p,_⟩:=I.list qx
  obtain ⟨Ov,rB,p',_⟩:=I.list qy
  have l1:=rv.length
  have l2:=rB.length
  refine wpAny_pyNext_zip_end (I.ok.hd hc) D hz hJ oh h1 h2 p.isList p'.isList ?_ fun h' kk=>⟨rfl,Inv.kE I (fun b o hb e=> ?_) hf⟩
  ·rcases ee with e | e
   ·exact .inl (by simp;omega)
   ·exact .inr (by simp;omega)
  ·have fG :b≠z∧b≠TI∧b≠TO∧b≠i1∧b≠i2:=by simpa using hb
   exact kk b o fG.1 fG.2.2.1 fG.2.2.2.1 fG.2.2.2.2 e
 self:=fun _ _ _ _ _ st h=>wpAny_pyIter_zip st.1 h
theorem boot_zip:bootBuiltins "zip"=some (.type "zip"):=by decide+kernel
section
variable {X:Cx}
inductive JN (K:Frag)(R:(It→Hp→Prop))(vs:List V)(H1:Hp):Prop where
 | mk (a b:_) (_:vs=[.ref a,.ref b]) (_:(∃xs,aU K H1 a xs)) (_:(∃ys,aU K H1 b ys)) (_:R (UN K a b) H1):JN K R vs H1
def Wb (K:Frag)(ta:TA):TI:=fun σ H R=>ta σ H fun vs H1=>JN K R vs H1
theorem uG {e1 e2:Expr}{ta:TA}{p pos:Pos}{es:List Expr}{k:Nat}{oX:Pos}(hg:Gl X "zip")(hm:X.mg "zip"=none)(ha:PA X [e1,e2] ta)(hs:starEach [e1,e2] X.env=[(false,eval e1 X.env),(false,eval e2 X.env)]:=by rfl)(ED:starEach [e2] X.env=[(false,eval e2 X.env)]:=by rfl):
  PI X (.Tuple es k oX) (.Call (.Name "zip" p) [e1,e2] [] pos) (Wb X.K ta):=by
 intro pins s σ H R I h
 refine Call_ (gi I hg hm boot_zip (PyProof.Rows.callWith_type1 (bK (ha pos pins s σ H _ I h) fun us s1 ⟨vs,H1,I1,r1,q1⟩=> ?_) (by rw [hs,ED]) (by rw [ED];rfl)))
 obtain ⟨a,b,e,⟨xs,hx⟩,⟨ys,hy⟩,q⟩:=q1
 subst e
 cases r1 with
 | cons r rr=>
  cases rr with
  | cons r' rr=>
   cases rr
   cases r
   cases r'
   obtain ⟨its,rv,pl,_⟩:=I1.list hx
   obtain ⟨Ov,rB,pl',_⟩:=I1.list hy
   have lt1:a < s1.heap.objs.size:=by obtain ⟨o,ho,_⟩:=pl.isList;exact Heap.lt_size ho
   have lt2:b < s1.heap.objs.size:=by obtain ⟨o,ho,_⟩:=pl'.isList;exact Heap.lt_size ho
   refine call_zip_2 pl.isList pl'.isList fun h' hz hJ oh M6 Wc hsz hk=>wpAny_pyIter_zip (s:={s1 with heap:=h' }) hz ?_
   refine ⟨s1.heap.objs.size+4,[s1.heap.objs.size+4,s1.heap.objs.size+2,s1.heap.objs.size+3,s1.heap.objs.size,s1.heap.objs.size+1],_,_,H1,rfl,I1.kept (t' :=s1.toks) hk,AO a b _ _ _ _ _ ?_,⟨hz,hJ,⟨_,_,oh⟩,M6,Wc⟩,fun c hc=> ?_,q⟩
   ·constructor <;> (intro z;simp only [Addr] at*;omega)
   ·have rq :s1.heap.objs.size≤c:=by
     have:c=s1.heap.objs.size+4∨c=s1.heap.objs.size+2∨c=s1.heap.objs.size+3∨c=s1.heap.objs.size∨c=s1.heap.objs.size+1:=by simpa using hc
     simp only [Addr] at*
     omega
    exact I1.iq rq (I1.bh.fresh rq)
inductive AQ (K:Frag)(xs:List V)(H:Hp)(Q:VK):Prop where
 | mk (p:Addr) (ys:List V) (_:xs=[.ref p]) (_:aU K H p ys) (_:∀l,H l=none→Q (.ref l) (upd H l (.lst ys))):AQ K xs H Q
theorem lK:eO X (.type "list") (AQ X.K):=by
 intro pins s σ H xs us Q I r h
 obtain ⟨p,ys,rfl,hq,q⟩:=h
 obtain ⟨u,rfl,r1⟩:=vals1 r
 cases r1
 obtain ⟨its,rv,⟨o,n,e,c,d1,d⟩,hz⟩:=I.list hq
 have hlen:=rv.length
 refine call_list_seq p (.inl rfl) e c d (fun h' c' hk hl=> ?_) (by simp;omega)
 have hn:=I.bh.fresh (adf s.heap.objs.size)
 have I2:Inv X pins σ (upd H s.heap.objs.size (.lst ys)) {s with heap:=h',toks:=s.toks}:=I.laid (t' :=s.toks) hk (adf _) ⟨hz,its,c',rv,hl⟩
 exact ⟨.ref _,_,I2,rfl,q _ hn⟩
end
section
variable {X:Cx}{K:Frag}
theorem dP (h:X.K=K):KU X (GP K):=by subst h;exact uD
theorem r9 (h:X.K=K):KU X (GO K):=by subst h;exact a_
theorem pO {es:List Expr}{k:Nat}{t:Ju}{n:Nat}{pos:Pos}(hK:X.K=K)(hc:X.calm=true)(h:NL X es t)
  (hn:(assignEach es X.env).length=n:=by rfl) (FV:(assignEach es X.env).findIdx? (·.1)=none:=by rfl):PG X (.Tuple es k pos) (zP K n t):=by subst hK;exact eW hc h hn FV
end
section
variable {D:Addr}{te:TE}{cap:L2.St}{H1:Hp}{Q:VK}
theorem r_ {K:Frag}{a b:Addr}{xs ys:List V}(Rel:Nat→V→Hp→Prop)(nD:H1 D=none)(hn:xs.length < sizeLine)(hl:ys.length=xs.length)(hX:∀H,au H1 H→aU K H a xs)(hY:∀H,au H1 H→aU K H b ys)
  (hR:∀i v H H' ys,H D=some (.lst ys)→aH D H H' →Rel i v H→Rel i v H')
  (he:∀i x y H (R:VK),xs[i]? =some x→ys[i]? =some y→au H1 H→(∀v H6,au H H6→Rel i v H6→R v H6)→te (some x::some y::cap) H R)
  (hd:∀zs H,zs.length=xs.length→(∀i v,zs[i]? =some v→Rel i v H)→au H1 H→H D=some (.lst zs)→Q (.ref D) H):
  nh D (zP K 2 (rK (cY 0) (rK (cY 1) KI))) jg te (UN K a b) (none::none::cap) H1 Q:=by
 refine ⟨fun i m σ zs H=>m=xs.length - i∧i≤xs.length∧(∃o o',σ=o::o' ::cap)∧(zs.length=i∧(∀i v,zs[i]? =some v→Rel i v H)∧au H1 H)∧H D=some (.lst zs),⟨xs.length,by simp,adL _,⟨none,none,rfl⟩,⟨rfl,fun i v e=>by simp at e,fun b o e=>by rw [aj (ao e nD)];exact e⟩,ag⟩,?_⟩
 rintro i m σ zs H ⟨rfl,hi,⟨o,o',rfl⟩,⟨l,r,s⟩,hD⟩
 by_cases g7:i < xs.length
 ·have e1:xs[i]? =some xs[i]:=gE g7
  have e2:ys[i]? =some (ys[i]'(by omega)):=gE (by omega)
  refine .inr ⟨⟨xs,ys,_,_,hX H s,hY H s,e1,e2⟩,fun v H' y=> ?_⟩
  obtain ⟨p,x,y,q1,q2,rfl,np,rfl⟩:=y
  have e1:=q1 xs (hX H s)
  have e2:=q2 ys (hY H s)
  have sp:au H (upd H p (.tup [x,y])):=fun b o e=>by rw [aj (ao e np)];exact e
  refine ⟨p,_,rfl,bH.of ag,rfl,_,_,rfl,_,_,rfl,rfl,?_⟩
  unfold jg
  dsimp only
  rw [if_pos rfl]
  refine he i x y _ _ e1 e2 (fun b o e=>sp _ _ (s _ _ e)) fun v H6 s6 rv=>⟨s6 _ _ (sp _ _ hD),by omega,xs.length - (i+1),by omega,rfl,by omega,⟨_,_,rfl⟩,⟨by simp [l],fun j u e=> ?_,fun b o e=> ?_⟩,ag⟩
  ·by_cases c:j < zs.length
   ·rw [adl c] at e
    have ru:=hR j u H H6 zs hD (aH.of fun b o q=>s6 _ _ (sp _ _ q)) (r j u e)
    exact hR j u H6 _ zs (s6 _ _ (sp _ _ hD)) aH.upd ru
   ·rw [adu (by omega)] at e
    have ej:j=i:=by
     by_cases z:j - zs.length=0
     ·omega
     ·rw [ac_ (by simp;omega)] at e
      cases e
    subst ej
    have:v=u:=by
     rw [show j - zs.length=0 by omega] at e
     exact adB e
    subst this
    exact hR j v H6 _ zs (s6 _ _ (sp _ _ hD)) aH.upd rv
  ·rw [aj (ao e nD)]
   exact s6 _ _ (sp _ _ (s _ _ e))
 ·have e:i=xs.length:=by omega
  subst e
  exact .inl ⟨⟨xs,ys,hX H s,hY H s,.inl (adf _)⟩,hd zs H l r s hD⟩
end
end Ty
set_option maxHeartbeats 4000000
namespace Ty
open PySem PySem.Spec PyProof.Rows L2
open Builtin.Int (intBits)
def vl (q:Int×Int):Rat:=(q.1:Rat) / (q.2:Rat)
structure Sm (T B:Nat)(q:Int×Int):Prop where
 pos:0 < q.2
 low:adW q.1 q.2=1
 top:q.1.natAbs≤2^T
 bot:q.2.natAbs≤2^B
theorem bW {b:Int}(h:b≠0):(b:Rat)≠0:=by simpa using h
theorem jh {t b:Int}(h:b≠0):vl (low t b)=(t:Rat) / (b:Rat):=by
 have c:=xt (t:=t) h
 have p:=iA (t:=t) h
 have h1:=bW h
 have h2:=bW (b:=(low t b).2) (by omega)
 have c' :((low t b).1:Rat)*b=t*(low t b).2:=by exact_mod_cast c
 unfold vl
 grind
theorem se {t b u c:Int}(hb:b≠0)(hc:c≠0)(h:(t:Rat) / b=(u:Rat) / c):t*c=u*b:=by
 have h1:=bW hb
 have h2:=bW hc
 have:(t:Rat)*c=u*b:=by grind
 exact_mod_cast this
theorem K' {q r:Int×Int}(hq:0 < q.2)(hr:0 < r.2)(gq:adW q.1 q.2=1)(gr:adW r.1 r.2=1)(h:vl q=vl r):q=r:=by
 have c:=se (t:=q.1) (b:=q.2) (u:=r.1) (c:=r.2) (by omega) (by omega) h
 have e:=m_ (t:=q.1) (b:=q.2) (u:=r.1) (c:=r.2) (by omega) (by omega) c
 rw [rV hq gq,rV hr gr] at e
 exact alC (congrArg ang e) (congrArg anh e)
theorem xB {b d:Int}(hd:d≠0)(h:d ∣ b):((b.fdiv d:Int):Rat)=(b:Rat) / d:=by
 have e:=bS hd h
 have h1:=bW hd
 have:(b:Rat)=d*(b.fdiv d:Int):=by exact_mod_cast e
 grind
def fH (xs ys:List (Int×Int)):Rat:=(ad2 (fun a b=>vl a*vl b) xs ys).sum
theorem xC {x y:Int×Int}{xs ys:List (Int×Int)}:fH (x::xs) (y::ys)=vl x*vl y+fH xs ys:=by simp [fH]
def f7 (ts:List Int)(qs:List (Int×Int))(b:Int):Prop:=ts.length=qs.length∧∀(i:Nat) (t:Int) (q:Int×Int),ts[i]? =some t→qs[i]? =some q→(t:Rat)=vl q*b
theorem f7.tail {t:Int}{ts:List Int}{q:Int×Int}{qs:List (Int×Int)}{b:Int}(h:f7 (t::ts) (q::qs) b):f7 ts qs b:=⟨by simpa using h.1,fun i t' q' e1 e2=>h.2 (i+1) t' q' (by simpa using e1) (by simpa using e2)⟩
theorem pQ {a b:Int}{m n:Nat}(h1:a.natAbs≤2^m)(h2:b.natAbs≤2^n):(a*b).natAbs≤2^(m+n):=by
 rw [aef,alq]
 exact ad5 h1 h2
theorem La {a b:Int}{m:Nat}(h1:a.natAbs≤2^m)(h2:b.natAbs≤2^m):(a+b).natAbs≤2^(m+1):=by
 have:=aeF a b
 rw [aeR]
 omega
theorem lM {a:Int}{m n:Nat}(h:a.natAbs≤2^m)(hm:m≤n):a.natAbs≤2^n:=adb h (adA (by decide) hm)
theorem gJ {a:Int}{m n:Nat}(h:a.natAbs≤2^m)(hm:m < n):intBits a≤n:=intBits_le_iff.mpr (adm h (al9 (by decide) hm))
theorem kF {a b:Int}{m n:Nat}(h1:a.natAbs≤2^m)(h2:b.natAbs≤2^n)(hm:m < 30000000)(hn:n < 30000000):rW a b:=⟨adb (gJ h1 hm) (by decide),adb (gJ h2 hn) (by decide)⟩
theorem Sm.up {T B T' B' :Nat}{q:Int×Int}(h:Sm T B q)(hT:T≤T')(hB:B≤B'):Sm T' B' q:=⟨h.pos,h.low,lM h.top hT,lM h.bot hB⟩
theorem AR {b d:Int}(hb:0 < b)(hd:0 < d):0 < b.fdiv (gz b d)*d∧b ∣ b.fdiv (gz b d)*d∧d ∣ b.fdiv (gz b d)*d∧(b.fdiv (gz b d)*d).natAbs≤b.natAbs*d.natAbs:=by
 have gp:=pC (t:=b) (b:=d) (by omega)
 have g1:gz b d ∣ b:=aew ..
 have g2:gz b d ∣ d:=aeq ..
 have e1:=bS (g:=gz b d) (by omega) g1
 have e2:=bS (g:=gz b d) (by omega) g2
 generalize gz b d=g at*
 have p1:0 < b.fdiv g:=by
  rcases alH (b.fdiv g) 0 with z | z | z
  ·exfalso
   have:=alD gp z
   omega
  ·rw [z] at e1;omega
  ·exact z
 refine ⟨aes p1 hd,⟨d.fdiv g,?_⟩,⟨b.fdiv g,aer ..⟩,?_⟩
 ·have:b.fdiv g*d=b.fdiv g*(g*d.fdiv g):=by rw [← e2]
  rw [this]
  have h3:b*d.fdiv g=g*b.fdiv g*d.fdiv g:=by rw [← e1]
  rw [h3]
  rw [← alo,aer (b.fdiv g) g]
 ·rw [aef]
  exact adR _ (by
   have:=cH (g:=g) (a:=b.fdiv g) (by omega)
   rw [← e1] at this
   exact this)
theorem xD {q:Int×Int}{b:Int}(hq:0 < q.2)(h:q.2 ∣ b):((q.1*b.fdiv q.2:Int):Rat)=vl q*b:=by
 have e:=xB (b:=b) (d:=q.2) (by omega) h
 have:((q.1*b.fdiv q.2:Int):Rat)=q.1*((b.fdiv q.2:Int):Rat):=by push_cast;rfl
 rw [this,e]
 unfold vl
 grind
theorem fh {b d:Int}(hd:d≠0)(h:d ∣ b):(b.fdiv d).natAbs≤b.natAbs:=by
 have:=cH (g:=d) (a:=b.fdiv d) hd
 rw [← bS hd h] at this
 exact this
end Ty
set_option maxHeartbeats 4000000
namespace Ty
open PySem PySem.Spec PyProof.Rows L2
section
variable {D:Addr}{te:TE}{cap:L2.St}{H1:Hp}{Q:VK}
theorem xE {J:It}(n:Nat)(xs:Nat→V)(Rel:Nat→V→Hp→Prop)(nD:H1 D=none)(hn:n < sizeLine)
  (go:∀i H,i < n→au H1 H→J.go i H∧∀x H',J.vJ i H x H' →H' =H∧x=xs i) (stop:∀H,au H1 H→J.stop n H)
  (hR:∀i v H H' ys,H D=some (.lst ys)→aH D H H' →Rel i v H→Rel i v H')
  (he:∀i H (R:VK),i < n→au H1 H→(∃ys,H D=some (.lst ys))→(∀v H6,au H H6→Rel i v H6→R v H6)→te (some (xs i)::cap) H R)
  (hd:∀ys H,ys.length=n→(∀i v,ys[i]? =some v→Rel i v H)→au H1 H→H D=some (.lst ys)→Q (.ref D) H):
  nh D (cY 0) jg te J (none::cap) H1 Q:=by
 refine AM n xs (fun i ys H=>ys.length=i∧(∀i v,ys[i]? =some v→Rel i v H)∧au H1 H) ⟨rfl,fun i v e=>by simp at e,fun b o e=>by rw [aj (ao e nD)];exact e⟩ ?_ ?_ ?_ ?_
 ·rintro i ys H hi ⟨_,_,s⟩
  exact go i H hi s
 ·rintro ys H ⟨_,_,s⟩
  exact stop H s
 ·rintro i ys H R hi ⟨l,r,s⟩ hD k
  refine he i H R hi s ⟨_,hD⟩ fun v H6 s6 rv=>k v H6 (s6 _ _ hD) (by omega) ⟨by simp [l],fun j u e=> ?_,fun b o e=> ?_⟩
  ·by_cases c:j < ys.length
   ·rw [adl c] at e
    have ru:=hR j u H H6 ys hD (aH.of s6) (r j u e)
    exact hR j u H6 _ ys (s6 _ _ hD) aH.upd ru
   ·rw [adu (by omega)] at e
    have ej:j=i:=by
     by_cases z:j - ys.length=0
     ·omega
     ·rw [ac_ (by simp;omega)] at e
      cases e
    subst ej
    have:v=u:=by
     rw [show j - ys.length=0 by omega] at e
     exact adB e
    subst this
    exact hR j v H6 _ ys (s6 _ _ hD) aH.upd rv
  ·rw [aj (ao e nD)]
   exact s6 _ _ (s _ _ e)
 ·rintro ys H ⟨l,r,s⟩ hD
  exact hd ys H l r s hD
theorem hV {K:Frag}{a:Addr}{xs:List V}(Rel:Nat→V→Hp→Prop)(nD:H1 D=none)(hn:xs.length < sizeLine)(hS:∀H,au H1 H→aU K H a xs)
  (hR:∀i v H H' ys,H D=some (.lst ys)→aH D H H' →Rel i v H→Rel i v H')
  (he:∀i x H (R:VK),xs[i]? =some x→au H1 H→(∃ys,H D=some (.lst ys))→(∀v H6,au H H6→Rel i v H6→R v H6)→te (some x::cap) H R)
  (hd:∀ys H,ys.length=xs.length→(∀i v,ys[i]? =some v→Rel i v H)→au H1 H→H D=some (.lst ys)→Q (.ref D) H):
  nh D (cY 0) jg te (KN K a) (none::cap) H1 Q:=by
 refine xE xs.length (fun i=>(xs[i]?).getD .cp) Rel nD hn (fun i H hi s=>⟨⟨xs,xs[i],hS H s,gE hi⟩,fun x H' y=>⟨y.1,?_⟩⟩) (fun H s=>⟨xs,hS H s,adf _⟩) hR (fun i H R hi s dd k=> ?_) hd
 ·rw [y.2 xs (hS H s)];rfl
 ·have e:xs[i]? =some xs[i]:=gE hi
  have k' :=he i _ H R e s dd k
  rw [← (show (xs[i]?).getD .cp=xs[i] by rw [e];rfl)] at k'
  exact k'
end
section
variable {X:Cx}
end
end Ty
namespace L2
open PySem PySem.Spec PyProof.Rows
section
variable {κ:Type}[DecidableEq κ]
def bE (kvs:List (κ×V))(k:κ):Option V:=(kvs.find? fun kv=>decide (kv.1=k)).map (·.2)
def putK (kvs:List (κ×V))(k:κ)(v:V):List (κ×V):=
 if (kvs.any fun kv=>decide (kv.1=k))=true then kvs.map (fun kv=>if kv.1=k then (kv.1,v) else kv) else kvs++[(k,v)]
theorem bf {p:κ×V}{r:List (κ×V)}{k:κ}(e:p.1=k):bE (p::r) k=some p.2:=by simp [bE,aeB,e]
theorem a9 {p:κ×V}{r:List (κ×V)}{k:κ}(e:¬ p.1=k):bE (p::r) k=bE r k:=by simp [bE,aeB,e]
theorem fj (k:κ):∀kvs:List (κ×V),(kvs.any fun kv=>decide (kv.1=k))=(bE kvs k).isSome
 | []=>rfl
 | p::r=>by
  rw [aeL]
  by_cases e:p.1=k
  ·simp only [bf e,decide_eq_true e,Bool.true_or,Option.isSome_some]
  ·rw [a9 e,decide_eq_false e,Bool.false_or];exact fj k r
theorem sf (k j:κ)(y:V):∀kvs:List (κ×V),bE (kvs.map fun kv=>if kv.1=k then (kv.1,y) else kv) j=(bE kvs j).map fun x=>if j=k then y else x
 | []=>rfl
 | p::r=>by
  have ih:=sf k j y r
  rw [ada]
  by_cases h:p.1=k
  ·rw [if_pos h]
   by_cases e:p.1=j
   ·rw [bf (p:=(p.1,y)) e,bf e,aeo,if_pos (e.symm.trans h)]
   ·rw [a9 (p:=(p.1,y)) e,a9 e,ih]
  ·rw [if_neg h]
   by_cases e:p.1=j
   ·rw [bf (p:=p) e,bf e,aeo,if_neg (fun z=>h (e.trans z))]
   ·rw [a9 (p:=p) e,a9 e,ih]
theorem oi (k j:κ)(y:V):∀kvs:List (κ×V),bE kvs k=none→bE (kvs++[(k,y)]) j=if j=k then some y else bE kvs j
 | [],_=>by
  by_cases e:k=j
  ·rw [if_pos e.symm];exact bf (p:=(k,y)) e
  ·rw [if_neg (fun z=>e z.symm)];exact a9 (p:=(k,y)) e
 | p::r,hn=>by
  rw [aeH]
  have hk:¬ p.1=k:=fun z=>by rw [bf z] at hn;cases hn
  rw [a9 hk] at hn
  have ih:=oi k j y r hn
  by_cases e:p.1=j
  ·rw [bf e,bf e,if_neg (fun z=>hk (e.trans z))]
  ·rw [a9 e,a9 e,ih]
theorem lO (kvs:List (κ×V))(k j:κ)(y:V):bE (putK kvs k y) j=if j=k then some y else bE kvs j:=by
 unfold putK
 by_cases a:(kvs.any fun kv=>decide (kv.1=k))=true
 ·rw [if_pos a,sf]
  rw [fj] at a
  by_cases e:j=k
  ·obtain ⟨x,hx⟩:=alM.mp a
   rw [if_pos e,e,hx,aeo,if_pos rfl]
  ·rw [if_neg e]
   cases bE kvs j with
   | none=>rfl
   | some x=>rw [aeo,if_neg e]
 ·rw [if_neg a]
  refine oi k j y kvs ?_
  rw [fj] at a
  cases q:bE kvs k with
  | none=>rfl
  | some x=>rw [q] at a;exact (a rfl).elim
theorem dB (kvs:List (κ×V))(k:κ)(v:V):(putK kvs k v).length≤kvs.length+1:=by
 unfold putK
 split
 ·rw [Wp];omega
 ·rw [adp,adI,al1];omega
theorem cw {kvs:List (κ×V)}{k:κ}(v:V)(h:bE kvs k=none):putK kvs k v=kvs++[(k,v)]:=by
 unfold putK
 rw [fj,h]
 exact if_neg (by decide)
theorem gd.fk {o:Option V}{u:Option Value}(r:gd o u):o.isSome=u.isSome:=by
 cases o with
 | none=>cases u with
  | none=>rfl
  | some _=>exact (show False from r).elim
 | some _=>cases u with
  | none=>exact (show False from r).elim
  | some _=>rfl
theorem gd.getD {o:Option V}{u:Option Value}{d:V}{d' :Value}(r:gd o u)(rd:RelV d d'):RelV (o.getD d) (u.getD d'):=by
 cases o with
 | none=>cases u with
  | none=>exact rd
  | some _=>exact (show False from r).elim
 | some _=>cases u with
  | none=>exact (show False from r).elim
  | some _=>exact r
theorem KV.val {kvs:List (κ×V)}{vs:List (κ×Value)}(r:KV kvs vs)(k:κ):gd (bE kvs k) (valueAt vs k):=by
 unfold KV at r
 induction r with
 | nil=>exact True.intro
 | @cons p q ps qs h t ih=>
  obtain ⟨h1,h2⟩:=h
  by_cases e:p.1=k
  ·have e' :q.1=k:=h1.symm.trans e
   have b:valueAt (q::qs) k=some q.2:=by simp [valueAt,aeB,e']
   rw [bf e,b];exact h2
  ·have e' :¬ q.1=k:=fun z=>e (h1.trans z)
   have b:valueAt (q::qs) k=valueAt qs k:=by simp [valueAt,aeB,e']
   rw [a9 e,b];exact ih
theorem KV.any {kvs:List (κ×V)}{vs:List (κ×Value)}(r:KV kvs vs)(k:κ):(kvs.any fun kv=>decide (kv.1=k))=vs.any fun kv=>decide (kv.1=k):=by
 unfold KV at r
 induction r with
 | nil=>rfl
 | cons h t ih=>rw [aeL,aeL,ih,h.1]
theorem KV.Lb {kvs:List (κ×V)}{vs:List (κ×Value)}(r:KV kvs vs)(k:κ){y:V}{u:Value}(ry:RelV y u):
  KV (kvs.map fun kv=>if kv.1=k then (kv.1,y) else kv) (vs.map fun kv=>if kv.1=k then (kv.1,u) else kv):=by
 unfold KV at r ⊢
 induction r with
 | nil=>exact .nil
 | @cons p q ps qs h t ih=>
  rw [ada,ada]
  refine .cons ?_ ih
  obtain ⟨h1,h2⟩:=h
  by_cases e:p.1=k
  ·rw [if_pos e,if_pos (h1.symm.trans e)];exact ⟨h1,ry⟩
  ·rw [if_neg e,if_neg (fun z=>e (h1.trans z))];exact ⟨h1,h2⟩
theorem KV.put {kvs:List (κ×V)}{vs:List (κ×Value)}(r:KV kvs vs)(k:κ){y:V}{u:Value}(ry:RelV y u):KV (putK kvs k y) (stored vs k u):=by
 unfold putK stored
 rw [r.any k]
 by_cases e:(vs.any fun kv=>decide (kv.1=k))=true
 ·rw [if_pos e,if_pos e];exact r.Lb k ry
 ·rw [if_neg e,if_neg e];exact Paired.snoc r ⟨rfl,ry⟩
theorem KV.length {kvs:List (κ×V)}{vs:List (κ×Value)}(r:KV kvs vs):kvs.length=vs.length:=Paired.length r
end
theorem jP {P:Program}{w:World}{k:Key}{u:Value}(r:RelV (kV k) u):(aV P w).is k u=true:=by
 cases k with
 | inl i=>obtain ⟨t,e⟩:=(show ∃t,u=Value.int i t from r);subst e;exact rF P w i t
 | inr x=>obtain ⟨t,e⟩:=(show ∃t,u=Value.str x t from r);subst e;exact rG P w x t
theorem oj {P:Program}{w:World}:∀{ks:List Key} {us:List Value},Vals (ks.map kV) us→ItemsAre (aV P w) ks us
 | [],_,r=>by rw [adZ] at r;cases r;exact .nil
 | k::ks,_,r=>by
  rw [ada] at r
  cases r with
  | cons h t=>exact .cons (jP h) (oj t)
abbrev KT (H:Hp):List (List Key×V)→List (List Key×Addr×Value)→Prop:=Paired fun p q=>p.1=q.1∧H q.2.1=some (.tup (p.1.map kV))∧RelV p.2 q.2.2
theorem KT.val {H:Hp}{kvs:List (List Key×V)}{xs:List (List Key×Addr×Value)}(r:KT H kvs xs)(k:List Key):gd (bE kvs k) ((atKey xs k).map (·.2)):=by
 induction r with
 | nil=>exact True.intro
 | @cons p q ps qs h t ih=>
  obtain ⟨h1,_,h2⟩:=h
  by_cases e:p.1=k
  ·have e' :q.1=k:=h1.symm.trans e
   have b:atKey (q::qs) k=some q.2:=by simp [atKey,aeB,e']
   rw [bf e,b];exact h2
  ·have e' :¬ q.1=k:=fun z=>e (h1.trans z)
   have b:atKey (q::qs) k=atKey qs k:=by simp [atKey,aeB,e']
   rw [a9 e,b];exact ih
theorem KT.Lb {H:Hp}{kvs:List (List Key×V)}{xs:List (List Key×Addr×Value)}(r:KT H kvs xs)(k:List Key){y:V}{u:Value}(ry:RelV y u):
  KT H (kvs.map fun kv=>if kv.1=k then (kv.1,y) else kv) (xs.map (putAt k u)):=by
 induction r with
 | nil=>exact .nil
 | @cons p q ps qs h t ih=>
  rw [ada,ada]
  refine .cons ?_ ih
  obtain ⟨h1,h2,h3⟩:=h
  unfold putAt
  by_cases e:p.1=k
  ·rw [if_pos e,if_pos (h1.symm.trans e)];exact ⟨h1,h2,ry⟩
  ·rw [if_neg e,if_neg (fun z=>e (h1.trans z))];exact ⟨h1,h2,h3⟩
theorem KT.put {H:Hp}{kvs:List (List Key×V)}{xs:List (List Key×Addr×Value)}(r:KT H kvs xs)(k:List Key){b:Addr}{y:V}{u:Value}(hb:H b=some (.tup (k.map kV)))(ry:RelV y u):
  KT H (putK kvs k y) (storedH xs k b u):=by
 have e:(kvs.any fun kv=>decide (kv.1=k))=(atKey xs k).isSome:=by
  rw [fj,(r.val k).fk,alI]
 unfold putK storedH
 rw [e]
 by_cases q:(atKey xs k).isSome=true
 ·rw [if_pos q,if_pos q];exact r.Lb k ry
 ·rw [if_neg q,if_neg q];exact Paired.snoc r ⟨rfl,hb,ry⟩
theorem KT.keeps {H H' :Hp}{kvs:List (List Key×V)}{xs:List (List Key×Addr×Value)}(r:KT H kvs xs)(ht:∀b ys,H b=some (.tup ys)→H' b=some (.tup ys)):KT H' kvs xs:=
 Paired.bZ r fun _ _ z=>⟨z.1,ht _ _ z.2.1,z.2.2⟩
section
variable {P:Program}{w:World}{H:Hp}{h:Heap}{a:Addr}
theorem JO {u:HO}(ok:gQ P w H h)(e:Rd H a u):bY P w H h a u:=e.ok ok
theorem gX {kvs:List (Key×V)}(ok:gQ P w H h)(e:Rd H a (.dK kvs)):kvs.length≤sizeLine∧(a==sysModules)=false∧∃vs,KV kvs vs∧h.DictOf (aV P w) a vs:=
 show bY P w H h a (.dK kvs) from JO ok e
theorem lQ {kvs:List (Key×V)}(ok:gQ P w H h)(e:H a=some (.dK kvs)):kvs.length≤sizeLine∧(a==sysModules)=false∧∃vs,KV kvs vs∧h.DictOf (aV P w) a vs:=gX ok (.inl e)
theorem ji {ks:List Key}(ok:gQ P w H h)(e:H a=some (.tup (ks.map kV))):(tupleKind (aV P w)).is h ks a:=by
 obtain ⟨_,its,r,o,h1,h2,n,h3⟩:=(show bY P w H h a (.tup (ks.map kV)) from ok a _ e)
 exact ⟨o,its.toArray,n,h1,h2,h3,by simpa using oj r⟩
theorem lR {kvs:List (List Key×V)}(ok:gQ P w H h)(e:Rd H a (.dT kvs)):kvs.length≤sizeLine∧(a==sysModules)=false∧
  ∃xs,KT H kvs xs∧h.DictOfH (tupleKind (aV P w)) a xs:=by
 obtain ⟨z,y,xs,r,o,es,ep,h1,h2,h3,h4,h5⟩:=(show bY P w H h a (.dT kvs) from JO ok e)
 refine ⟨z,y,xs,r,o,es,ep,h1,h2,h3,h4,fun x hx=> ?_,h5⟩
 have all:∀{l:List (List Key×V)} {m:List (List Key×Addr×Value)},KT H l m→∀x∈m,(tupleKind (aV P w)).is h x.1 x.2.1:=by
  intro l m q
  induction q with
  | nil=>intro x hx;exact nomatch hx
  | @cons p q ps qs hq t ih=>
   intro x hx
   rcases adz.mp hx with e | hx
   ·subst e
    exact ji ok (by rw [← hq.1];exact hq.2.1)
   ·exact ih x hx
 exact all r x hx
theorem Ow {kvs:List (List Key×V)}(ok:gQ P w H h)(e:H a=some (.dT kvs)):kvs.length≤sizeLine∧(a==sysModules)=false∧
  ∃xs,KT H kvs xs∧h.DictOfH (tupleKind (aV P w)) a xs:=lR ok (.inl e)
end
def cT (H:Hp)(a:Addr)(y:V)(r:Option V):Prop:=
 (∃kvs k,Rd H a (.dK kvs)∧y=kV k∧r=bE kvs k)∨∃kvs k b,Rd H a (.dT kvs)∧y=.ref b∧H b=some (.tup (k.map kV))∧r=bE kvs k
def gf (H:Hp)(a:Addr)(y v:V)(H' :Hp):Prop:=
 (∃kvs k,H a=some (.dK kvs)∧y=kV k∧kvs.length < sizeLine∧H' =upd H a (.dK (putK kvs k v)))∨
 ∃kvs k b,H a=some (.dT kvs)∧y=.ref b∧H b=some (.tup (k.map kV))∧kvs.length < sizeLine∧H' =upd H a (.dT (putK kvs k v))
theorem cT.k {H:Hp}{a:Addr}{kvs:List (Key×V)}{k:Key}(e:H a=some (.dK kvs)):cT H a (kV k) (bE kvs k):=.inl ⟨kvs,k,.inl e,rfl,rfl⟩
theorem gf.k {H:Hp}{a:Addr}{kvs:List (Key×V)}{k:Key}{v:V}(e:H a=some (.dK kvs))(hl:kvs.length < sizeLine):gf H a (kV k) v (upd H a (.dK (putK kvs k v))):=.inl ⟨kvs,k,e,rfl,hl,rfl⟩
theorem gf.t {H:Hp}{a b:Addr}{kvs:List (List Key×V)}{k:List Key}{v:V}(e:H a=some (.dT kvs))(eb:H b=some (.tup (k.map kV)))(hl:kvs.length < sizeLine):
  gf H a (.ref b) v (upd H a (.dT (putK kvs k v))):=.inr ⟨kvs,k,b,e,rfl,eb,hl,rfl⟩
section
variable {X:Cx}{pins:List (Addr×Obj)}{σ:St}{H:Hp}{s:Shared}{a:Addr}{y v:V}{u r:Value}{o:Option V}{A:Around}{E:Value→Shared→Prop}
theorem Inv.big (I:Inv X pins σ H s):sysModules < s.heap.objs.size:=by
 have h:mainGlobals < s.heap.objs.size:=(I.mod.glob.keeps I.bk).lt
 exact amk (by decide) h
theorem xF {Q:Value→Shared→Prop}(hu:A.units+1 < cLine)(I:Inv X pins σ H s)(g:cT H a y (some v))(ry:RelV y u)(h:∀w' s',Inv X pins σ H s' →RelV v w' →Q w' s'):
  wpAny (model X.prog X.w) A (getItem (.ref a) u) Q E s:=by
 rcases g with ⟨kvs,k,e,ey,l⟩ | ⟨kvs,k,b,e,ey,eb,l⟩
 ·subst ey
  obtain ⟨z,hd,vs,rel,dd⟩:=gX I.bh e
  obtain ⟨w',hw,rB⟩:=gd.some_of (v:=v) (o:=valueAt vs k) (by rw [l];exact rel.val k)
  exact wpAny_getItem_of (jP ry) dd.mapOf hw (h w' _ (I.tok _) rB)
 ·subst ey
  cases (show u=Value.ref b from ry)
  obtain ⟨z,hd,xs,rel,dd⟩:=lR I.bh e
  obtain ⟨w',hw,rB⟩:=gd.some_of (v:=v) (o:=(atKey xs k).map (·.2)) (by rw [l];exact rel.val k)
  obtain ⟨p,hp,Ox⟩:=adk.mp hw
  refine wpAny_getItem_heap (tupleKind_room_in1 hu) (ji I.bh eb) dd hp ?_
  rw [Ox]
  exact h w' _ (I.tok _) rB
theorem Wd {Q:Value→Shared→Prop}(hu:A.units+1 < cLine)(I:Inv X pins σ H s)(g:cT H a y o)(ry:RelV y u)(h:∀s',Inv X pins σ H s' →Q (.bool o.isSome) s'):
  wpAny (model X.prog X.w) A (compareOp .In u (.ref a)) Q E s:=by
 rcases g with ⟨kvs,k,e,ey,l⟩ | ⟨kvs,k,b,e,ey,eb,l⟩
 ·subst ey
  obtain ⟨z,hd,vs,rel,dd⟩:=gX I.bh e
  refine wpAny_in_of (jP ry) hd dd.mapOf ?_
  rw [← (rel.val k).fk, ← l]
  exact h _ (I.tok _)
 ·subst ey
  cases (show u=Value.ref b from ry)
  obtain ⟨z,hd,xs,rel,dd⟩:=lR I.bh e
  refine wpAny_in_heap (tupleKind_room_in1 hu) (ji I.bh eb) hd dd ?_
  have q:=(rel.val k).fk
  rw [alI] at q
  rw [← q, ← l]
  exact h _ (I.tok _)
theorem G' {Q:Value→Shared→Prop}(hu:A.units+1 < cLine)(I:Inv X pins σ H s)(g:cT H a y o)(ry:RelV y u)(h:∀s',Inv X pins σ H s' →Q (.bool (!o.isSome)) s'):
  wpAny (model X.prog X.w) A (compareOp .NotIn u (.ref a)) Q E s:=by
 rcases g with ⟨kvs,k,e,ey,l⟩ | ⟨kvs,k,b,e,ey,eb,l⟩
 ·subst ey
  obtain ⟨z,hd,vs,rel,dd⟩:=gX I.bh e
  refine wpAny_notIn_of (jP ry) hd dd.mapOf ?_
  rw [← (rel.val k).fk, ← l]
  exact h _ (I.tok _)
 ·subst ey
  cases (show u=Value.ref b from ry)
  obtain ⟨z,hd,xs,rel,dd⟩:=lR I.bh e
  refine wpAny_notIn_heap (tupleKind_room_in1 hu) (ji I.bh eb) hd dd ?_
  have q:=(rel.val k).fk
  rw [alI] at q
  rw [← q, ← l]
  exact h _ (I.tok _)
theorem kG {h' :Heap}{t' :Nat}{ob:HO}(I:Inv X pins σ H s)(mu:Nv (H a))(hs:Heap.SameBut a s.heap h')(he:∃q,h'.get? a=some q)(new:bY X.prog X.w (upd H a ob) h' a ob):
  Inv X pins σ (upd H a ob) {s with heap:=h',toks:=t' }:=
 I.write (x:=a) (e:=a) mu (.inl rfl) (fun b q hb z=>(hs.2 b hb).trans z) he new
theorem uH {P:Program}{w:World}{H' :Hp}{h' :Heap}{kvs:List (Key×V)}{vs:List (Key×Value)}(z:kvs.length≤sizeLine)(hd:(a==sysModules)=false)(rel:KV kvs vs)(dd:h'.DictOf (aV P w) a vs):
  bY P w H' h' a (.dK kvs):=⟨z,hd,vs,rel,dd⟩
theorem xG {H' :Hp}{Q:Unit→Shared→Prop}(hu:A.units+1 < cLine)(I:Inv X pins σ H s)(g:gf H a y v H')(ry:RelV y u)(rv:RelV v r)(h:∀s',Inv X pins σ H' s' →Q () s'):
  wpAny (model X.prog X.w) A (setItem (.ref a) u r) Q E s:=by
 rcases g with ⟨kvs,k,e,ey,l,eH⟩ | ⟨kvs,k,b,e,ey,eb,l,eH⟩
 ·subst ey eH
  obtain ⟨z,hd,vs,rel,dd⟩:=lQ I.bh e
  have hz:vs.length≤sizeLine:=by rw [← rel.length];exact z
  have hl:(putK kvs k v).length≤sizeLine:=by have:=dB kvs k v;omega
  refine wpAny_setItem_pairs (hsz:=hz) (jP ry) dd fun h' Lc hs=>h _ ?_
  have he:∃q,h'.get? a=some q:=let ⟨q,_,_,hq,_⟩:=Lc;⟨q,hq⟩
  exact kG I (by rw [e];exact True.intro) hs he (uH hl hd (rel.put k rv) Lc)
 ·subst ey eH
  cases (show u=Value.ref b from ry)
  obtain ⟨z,hd,xs,rel,dd⟩:=Ow I.bh e
  have hz:xs.length≤sizeLine:=by rw [← Paired.length rel];exact z
  have hl:(putK kvs k v).length≤sizeLine:=by have:=dB kvs k v;omega
  refine wpAny_setItem_heap (hsz:=hz) (tupleKind_room_in1 hu) (ji I.bh eb) dd fun h' Lc hs=>h _ ?_
  obtain ⟨q,es,ep,hq,h2,h3,h4,_,h5⟩:=Lc
  refine kG I (by rw [e];exact True.intro) hs ⟨q,hq⟩ ⟨hl,hd,_,(rel.put k eb rv).keeps fun c ys ec=> ?_,q,es,ep,hq,h2,h3,h4,h5⟩
  rw [aj (Nu ec e (fun z=>nomatch z))]
  exact ec
end
section
variable {X:Cx}{pins:List (Addr×Obj)}{σ:St}{H:Hp}{s:Shared}{a:Addr}{kvs:List (Key×V)}{k:Key}{u:Value}{A:Around}{E:Value→Shared→Prop}
theorem Oy {Q:Value→Shared→Prop}(I:Inv X pins σ H s)(e:Rd H a (.dK kvs))(h:∀t s',Inv X pins σ H s' →Q (.int kvs.length t) s'):wpAny (model X.prog X.w) A (call (.builtin "len") [.ref a]) Q E s:=by
 obtain ⟨z,hd,vs,rel,dd⟩:=gX I.bh e
 refine call_len_dict hd dd (by rw [← rel.length];rw [sizeLine_eq] at z;omega) ?_
 rw [← rel.length]
 exact h _ _ (I.tok _)
end
def Oz (i:Expr):Prop:=∀ov iv,subscripted i false ov iv=operate [ov,iv] (getItem ov iv)
theorem HE {prog:Program}{w:World}{A:Around}{E:Value→Shared→Prop}{s:Shared}{env:Env}{value slice:Expr}{pos:Pos}{T id:String}{Q:Value→Shared→Prop}
  (hl:typeLookup (.type T) "__getitem__"=pure (some (.builtin id))) (hs:Oz slice)
  (h:wpAny (model prog w) A (eval value env) (fun o s₁=>wpAny (model prog w) A (eval slice env) (fun i s₂=>s₂.TypeIs o T∧wpAny (model prog w) A (getItem o i) Q E s₂) E s₁) E s):
  wpAny (model prog w) A (eval (.Subscript value slice pos) env) Q E s:=by
 refine Subscript_ (wpAny_mono h (fun o s₁ h₁=>wpAny_mono h₁ (fun i s₂ h₂=> ?_) fun _ _ x=>x) fun _ _ x=>x)
 obtain ⟨hT,h₂⟩:=h₂
 unfold subscriptTail
 refine wpAny_bind ?_
 rw [getitemInPython_of_ne hT.not_modules]
 refine wpAny_bind (wpAny_specialOf hT hl ?_)
 have fin:wpAny (model prog w) A (subscripted slice false o i) (fun r s₃=>wpAny (model prog w) A (letTemporaryGo value o r >>=fun _=>pure r) Q E s₃) E s₂:=by
  rw [hs o i]
  exact wpAny_operating (wpAny_mono h₂ (fun r s₃ h₃=>wpAny_bind (wpAny_letTemporaryGo (wpAny_pure h₃))) fun _ _ x=>x)
 first
  | exact wpAny_pure (wpAny_bind fin)
  | exact wpAny_bind (wpAny_pure (wpAny_bind fin))
  | exact wpAny_bind fin
theorem si {X:Cx}{pins:List (Addr×Obj)}{σ:St}{H:Hp}{s:Shared}{a:Addr}{y:V}{o:Option V}(I:Inv X pins σ H s)(g:cT H a y o):s.TypeIs (.ref a) "dict":=by
 rcases g with ⟨kvs,k,e,_,_⟩ | ⟨kvs,k,b,e,_,_,_⟩
 ·obtain ⟨_,_,vs,_,dd⟩:=gX I.bh e
  exact dd.typeIs
 ·obtain ⟨_,_,xs,_,dd⟩:=lR I.bh e
  exact dd.typeIs
inductive AS (Q:VK)(x:V)(y:V)(H2:Hp):Prop where
 | mk (a v:_) (_:x=.ref a) (_:cT H2 a y (some v)) (_:Q v H2):AS Q x y H2
def OA (td ty:TE):TE:=fun σ H Q=>td σ H fun x H1=>ty σ H1 fun y H2=>AS Q x y H2
inductive JP (Q:VK)(y:V)(x:V)(H2:Hp):Prop where
 | mk (a o:_) (_:x=.ref a) (_:cT H2 a y o) (_:Q (.bl o.isSome) H2):JP Q y x H2
def We (ty td:TE):TE:=fun σ H Q=>ty σ H fun y H1=>td σ H1 fun x H2=>JP Q y x H2
inductive sj (Q:VK)(y:V)(x:V)(H2:Hp):Prop where
 | mk (a o:_) (_:x=.ref a) (_:cT H2 a y o) (_:Q (.bl (!o.isSome)) H2):sj Q y x H2
def HF (ty td:TE):TE:=fun σ H Q=>ty σ H fun y H1=>td σ H1 fun x H2=>sj Q y x H2
inductive AU (D:Ends)(σ:L2.St)(v:V)(x:V)(y:V)(H3:Hp):Prop where
 | mk (a H4:_) (_:x=.ref a) (_:gf H3 a y v H4) (_:D.nx σ H4):AU D σ v x y H3
def OB (td ty tv:TE):TS:=fun D σ H=>tv σ H fun v H1=>td σ H1 fun x H2=>ty σ H2 fun y H3=>AU D σ v x y H3
section
variable {X:Cx}{o i e value:Expr}{pos pos' oX:Pos}{td ty tv:TE}
theorem fJ (hu:X.A.units+1 < cLine)(ho:PE X o td)(hi:PE X i ty)(hs:Oz i):PE X (.Subscript o i pos) (OA td ty):=by
 intro pins s σ H Q I h
 refine HE PySem.F.slot_dict_getitem.lookup hs (bK (ho pins s σ H _ I h) fun u s1 ⟨x,H1,I1,rx,q1⟩=>bK (hi pins s1 σ H1 _ I1 q1) fun iv s2 ⟨y,H2,I2,ry,a,v,ex,g,q2⟩=> ?_)
 subst ex
 obtain rfl:u=Value.ref a:=rx
 exact ⟨si I2 g,xF hu I2 g ry fun w' s3 I3 rB =>⟨v,H2,I3,rB,q2⟩⟩
theorem AV (hu:X.A.units+1 < cLine)(hi:PE X i ty)(ho:PE X o td):PC X .In i o (We ty td):=by
 intro pins s σ H Q I h
 refine bK (hi pins s σ H _ I h) fun iv s1 ⟨y,H1,I1,ry,q1⟩=>bK (ho pins s1 σ H1 _ I1 q1) fun u s2 ⟨x,H2,I2,rx,a,ov,ex,g,q2⟩=> ?_
 subst ex
 obtain rfl:u=Value.ref a:=rx
 exact Wd hu I2 g ry fun s3 I3=>⟨.bl ov.isSome,H2,I3,rfl,q2⟩
theorem jk (hu:X.A.units+1 < cLine)(hi:PE X i ty)(ho:PE X o td):PC X .NotIn i o (HF ty td):=by
 intro pins s σ H Q I h
 refine bK (hi pins s σ H _ I h) fun iv s1 ⟨y,H1,I1,ry,q1⟩=>bK (ho pins s1 σ H1 _ I1 q1) fun u s2 ⟨x,H2,I2,rx,a,ov,ex,g,q2⟩=> ?_
 subst ex
 obtain rfl:u=Value.ref a:=rx
 exact G' hu I2 g ry fun s3 I3=>⟨.bl (!ov.isSome),H2,I3,rfl,q2⟩
theorem cV (hu:X.A.units+1 < cLine)(ho:PE X o td)(hi:PE X i ty)(hv:PE X value tv)(hs:swapsWith value (some (.Subscript o i pos')) pos.line X.env=pure false):
  PS X (.Assign [.Subscript o i pos'] value pos) (OB td ty tv):=by
 intro pins s σ H D I h
 refine wpAny_Assign_Subscript (bK (hv pins s σ H _ I h) fun r s1 ⟨v,H1,I1,rv,q1⟩=>bK (ho pins s1 σ H1 _ I1 q1) fun u s2 ⟨x,H2,I2,rx,q2⟩=>bK (hi pins s2 σ H2 _ I2 q2) fun iv s3 ⟨y,H3,I3,ry,a,H4,ex,g,q3⟩=> ?_) hs
 subst ex
 obtain rfl:u=Value.ref a:=rx
 exact xG hu I3 g ry rv fun s4 I4=>⟨σ,H4,I4,q3⟩
end
theorem sk {P:Program}{w:World}{H:Hp}(h:Heap)(hb:sysModules < h.objs.size):bY P w H (h.push {cls:=.type "dict",data:=.dict #[]}) h.objs.size (.dK []):=
 ⟨adL _,beq_eq_false_iff_ne.mpr (adG (adD hb)),[],.nil,Heap.DictOf.new h⟩
theorem AW {P:Program}{w:World}{H:Hp}(h:Heap)(hb:sysModules < h.objs.size):bY P w H (h.push {cls:=.type "dict",data:=.dict #[]}) h.objs.size (.dT []):=
 ⟨adL _,beq_eq_false_iff_ne.mpr (adG (adD hb)),[],.nil,_, #[],0,Heap.get?_push_size _ rfl,⟨rfl,rfl,rfl⟩,rfl,rfl,aeS⟩
def Ld:TE:=fun _ H Q=>∀p,H p=none→Q (.ref p) (upd H p (.dK []))
def Le:TE:=fun _ H Q=>∀p,H p=none→Q (.ref p) (upd H p (.dT []))
section
variable {X:Cx}{pos:Pos}
theorem dC:PE X (.Dict [] [] pos) Ld:=fun pins s σ H Q I h=>
 wpAny_Dict_empty ⟨.ref s.heap.objs.size,_,I.laid (a:=s.heap.objs.size) (o:=.dK []) (t' :=s.toks) (fun _ _ q=>Heap.get?_push_of_some _ q) (adf _) (sk s.heap I.big),rfl,h _ (I.bh.fresh (adf _))⟩
theorem AX:PE X (.Dict [] [] pos) Le:=fun pins s σ H Q I h=>
 wpAny_Dict_empty ⟨.ref s.heap.objs.size,_,I.laid (a:=s.heap.objs.size) (o:=.dT []) (t' :=s.toks) (fun _ _ q=>Heap.get?_push_of_some _ q) (adf _) (AW s.heap I.big),rfl,h _ (I.bh.fresh (adf _))⟩
end
def uI:List (TE×TE)→St→Hp→(List (V×V)→Hp→Prop)→Prop
 | [],_,H,Q=>Q [] H
 | (tk,tv)::r,σ,H,Q=>tk σ H fun x H1=>tv σ H1 fun y H2=>uI r σ H2 fun ps H3=>Q ((x,y)::ps) H3
abbrev VV:List (V×V)→List (Value×Value)→Prop:=Paired fun p q=>RelV p.1 q.1∧RelV p.2 q.2
def UO (X:Cx)(pos:Pos)(keys:List (Option Expr))(values:List Expr)(HG:List (TE×TE)):Prop:=
 ∀(pins:List (Addr×Obj)) (s:Shared) (σ:St) (H:Hp) (Q:List (V×V)→Hp→Prop),Inv X pins σ H s→uI HG σ H Q→
  wpAny (model X.prog X.w) X.A (evalPairs (pairTrees keys values X.env pos)) (fun vs s' =>∃ps H',Inv X pins σ H' s' ∧VV ps vs∧Q ps H') X.xe s
theorem vW {X:Cx}{pos:Pos}:UO X pos [] [] []:=fun pins s σ H Q I h=>pairTrees_nil_walk ⟨[],H,I,.nil,h⟩
theorem lS {X:Cx}{pos:Pos}{k v:Expr}{ks:List (Option Expr)}{vs:List Expr}{tk tv:TE}{HG:List (TE×TE)}(hk:PE X k tk)(hv:PE X v tv)(hr:UO X pos ks vs HG):
  UO X pos (some k::ks) (v::vs) ((tk,tv)::HG):=fun pins s σ H Q I h=>
 pairTrees_cons_walk (bK (hk pins s σ H _ I h) fun u s1 ⟨x,H1,I1,rx,q1⟩=>bK (hv pins s1 σ H1 _ I1 q1) fun w2 s2 ⟨y,H2,I2,ry,q2⟩=>
  bK (hr pins s2 σ H2 _ I2 q2) fun ws s3 ⟨ps,H3,I3,rel,q3⟩=>⟨(x,y)::ps,H3,I3,.cons ⟨rx,ry⟩ rel,q3⟩)
def bM (kvs more:List (Key×V)):List (Key×V):=more.foldl (fun acc kv=>putK acc kv.1 kv.2) kvs
theorem KV.merge:∀{more:List (Key×V)} {rs:List (Key×Value)} {kvs:List (Key×V)} {vs:List (Key×Value)},KV more rs→KV kvs vs→KV (bM kvs more) (merged vs rs):=by
 intro more rs kvs vs r
 unfold KV at r
 induction r generalizing kvs vs with
 | nil=>intro q;exact q
 | @cons p q ps qs h t ih=>
  intro r0
  have e:KV (putK kvs p.1 p.2) (stored vs q.1 q.2):=by
   have:=r0.put p.1 h.2
   rw [← h.1];exact this
  exact ih e
theorem eZ:∀(more kvs:List (Key×V)),(bM kvs more).length≤kvs.length+more.length
 | [],kvs=>by show kvs.length≤kvs.length+0;omega
 | p::r,kvs=>by
  have h1:=eZ r (putK kvs p.1 p.2)
  have h2:=dB kvs p.1 p.2
  show (bM (putK kvs p.1 p.2) r).length≤_
  rw [adI];omega
theorem lT {P:Program}{w:World}:∀{kvs:List (Key×V)} {ws:List (Value×Value)},VV (kvs.map fun kv=>(kV kv.1,kv.2)) ws→∃rs,Carries (aV P w) ws rs∧KV kvs rs
 | [],_,r=>by rw [adZ] at r;cases r;exact ⟨[],True.intro,.nil⟩
 | p::kvs,_,r=>by
  rw [ada] at r
  cases r with
  | @cons a b as bs h t=>
   obtain ⟨rs,c,q⟩:=lT (P:=P) (w:=w) t
   obtain ⟨b1,b2⟩:=b
   exact ⟨(p.1,b2)::rs,⟨jP h.1,rfl,c⟩,.cons ⟨rfl,h.2⟩ q⟩
def OC (HG:List (TE×TE)):TE:=fun σ H Q=>∀p,H p=none→uI HG σ (upd H p (.dK [])) fun ps H2=>H2 p=some (.dK [])∧∃kvs:List (Key×V),ps=kvs.map (fun kv=>(kV kv.1,kv.2))∧kvs.length≤15∧Q (.ref p) (upd H2 p (.dK (bM [] kvs)))
theorem vX {X:Cx}{pos:Pos}{keys:List (Option Expr)}{values:List Expr}{HG:List (TE×TE)}(h:UO X pos keys values HG)(AF:keys.all (·.isSome)=true)(hl:keys.length=values.length)(h0:keys≠[])
  (h15:keys.length≤15):PE X (.Dict keys values pos) (OC HG):=by
 intro pins s σ H Q I q
 have hn:=I.bh.fresh (adf s.heap.objs.size)
 have I1:=I.laid (a:=s.heap.objs.size) (o:=.dK []) (h' :=s.heap.push {cls:=.type "dict",data:=.dict #[]}) (t' :=s.toks) (fun _ _ q=>Heap.get?_push_of_some _ q) (adf _) (sk s.heap I.big)
 refine wpAny_Dict_walk (knd:=aV X.prog X.w) AF hl h0 h15 (bK (h pins _ σ _ _ I1 (q _ hn)) fun ws s2 ⟨ps,H2,I2,rel,e,kvs,ep,lk,q2⟩=> ?_)
 subst ep
 obtain ⟨rs,c,rk⟩:=lT (P:=X.prog) (w:=X.w) rel
 obtain ⟨z,hd,vs0,r0,dd⟩:=lQ I2.bh e
 cases r0
 refine ⟨rs,c,dd,fun h' Lc hs=>⟨.ref s.heap.objs.size,_,?_,rfl,q2⟩⟩
 have hz:(bM [] kvs).length≤sizeLine:=by
  have h1:=eZ kvs []
  rw [al1] at h1
  rw [sizeLine_eq];omega
 have he:∃q,h'.get? s.heap.objs.size=some q:=let ⟨q,_,_,hq,_⟩:=Lc;⟨q,hq⟩
 exact kG I2 (by rw [e];exact True.intro) hs he (uH hz hd (rk.merge .nil) Lc)
structure M2 (X:Cx)(o:Expr)(m:Str)(apos:Pos)(e f:Expr)(dI:Pos):Prop where
 base:attributeBase o m X.env (eval o X.env)=eval o X.env
 few:((backTo dI (starEach [e,f] X.env)).all (fun x=> !x.1) && (backToKw dI (keywordEach [] X.env)).all (fun x=>x.1.isSome)
  && decide (([e,f]:List Expr).length+([]:List Keyword).length+(if ([]:List Keyword).isEmpty then 0 else 1) < 30))=true
 line:(apos.endLine==dI.line)=true
 trees:backTo dI (starEach [e,f] X.env)=[(false,eval e X.env),(false,eval f X.env)]
def IsD (H:Hp)(a:Addr):Prop:=(∃kvs,Rd H a (.dK kvs))∨∃kvs,Rd H a (.dT kvs)
theorem AY {X:Cx}{pins:List (Addr×Obj)}{σ:St}{H:Hp}{s:Shared}{a:Addr}(I:Inv X pins σ H s)(d:IsD H a):
  s.TypeIs (.ref a) "dict"∧(∀b,Value.ref a=.ref b→∃ob,s.heap.get? b=some ob∧ob.dict=none)∧(a==sysModules)=false:=by
 rcases d with ⟨kvs,e⟩ | ⟨kvs,e⟩
 ·obtain ⟨_,hd,vs,_,dd⟩:=gX I.bh e
  refine ⟨dd.typeIs,fun b q=> ?_,hd⟩
  cases q
  obtain ⟨ob,_,_,h1,h2,_⟩:=dd
  exact ⟨ob,h1,h2.2.1⟩
 ·obtain ⟨_,hd,xs,_,dd⟩:=lR I.bh e
  refine ⟨dd.typeIs,fun b q=> ?_,hd⟩
  cases q
  obtain ⟨ob,_,_,h1,h2,_⟩:=dd
  exact ⟨ob,h1,h2.2.1⟩
section
variable {X:Cx}{pins:List (Addr×Obj)}{σ:St}{H:Hp}{s:Shared}{a:Addr}{y d:V}{u r:Value}{o:Option V}{A:Around}{E:Value→Shared→Prop}
theorem Lf {Q:Value→Shared→Prop}(hu:A.units+1 < cLine)(I:Inv X pins σ H s)(g:cT H a y o)(ry:RelV y u)(rd:RelV d r)(h:∀w' s',Inv X pins σ H s' →RelV (o.getD d) w' →Q w' s'):
  wpAny (model X.prog X.w) A (call (.builtin "dict.get") [.ref a,u,r]) Q E s:=by
 rcases g with ⟨kvs,k,e,ey,l⟩ | ⟨kvs,k,b,e,ey,eb,l⟩
 ·subst ey
  obtain ⟨z,hd,vs,rel,dd⟩:=gX I.bh e
  refine call_meetsIn PySem.F.slot_dict_get dd.typeIs PySem.F.entry_dict_get (PySem.F.args_dict_get_3 _ _ _) (meets_dict_get_default (aV X.prog X.w) a (jP ry) hd r) ⟨_,dd.mapOf,h _ _ (I.tok _) ?_⟩
  rw [l]
  exact (rel.val k).getD rd
 ·subst ey
  cases (show u=Value.ref b from ry)
  obtain ⟨z,hd,xs,rel,dd⟩:=lR I.bh e
  refine call_meetsIn PySem.F.slot_dict_get dd.typeIs PySem.F.entry_dict_get (PySem.F.args_dict_get_3 _ _ _) (meetsH_dict_get_default (tupleKind (aV X.prog X.w)) a b hd r) ⟨tupleKind_room_in1 hu,k,xs,ji I.bh eb,dd,h _ _ (I.tok _) ?_⟩
  rw [l]
  exact (rel.val k).getD rd
end
def Lg (td ty tx:TE):TE:=fun σ H Q=>td σ H fun x H1=>∃a,x=.ref a∧IsD H1 a∧ty σ H1 fun y H2=>tx σ H2 fun z H3=>∃o,cT H3 a y o∧Q (o.getD z) H3
section
variable {X:Cx}{o e f:Expr}{apos dI:Pos}{td ty tx:TE}
theorem so (hu:X.A.units+1 < cLine)(ho:PE X o td)(he:PE X e ty)(hf:PE X f tx)(m:M2 X o "get" apos e f dI):PE X (.Call (.Attribute o "get" apos) [e,f] [] dI) (Lg td ty tx):=by
 intro pins s σ H Q I h
 refine wpAny_Call_method m.base m.few m.line PySem.F.plainAttrs_dict PySem.F.slot_dict_get PySem.F.type_dict_get (bK (ho pins s σ H _ I h) fun u s1 ⟨x,H1,I1,rx,a,ex,d,q1⟩=> ?_)
 subst ex
 obtain rfl:u=Value.ref a:=rx
 obtain ⟨t1,t2,_⟩:=AY I1 d
 refine ⟨t1,t2,?_⟩
 rw [m.trees]
 refine Calls.callWith_builtin rfl (Calls.evalArgs_plain (Calls.spliced_cons (bK (he pins s1 σ H1 _ I1 q1) fun iv s2 ⟨y,H2,I2,ry,q2⟩=>
  Calls.spliced_cons (bK (hf pins s2 σ H2 _ I2 q2) fun fv s3 ⟨z,H3,I3,rz,ov,g,q3⟩=>Calls.spliced_nil ?_))))
 exact Lf hu I3 g ry rz fun w' s4 I4 rB =>⟨_,H3,I4,rB,q3⟩
end
section
variable {X:Cx}{pins:List (Addr×Obj)}{σ:St}{H:Hp}{s:Shared}{a:Addr}{kvs:List (Key×V)}{A:Around}{E:Value→Shared→Prop}
end
section
variable {X:Cx}{pins:List (Addr×Obj)}{σ:St}{H:Hp}{s:Shared}{a:Addr}{y:V}{u:Value}{A:Around}{E:Value→Shared→Prop}
end
end L2
set_option maxHeartbeats 4000000
namespace Ty
open PySem PySem.Spec PyProof.Rows L2
section
variable {X:Cx}
theorem HH {pins:List (Addr×Obj)}{σ:L2.St}{H:Hp}{s:Shared}(I:Inv X pins σ H s):s.heap.NoSeer:=I.ok.mod.seer.keeps I.bk
theorem bV.py {k:Nat}{A:Around}(r:bV k A)(h:32≤k):A.depth+Builtin.pylongFrames < recursionLimit:=by
 have:=r.dp
 have:Builtin.pylongFrames=100:=rfl
 omega
theorem eg {env:Env}{l:List Env}(ht:X.prog.given.tree=none)(hd:X.A.depth+Builtin.pylongFrames < recursionLimit)(FV:X.stack=env::l)(h1:env.scope.isGenerator=false)(h2:env.scope.isCoroutine=false)(h3:env.builtins=builtinsNs)(h4:env.globals=mainGlobals):
  gW X (binaryOp .FloorDiv) (rI K3 fun i j=>.int (i.fdiv j)):=by
 intro pins s σ H x y v u Q I rx ry h
 obtain ⟨i,j,rfl,rfl,hc,q⟩:=h
 obtain ⟨t,rfl⟩:=rx
 obtain ⟨t',rfl⟩:=ry
 exact floordiv_int hc ⟨.int _,H,I.tok _,⟨_,rfl⟩,q⟩ (.inr (PylongRoom.of I.nolimit hd (SeerAt.of (HH I) ht (by rw [I.ok.frames,FV]) h1 h2 h3 h4)))
end
end Ty
set_option maxHeartbeats 4000000
namespace Ty
open PySem PySem.Spec PyProof.Rows L2
section
variable {prog:Program}{w:World}{A:Around}{E:Value→Shared→Prop}{s:Shared}{KK:Type}[DecidableEq KK]{knd:KeyKind prog w KK}
theorem xH {d:Addr}{kvs:List (KK×Value)}{Q:Bool→Shared→Prop}(hm:s.heap.DictOf knd d kvs)(h:Q false s):wpAny (model prog w) A (Builtin.List.listLengthHint (.ref d)) Q E s:=by
 unfold Builtin.List.listLengthHint
 refine wpAny_bind (wpAny_specialOf (name:=Str.ofString "__len__") hm.typeIs F.slot_dict_len.lookup ?_)
 generalize hid:("dict.__len__":String)=id0
 wp_delta
 rw [show splitId id0=some ("dict","__len__") from by subst hid;decide+kernel]
 subst hid
 refine wpAny_bind (wpAny_isInstance (T:="dict") (b:=true) hm.typeIs (by rw [isSubtype_type];kernel_rfl) ?_)
 refine wpAny_ite_split (fun Wf=>absurd Wf (by decide)) (fun _=> ?_)
 refine wpAny_ite_split (fun _=> ?_) (fun Wf=>absurd (by decide+kernel) Wf)
 refine wpAny_bind (wpAny_typeOf (T:="dict") hm.typeIs ?_)
 exact wpAny_pure h
theorem sy {R:Result→Shared→Prop}{d:Addr}{kvs:List (KK×Value)}{ep:Nat}(hh:A.handled=none)(hd:(d==sysModules)=false)(hm:s.heap.DictAt knd d kvs ep)(hlen:kvs.length≤sizeLine)(S:Addr)(res:Value)(c₀:Nat)(hS:s.heap.get? S=some {cls:=.type "list",data:=.seq #[] c₀})
  (hR:∀h' tk gv c',(∀b o,b≠S→s.heap.get? b=some o→h'.get? b=some o)→h'.get? S=some {cls:=.type "list",dict:=none,data:=.seq gv c',slots:= #[]}→
   ItemsOf (fun i v=>∃k x,kvs[i]? =some (k,x)∧knd.is k v=true) gv kvs.length→R (.ok (.ret res)) {s with heap:=h',toks:=tk}):
  wpAny (model prog w) A.in1 (Builtin.List.listExtendWith (.ref S) (.ref d) res)
   (fun fin s' =>match fin with | .done f=>R (.ok f) s' | .again c' =>c'.quiet=true∧codeAny (model prog w) A c' R s') (fun e s' =>R (.error e) s') s:=by
 obtain ⟨od,es,uJ,m6,dD,hk0,hp0,hn0⟩:=id hm
 have hT:s.TypeIs (.ref d) "dict":=hm.dictOf.typeIs
 have M7:S≠d:=fun e=>by
  rw [e] at hS
  rw [hS] at uJ
  cases uJ
  cases dD
 have hdI:d≠s.heap.objs.size:=adD (Heap.lt_size uJ)
 have Wg:S≠s.heap.objs.size:=adD (Heap.lt_size hS)
 have hSf:S∉[s.heap.objs.size,d]:=fun hm=>by
  rcases adz.mp hm with z | z
  ·exact Wg z
  ·exact M7 (adj.mp z)
 have W:=(Walks.dictKeys (knd:=knd) (A:=A.in1) hh s.heap.objs.size d hdI kvs ep).toS
 unfold Builtin.List.listExtendWith
 refine wpAny_bind (wpAny_typeOf (T:="dict") hT ?_)
 have h1:Builtin.List.listSameRef (.ref S) (.ref d)=false:=by simp [Builtin.List.listSameRef,M7]
 have h2:(Value.type "dict"==Value.type "list")=false:=by decide
 have h3:(Value.type "dict"==Value.type "tuple")=false:=by decide
 simp only [h1,h2,h3,amX,aem,if_false]
 refine wpAny_bind (wpAny_pyIter_dict hd hm ?_)
 have M8:(s.heap.push {cls:=.type "dict_keyiterator",data:=.fields #[.ref d,.int 0 0,.int kvs.length 0,.int ep 0]}).DictAt knd d kvs ep:=hm.at' fun o e=>Heap.get?_push_of_some _ e
 refine wpAny_bind (wpAny_holding (xH (knd:=knd) M8.dictOf ?_))
 have OD:=Heap.get?_push_of_some {cls:=.type "dict_keyiterator",data:=.fields #[.ref d,.int 0 0,.int kvs.length 0,.int ep 0]} hS
 have it₁:(s.heap.push {cls:=.type "dict_keyiterator",data:=.fields #[.ref d,.int 0 0,.int kvs.length 0,.int ep 0]}).IsKeyIter s.heap.objs.size d 0 kvs.length ep:=⟨_,Heap.get?_push_size _ rfl,rfl,rfl⟩
 have key:∀(h:Heap) (c₁ tk:Nat),h.IsKeyIter s.heap.objs.size d 0 kvs.length ep→h.DictAt knd d kvs ep→(∀b o,b≠S→s.heap.get? b=some o→h.get? b=some o)→
   h.get? S=some {cls:=.type "list",data:=.seq #[] c₁}→codeAny (model prog w) A (.builtin "list.extend.loop" ⟨[.ref S,.ref s.heap.objs.size,res],[]⟩) R {s with heap:=h,toks:=tk}:=by
  intro h c₁ tk hit hdm hk OD
  refine codeAny_extend_loopS W hlen S hSf res kvs.length 0 _ #[] c₁ rfl (adL _) ⟨hit,hdm⟩ OD (ItemsOf.nil _) fun s' gv c' hm' Lh sE=> ?_
  rw [Moved.eq_with hm']
  refine hR s'.heap s'.toks gv c' (fun b o hb e=>hm'.heap b o (fun xI=> ?_) (hk b o hb e)) Lh sE
  rcases adz.mp xI with e' | xI
  ·exact hb e'
  ·exact absurd (Heap.lt_size e) (by rw [adj.mp xI];exact aek _)
 refine wpAny_ite_split (fun _=> ?_) (fun _=>wpAny_pure ⟨plainId_quiet F.plain_extend_loop _,key _ c₀ _ it₁ M8 (fun b o _ e=>Heap.get?_push_of_some _ e) OD⟩)
 refine wpAny_bind (wpAny_rule ?_)
 refine wpAny_bind ?_
 show wpAny _ _ (updateSeq S (·.push .none) >>=fun _=>updateSeq S (·.pop)) _ _ _
 refine wpAny_bind (wpAny_updateSeq OD rfl ?_)
 have UP:=Heap.get?_update_self (Obj.mapSeq (·.push Value.none)) OD rfl
 refine wpAny_updateSeq (hz:=by seq_fits) UP rfl ?_
 have hS₃:=Heap.get?_update_self (Obj.mapSeq (·.pop)) UP rfl
 refine wpAny_pure ⟨plainId_quiet F.plain_extend_loop _,key _ _ _ (it₁.at fun o e=> ?_) (M8.at' fun o e=> ?_) (fun b o hb e=> ?_) hS₃⟩
 ·exact (Heap.get?_update_other _ _ Wg).trans ((Heap.get?_update_other _ _ Wg).trans e)
 ·exact (Heap.get?_update_other _ _ M7).trans ((Heap.get?_update_other _ _ M7).trans e)
 ·exact (Heap.get?_update_other _ _ (adG hb)).trans ((Heap.get?_update_other _ _ (adG hb)).trans (Heap.get?_push_of_some _ e))
theorem lV {R:Result→Shared→Prop}{d:Addr}{kvs:List (KK×Value)}{ep:Nat}(hh:A.handled=none)(hd:(d==sysModules)=false)(hm:s.heap.DictAt knd d kvs ep)(hlen:kvs.length≤sizeLine)(S:Addr)(hS:s.heap.get? S=some {cls:=.type "list",data:=.seq #[]})
  (hR:∀h' tk gv c',(∀b o,b≠S→s.heap.get? b=some o→h'.get? b=some o)→h'.get? S=some {cls:=.type "list",dict:=none,data:=.seq gv c',slots:= #[]}→
   ItemsOf (fun i v=>∃k x,kvs[i]? =some (k,x)∧knd.is k v=true) gv kvs.length→R (.ok (.ret .none)) {s with heap:=h',toks:=tk}):
  wpAny (model prog w) A.in1 (Builtin.«list.__init__» ⟨[.ref S,.ref d],[]⟩)
   (fun fin s' =>match fin with | .done f=>R (.ok f) s' | .again c' =>c'.quiet=true∧codeAny (model prog w) A c' R s') (fun e s' =>R (.error e) s') s:=by
 obtain ⟨od,es,uJ,m6,dD,hk0,hp0,hn0⟩:=id hm
 have M7:S≠d:=fun e=>by
  rw [e] at hS
  rw [hS] at uJ
  cases uJ
  cases dD
 show wpAny _ _ (do let old ← Builtin.List.listItems (.ref S);Builtin.List.listUpdate (.ref S) (fun _=> #[]);letGo old.toList.reverse;Builtin.List.listExtendWith (.ref S) (.ref d) .none) _ _ s
 refine wpAny_bind ?_
 unfold Builtin.List.listItems
 refine wpAny_bind (wpAny_seqItems hS rfl (wpAny_pure ?_))
 show wpAny _ _ (updateSeq S (fun _=> #[]) >>=fun _=>letGo (#[]:Array Value).toList.reverse >>=fun _=>Builtin.List.listExtendWith (.ref S) (.ref d) .none) _ _ s
 refine wpAny_bind (wpAny_updateSeq hS rfl ?_)
 have UP:=Heap.get?_update_self (Obj.mapSeq (fun _=>(#[]:Array Value))) hS rfl
 have oth:∀b o,b≠S→s.heap.get? b=some o→(s.heap.update S (Obj.mapSeq (fun _=>(#[]:Array Value)))).get? b=some o:=
  fun b o hb e=>(Heap.get?_update_other _ _ (adG hb)).trans e
 refine wpAny_bind (wpAny_letGo ?_)
 refine sy hh hd (hm.at' fun o e=>oth d o (adG M7) e) hlen S .none _ UP fun h' tk gv c' hk Lh sE=> ?_
 exact hR h' tk gv c' (fun b o hb e=>hk b o hb (oth b o hb e)) Lh sE
theorem lW {Q:Value→Shared→Prop}{d:Addr}{kvs:List (KK×Value)}{ep:Nat}(hh:A.handled=none)(hd:(d==sysModules)=false)(hm:s.heap.DictAt knd d kvs ep)(hlen:kvs.length≤sizeLine)
  (hQ:∀h' tk gv c',(∀b o,s.heap.get? b=some o→h'.get? b=some o)→
   h'.get? s.heap.objs.size=some {cls:=.type "list",dict:=none,data:=.seq gv c',slots:= #[]}→ItemsOf (fun i v=>∃k x,kvs[i]? =some (k,x)∧knd.is k v=true) gv kvs.length→Q (.ref s.heap.objs.size) {s with heap:=h',toks:=tk}):
  wpAny (model prog w) A (call (.type "list") [.ref d]) Q E s:=by
 refine callType_codes (Q₁:=fun obj s₁=>obj=.ref s.heap.objs.size∧s₁={s with heap:=s.heap.push {cls:=.type "list",data:=.seq #[]}}) F.called_list (F.typeCall_list_1 _) F.entry_list_init
  (code_list_new _ ⟨rfl,rfl⟩) fun obj s₁ h₁=> ?_
 obtain ⟨rfl,rfl⟩:=h₁
 have hS:(s.heap.push {cls:=.type "list",data:=.seq #[]}).get? s.heap.objs.size=some {cls:=.type "list",data:=.seq #[]}:=Heap.get?_push_size _ rfl
 refine ⟨⟨_,hS,rfl⟩,F.args_list_init_2 _ _,lV (A:=A.in1) hh hd (hm.at' fun o e=>Heap.get?_push_of_some _ e) hlen _ hS fun h' tk gv c' hk Lh sE=> ?_⟩
 exact ⟨rfl,hQ h' tk gv c' (fun b o e=>hk b o (adD (Heap.lt_size e)) (Heap.get?_push_of_some _ e)) Lh sE⟩
end
theorem aK {α β:Type}{F:α→β→Prop}:∀{l₁:List α} {l₂:List β} {i:Nat} {a:α},Paired F l₁ l₂→l₁[i]? =some a→∃b,l₂[i]? =some b∧F a b
 | _,_,_,_,.nil,h=>by simp at h
 | _,_,0,_,.cons r _,h=>by
  cases h
  exact ⟨_,rfl,r⟩
 | _,_,i+1,_,.cons _ t,h=>by
  obtain ⟨b,e,f⟩:=aK (i:=i) t (by simpa using h)
  exact ⟨b,by simpa using e,f⟩
theorem jn {α β:Type}{F:α→β→Prop}:∀{l₁:List α} {l₂:List β},l₁.length=l₂.length→(∀(i:Nat) (a:α) (b:β),l₁[i]? =some a→l₂[i]? =some b→F a b)→Paired F l₁ l₂
 | [],[],_,_=>.nil
 | a::l₁,b::l₂,h,f=>.cons (f 0 a b rfl rfl) (jn (by simpa using h) fun i a b e1 e2=>f (i+1) a b (by simpa using e1) (by simpa using e2))
 | [],_::_,h,_=>by simp at h
 | _::_,[],h,_=>by simp at h
theorem pR {P:Program}{w:World}{k:Key}{u:Value}(h:(aV P w).is k u=true):RelV (kV k) u:=by
 rcases bI h with ⟨i,t,rfl,rfl⟩ | ⟨x,t,rfl,rfl⟩
 ·exact ⟨t,rfl⟩
 ·exact ⟨t,rfl⟩
section
variable {X:Cx}
inductive AZ (xs:List V)(H:Hp)(Q:VK):Prop where
 | mk (p:Addr) (kvs:List (Key×V)) (_:xs=[.ref p]) (_:Rd H p (.dK kvs)) (_:∀l,H l=none→Q (.ref l) (upd H l (.lst (kvs.map fun kv=>kV kv.1)))):AZ xs H Q
theorem hW (hc:X.calm=true):eO X (.type "list") AZ:=by
 intro pins s σ H xs us Q I r h
 obtain ⟨p,kvs,rfl,hq,q⟩:=h
 obtain ⟨u,rfl,r1⟩:=vals1 r
 cases r1
 obtain ⟨z,hd,vs,rel,o,es,ep,ho,hx,dD,hk,hp,hn⟩:=gX I.bh hq
 have hl:=rel.length
 refine lW (knd:=aV X.prog X.w) (I.ok.hd hc) hd ⟨o,es,ho,hx,dD,hk,hp,hn⟩ (by omega) fun h' tk gv c' kk hS sE=> ?_
 have VB :=I.bh.fresh (adf s.heap.objs.size)
 have rv:Vals (kvs.map fun kv=>kV kv.1) gv.toList:=jn (by have:=sE.1;simp;omega) fun i a b e1 e2=>by
  rw [ir] at e1
  obtain ⟨kv,ek,rfl⟩:=adk.mp e1
  obtain ⟨q',eq,e3,_⟩:=aK rel ek
  obtain ⟨k,x,e4,e5⟩:=sE.2 i b (by simpa using e2)
  rw [eq] at e4
  cases e4
  rw [e3]
  exact pR e5
 have I2:Inv X pins σ (upd H s.heap.objs.size (.lst (kvs.map fun kv=>kV kv.1))) {s with heap:=h',toks:=tk}:=I.laid (t' :=tk) kk (adf _) ⟨by rw [Wp];exact z,gv.toList,c',rv,by simpa using hS⟩
 exact ⟨.ref _,_,I2,rfl,q _ VB⟩
theorem Inv.freeze {pins:List (Addr×Obj)}{σ:L2.St}{H:Hp}{s:Shared}{d:Addr}{kvs:List (Key×V)}{o:Obj}(I:Inv X pins σ H s)(e:H d=some (.dK kvs))(ho:s.heap.get? d=some o):Inv X pins σ (upd H d (.bP o (.dK kvs))) s:=by
 have nx:∀b u,H b=some u→b≠d→upd H d (.bP o (.dK kvs)) b=some u:=fun b u q n=>by rw [aj n];exact q
 refine I.step (g' :=s.gens) (t' :=s.toks) (d' :=s.drawn) (ch:=[]) (fun _ z=>nomatch z) (fun b o _ _ _ e _=>e) (fun b o _ _ _ e _=>⟨o.slots,e⟩) (fun b o _ _ n=>by rw [aj (fun z=>by rw [z,e] at n;cases n)];exact n) (fun b o _ e=>⟨o,e⟩)
  (fun b xs q=>nx b _ q fun z=>by rw [z,e] at q;cases q) (fun b o' u q=>nx b _ q fun z=>by rw [z,e] at q;cases q) (fun b ps q=>⟨#[],by rw [nx b _ q fun z=>by rw [z,e] at q;cases q];simp⟩) (fun m hm=>hm) (fun b u q=> ?_) I.bare
 by_cases hb:b=d
 ·subst hb
  rw [ag] at q
  cases q
  exact ⟨ho,I.bh b _ e⟩
 ·rw [aj hb] at q
  exact (I.bh b u q).m4 (fun _ _ _ k=>k) (fun c k=>nx c _ k fun z=>by rw [z,e] at k;cases k) fun c xs k=>nx c _ k fun z=>by rw [z,e] at k;cases k
def M9 (d:Addr)(o:Obj)(kvs:List (Key×V)):It:=
 ⟨fun i H=>H d=some (.bP o (.dK kvs))∧i < kvs.length,
  fun i H v H' =>∃p k x,kvs[i]? =some (k,x)∧v=.ref p∧H p=none∧H' =upd H p (.tup [kV k,x]),
  fun i H=>H d=some (.bP o (.dK kvs))∧kvs.length≤i⟩
theorem jo {P:Program}{w:World}{H:Hp}{h:Heap}{d:Addr}{o:Obj}{kvs:List (Key×V)}{uK:Array DictEntry}{ep:Nat}(ok:gQ P w H h)(e:H d=some (.bP o (.dK kvs)))(he:o.data=.dict uK ep):
  (d==sysModules)=false∧∃vs,KV kvs vs∧h.DictAt (aV P w) d vs ep∧kvs.length≤sizeLine:=by
 obtain ⟨h1,z,hd,vs,rel,o',es,uq,ho,hx,dD,hk,hp,hn⟩:=ok d _ e
 rw [h1] at ho
 cases ho
 rw [he] at dD
 cases dD
 exact ⟨hd,vs,rel,⟨o,uK,h1,hx,he,hk,hp,hn⟩,z⟩
theorem jq:entryFor table "dict_itemiterator.__iter__"=some Builtin.«dict_keyiterator.__iter__»:=
 entryFor_alias (id' :="dict_keyiterator.__iter__") (by kernel_rfl) (by first | rfl | decide+kernel | (unfold String.splitOn;simp+decide [String.splitOnAux])) (by decide+kernel) (by kernel_rfl)
theorem uL {P:Program}{w:World}{A:Around}{E:Value→Shared→Prop}{s:Shared}{it d:Addr}{i n ep:Nat}{ok ov:Value}{Q:Value→Shared→Prop}(st:IsItemIter s.heap it d i n ep ok ov)(h:Q (.ref it) s):wpAny (model P w) A (pyIter (.ref it)) Q E s:=by
 have hT:s.TypeIs (.ref it) "dict_itemiterator":=⟨_,st,rfl⟩
 refine wpAny_pyIter_slot hT F.slot_dict_itemiterator_iter (wpAny_call_entry F.slot_dict_itemiterator_iter hT jq ?_ (F.args_dict_itemiterator_iter_1 _))
 show wpAny _ _ (ret (.ref it)) _ _ s
 exact wpAny_pure ⟨_,rfl,"dict_itemiterator",_,hT,F.slot_dict_itemiterator_next.lookup,h⟩
theorem lX {P:Program}{w:World}{K:Frag}{es:List Expr}{k:Nat}{pos:Pos}(d it:Addr)(o:Obj)(kvs:List (Key×V)){uK:Array DictEntry}{ep:Nat}(he:o.data=.dict uK ep)(zv:it≠d):
  Turn P w K (.Tuple es k pos) (M9 d o kvs) [it] it (fun i h=>∃ok ov,IsItemIter h it d i kvs.length ep ok ov) where
 mem:=by simp
 obj:=fun i h st b hb=>by
  have e:b=it:=by simpa using hb
  subst e
  obtain ⟨ok,ov,st⟩:=st
  exact ⟨_,st,fun v z=>by cases z⟩
 keep:=fun i h h' st k=>by
  obtain ⟨ok,ov,st⟩:=st
  exact ⟨ok,ov,k it (by simp) _ st⟩
 item:=by
  intro X hP hw hK hc i pins s σ H E I hf st hg
  subst hP hw hK
  obtain ⟨ok,ov,st⟩:=st
  obtain ⟨fz,hi⟩:=hg
  obtain ⟨hd,vs,rel,da,_⟩:=jo I.bh fz he
  have ek:kvs[i]? =some kvs[i]:=gE hi
  obtain ⟨⟨k',u⟩,ev,e1,ru⟩:=aK rel ek
  have lv:=rel.length
  rw [lv] at st
  refine wpAny_pyNext_items_item st da ev fun key h' z6 out tup sz kk=> ?_
  refine ⟨_,rfl,wpAny_letOwnedTupleGo_items (s:={s with heap:=h' }) out fun EF Wh sb=> ?_⟩
  have hsz:∀c o,s.heap.get? c=some o→s.heap.objs.size≠c:=fun c o e=>alx (Heap.lt_size e)
  have tz:s.heap.objs.size≠it:=hsz _ _ st
  have nz:∀c,c≠it→∀o,h'.get? c=some o→EF.get? c=some o:=fun c hc o e=>(sb.2 c hc).trans e
  have hn:=I.bh.fresh (adf s.heap.objs.size)
  have xw :kvs[i].1=k' :=e1
  have I2:Inv X pins σ (upd H s.heap.objs.size (.tup [kV kvs[i].1,kvs[i].2])) {s with heap:=EF,toks:=s.toks}:=
   Inv.pK I (fun b o hb e=>nz b (by simpa using hb) o (kk b o (by simpa using hb) e)) hf (adf _) (by show 2≤sizeLine;decide) (its:=[key,u]) (.cons (by rw [xw];exact pR z6) (.cons ru .nil)) ⟨_,nz _ tz _ tup,rfl,_,rfl⟩
  refine ⟨.ref s.heap.objs.size,_,I2,rfl,⟨s.heap.objs.size,kvs[i].1,kvs[i].2,ek,rfl,hn,rfl⟩,⟨_,_,by rw [lv];exact Wh⟩,fun b hb=> ?_⟩
  have eb:b=it:=by simpa using hb
  rw [aj (by rw [eb];exact adG tz)]
  exact (hf b hb).1
 done:=by
  intro X hP hw hK hc i pins s σ H E I hf st hg
  subst hP hw hK
  obtain ⟨ok,ov,st⟩:=st
  obtain ⟨fz,hi⟩:=hg
  obtain ⟨hd,vs,rel,da,_⟩:=jo I.bh fz he
  have lv:=rel.length
  rw [lv] at st
  obtain ⟨f0,f1,f2,f3,f4,f5⟩:=hf it (by simp)
  exact wpAny_pyNext_items_end (I.ok.hd hc) st da (ac_ (by omega)) fun h' eb=>⟨rfl,I.turned (t' :=s.toks) (fun b o hb e=>eb b o hb e) f0 f1 f3 f4 f5⟩
 self:=fun _ _ _ _ _ st h=>by
  obtain ⟨ok,ov,st⟩:=st
  exact uL st h
inductive vY (R:(It→Hp→Prop))(x:V)(H1:Hp):Prop where
 | mk (d kvs:_) (_:x=.ref d) (_:H1 d=some (.dK kvs)) (_:∀o,R (M9 d o kvs) (upd H1 d (.bP o (.dK kvs)))):vY R x H1
def Li (te:TE):TI:=fun σ H R=>te σ H fun x H1=>vY R x H1
theorem iD {e:Expr}{te:TE}{apos dI:Pos}{es:List Expr}{k:Nat}{oX:Pos}(ho:PE X e te)(lj:attributeBase e "items" X.env (eval e X.env)=eval e X.env:=by rfl)(lC:(apos.endLine==dI.line)=true:=by rfl):
  PI X (.Tuple es k oX) (.Call (.Attribute e "items" apos) [] [] dI) (Li te):=by
 intro pins s σ H R I h
 refine wpAny_Call_method0_late lj lC (bK (ho pins s σ H _ I h) fun v s1 ⟨x,H1,I1,r1,q1⟩=> ?_)
 obtain ⟨d,kvs,rfl,e,q⟩:=q1
 cases r1
 obtain ⟨z,hd,vs,rel,o,EG,ep,rD,hx,dD,hk,hp,hn⟩:=lQ I1.bh e
 obtain ⟨h1,h2⟩:=AE (T:="dict") I1 (show RelV (.ref d) (.ref d) from rfl) (.inr (.inr (.inl ⟨rfl,.inl ⟨kvs,e⟩⟩)))
 have da:s1.heap.DictAt (aV X.prog X.w) d vs ep:=⟨o,EG,rD,hx,dD,hk,hp,hn⟩
 have lv:=rel.length
 refine ⟨"dict","dict.items",F.plainAttrs_dict,F.slot_dict_items,F.type_dict_items,h1,h2,Calls.callWith_builtin rfl (PySem.evalArgs_none ?_)⟩
 refine call_meetsIn F.slot_dict_items h1 F.entry_dict_items (F.args_dict_items_1 _) (meets_dict_items (aV X.prog X.w) d hd) ⟨⟨vs,da.dictOf⟩,?_⟩
 have I2:=Inv.freeze I1 e rD
 have OE:(s1.heap.push {cls:=.type "dict_items",data:=.fields #[.ref d]}).DictAt (aV X.prog X.w) d vs ep:=da.at' fun o e=>Heap.get?_push_of_some _ e
 show wpAny (model X.prog X.w) X.A (pyIter (.ref s1.heap.objs.size)) _ _ _
 refine wpAny_pyIter_items (s:={s1 with heap:=s1.heap.push {cls:=.type "dict_items",data:=.fields #[.ref d]}}) ⟨_,Heap.get?_push_size _ rfl,rfl,rfl⟩ OE ?_
 have sz:(s1.heap.push {cls:=.type "dict_items",data:=.fields #[.ref d]}).objs.size=s1.heap.objs.size+1:=Heap.size_push ..
 have ne:(s1.heap.push {cls:=.type "dict_items",data:=.fields #[.ref d]}).objs.size≠d:=by
  rw [sz]
  exact adG (adD (aeh (Heap.lt_size rD)))
 have I3:Inv X pins σ (upd H1 d (.bP o (.dK kvs))) {s1 with heap:=(s1.heap.push {cls:=.type "dict_items",data:=.fields #[.ref d]}).push {cls:=.type "dict_itemiterator",data:=.fields #[.none,.bool false,.ref d,.int 0 0,.int vs.length 0,.int ep 0,.none,.none]}}:=I2.kept (t' :=s1.toks) fun b o e=>Heap.get?_push_of_some _ (Heap.get?_push_of_some _ e)
 refine ⟨_,[_],_,_,_,rfl,I3,lX d _ o kvs dD ne,⟨_,_,by rw [lv];exact Heap.get?_push_size _ rfl⟩,fun b hb=> ?_,q o⟩
 have eb:b=(s1.heap.push {cls:=.type "dict_items",data:=.fields #[.ref d]}).objs.size:=by simpa using hb
 have le:s1.heap.objs.size≤b:=by rw [eb,sz];exact alF _
 exact I2.iq le (I2.bh.fresh le)
end
end Ty
set_option maxHeartbeats 4000000
namespace Ty
def ev:List Int→(Nat→Rat)→Rat
 | [],_=>0
 | a::r,z=>(a:Rat)*z 0+ev r (fun i=>z (i+1))
theorem uM:∀(l:List Int) (z y:Nat→Rat),ev l (fun i=>z i+y i)=ev l z+ev l y
 | [],_,_=>by simp [ev];grind
 | a::r,z,y=>by
  simp only [ev]
  rw [uM r (fun i=>z (i+1)) (fun i=>y (i+1))]
  grind
theorem kH:∀(l:List Int) (z:Nat→Rat),(∀j,((l.getD j 0:Int):Rat)*z j=0)→ev l z=0
 | [],_,_=>rfl
 | a::r,z,h=>by
  have h0:=h 0
  have ih:=kH r (fun i=>z (i+1)) (fun j=>by simpa using h (j+1))
  simp only [ev]
  rw [ih]
  simp at h0
  grind
theorem jr:∀(l:List Int) (z:Nat→Rat) (p:Nat),(∀j,j≠p→((l.getD j 0:Int):Rat)*z j=0)→ev l z=((l.getD p 0:Int):Rat)*z p
 | [],_,_,_=>by simp [ev]
 | a::r,z,0,h=>by
  have ih:=kH r (fun i=>z (i+1)) (fun j=>by simpa using h (j+1) (by omega))
  simp only [ev]
  rw [ih]
  simp
  grind
 | a::r,z,p+1,h=>by
  have h0:=h 0 (by omega)
  have ih:=jr r (fun i=>z (i+1)) p (fun j hj=>by simpa using h (j+1) (by omega))
  simp only [ev]
  rw [ih]
  simp at h0
  simp
  grind
theorem A_ {s t u:Int}:∀{new line lead:List Int},new.length=line.length→lead.length=line.length→(∀j,s*new.getD j 0=t*line.getD j 0 - u*lead.getD j 0)→∀z:Nat→Rat,(s:Rat)*ev new z=t*ev line z - u*ev lead z
 | [],[],[],_,_,_,z=>by simp [ev];grind
 | a::new,b::line,c::lead,h1,h2,h,z=>by
  have h0:=h 0
  have ih:=A_ (by simpa using h1) (by simpa using h2) (fun j=>by simpa using h (j+1)) (fun i=>z (i+1))
  simp at h0
  have h0' :(s:Rat)*a=t*b - u*c:=by exact_mod_cast h0
  simp only [ev]
  grind
 | [],_::_,_,h,_,_,_=>by simp at h
 | _::_,[],_,h,_,_,_=>by simp at h
 | _,[],_::_,_,h,_,_=>by simp at h
 | _,_::_,[],_,h,_,_=>by simp at h
def cW:List Rat→List (List Int)→Nat→Rat
 | c::y,o::os,j=>c*((o.getD j 0:Int):Rat)+cW y os j
 | _,_,_=>0
theorem sG {s t u:Rat}(hs:s≠0)(j:Nat):∀(os:List (List Int)) (y1 y2:List Rat),y1.length=os.length→y2.length=os.length→s*cW (ad2 (fun a b=>(t*a - u*b) / s) y1 y2) os j=t*cW y1 os j - u*cW y2 os j
 | [],[],[],_,_=>by simp [cW];grind
 | o::os,a::y1,b::y2,h1,h2=>by
  have ih:=sG (t:=t) (u:=u) hs j os y1 y2 (by simpa using h1) (by simpa using h2)
  simp only [alY,cW]
  grind
 | [],_::_,_,h,_=>by simp at h
 | [],[],_::_,_,h=>by simp at h
 | _::_,[],_,h,_=>by simp at h
 | _::_,_::_,[],_,h=>by simp at h
theorem om (j:Nat):∀(os:List (List Int)),cW (adn os.length 0) os j=0
 | []=>rfl
 | o::os=>by
  simp only [adI,aej,cW]
  rw [om j os]
  grind
def js (os:List (List Int))(l:List Int):Prop:=∃y:List Rat,y.length=os.length∧∀j,((l.getD j 0:Int):Rat)=cW y os j
theorem sH:∀{os:List (List Int)} {l:List Int},l∈os→js os l
 | o::os,l,h=>by
  rcases adz.mp h with z | z
  ·subst z
   refine ⟨1::adn os.length 0,by simp,fun j=> ?_⟩
   simp only [cW]
   rw [om]
   grind
  ·obtain ⟨y,hl,hy⟩:=sH z
   refine ⟨0::y,by simp [hl],fun j=> ?_⟩
   simp only [cW]
   rw [← hy j]
   grind
theorem BA {os:List (List Int)}{new line lead:List Int}{s t u:Int}(hs:s≠0)(h:∀j,s*new.getD j 0=t*line.getD j 0 - u*lead.getD j 0)(h1:js os line)(h2:js os lead):js os new:=by
 obtain ⟨y1,l1,e1⟩:=h1
 obtain ⟨y2,l2,e2⟩:=h2
 have JK :=bW hs
 refine ⟨ad2 (fun a b=>((t:Rat)*a - u*b) / s) y1 y2,by simp [l1,l2],fun j=> ?_⟩
 have k:=sG (t:=(t:Rat)) (u:=(u:Rat)) JK j os y1 y2 l1 l2
 rw [← e1 j, ← e2 j] at k
 have h' :(s:Rat)*(new.getD j 0:Int)=t*(line.getD j 0:Int) - u*(lead.getD j 0:Int):=by exact_mod_cast h j
 rw [← h'] at k
 grind
def jQ (y:List Rat):Nat→Rat:=fun i=>if i < y.length then y.getD i 0 else -1
theorem uN (j:Nat)(c:Int):∀(os:List (List Int)) (y:List Rat),y.length=os.length→ev (os.map (fun o=>o.getD j 0)++[c]) (jQ y)=cW y os j - c
 | [],[],_=>by simp [ev,jQ,cW];grind
 | o::os,a::y,h=>by
  have ih:=uN j c os y (by simpa using h)
  have ez:(fun i=>jQ (a::y) (i+1))=jQ y:=by
   funext i
   simp [jQ]
  simp only [ada,aeH,ev,cW]
  rw [ez,ih]
  simp [jQ]
  grind
 | [],_::_,h=>by simp at h
 | _::_,[],h=>by simp at h
theorem lY (k:Rat)(j:Nat):∀(os:List (List Int)) (y:List Rat),cW (y.map (fun a=>a*k)) os j=cW y os j*k
 | [],_=>by cases ‹List Rat› <;> simp [cW] <;> grind
 | _::_,[]=>by simp [cW]
 | o::os,a::y=>by
  simp only [ada,cW]
  rw [lY k j os y]
  grind
structure mY (line lead new:List Int)(c:Nat):Prop where
 len:new.length=line.length
 BB:new.getD c 0=0
 nj:∃s t u:Int,s≠0∧t≠0∧∀j,s*new.getD j 0=t*line.getD j 0 - u*lead.getD j 0
theorem mY.zero {line lead new:List Int}{c:Nat}(h:mY line lead new c){j:Nat}(h1:line.getD j 0=0)(h2:lead.getD j 0=0):new.getD j 0=0:=by
 obtain ⟨s,t,u,hs,_,e⟩:=h.nj
 have:=e j
 rw [h1,h2,aeP,aeP,Int.sub_self] at this
 rcases al2.mp this with z | z
 ·exact absurd z hs
 ·exact z
theorem mY.at {line lead new:List Int}{c:Nat}(h:mY line lead new c){j:Nat}(h2:lead.getD j 0=0)(h1:line.getD j 0≠0):new.getD j 0≠0:=by
 obtain ⟨s,t,u,hs,ht,e⟩:=h.nj
 have:=e j
 rw [h2] at this
 intro z
 rw [z,aeP,aeP,Int.sub_zero] at this
 rcases al2.mp this.symm with y | y
 ·exact ht y
 ·exact h1 y
theorem mY.comb {os:List (List Int)}{line lead new:List Int}{c:Nat}(h:mY line lead new c)(h1:js os line)(h2:js os lead):js os new:=by
 obtain ⟨s,t,u,hs,ht,e⟩:=h.nj
 exact BA hs e h1 h2
theorem mY.ev {line lead new:List Int}{c:Nat}(h:mY line lead new c)(hl:lead.length=line.length){z:Nat→Rat}(h2:Ty.ev lead z=0):Ty.ev new z=0 ↔ Ty.ev line z=0:=by
 obtain ⟨s,t,u,hs,ht,e⟩:=h.nj
 have k:=A_ h.len hl e z
 rw [h2] at k
 have JK :=bW hs
 have ht' :=bW ht
 constructor
 ·intro w
  rw [w] at k
  grind
 ·intro w
  rw [w] at k
  grind
end Ty
set_option maxHeartbeats 4000000
namespace Ty
open PySem PySem.Spec PyProof.Rows L2
def OF (K:Frag)(a:Addr):It:=
 ⟨fun i H=>∃xs x,aU K H a xs∧xs[i]? =some x,
  fun i H v H' =>∃p x,(∀xs,aU K H a xs→xs[i]? =some x)∧v=.ref p∧H p=none∧H' =upd H p (.tup [.int (i:Int),x]),
  fun i H=>∃xs,aU K H a xs∧xs.length≤i⟩
theorem xJ {P:Program}{w:World}{K:Frag}{es:List Expr}{k:Nat}{pos:Pos}(a e it:Addr)(zv:e≠it):
  Turn P w K (.Tuple es k pos) (OF K a) [e,it] e (fun i h=>(∃old,IsEnum h e it ((i:Nat):Int) old)∧h.IsListIter it a i) where
 mem:=by simp
 obj:=fun i h st c hc=>by
  obtain ⟨⟨old,he⟩,⟨o1,e1,c1,d1⟩⟩:=st
  have rq :c=e∨c=it:=by simpa using hc
  rcases rq with z | z <;> subst z
  ·exact ⟨_,he,fun v z=>by cases z⟩
  ·exact ⟨_,e1,fun v z=>by rw [d1] at z;cases z⟩
 keep:=fun i h h' st k=>by
  obtain ⟨⟨old,he⟩,h1⟩:=st
  exact ⟨⟨old,k e (by simp) _ he⟩,h1.at fun o e=>k it (by simp) o e⟩
 item:=by
  intro X hP hw hK hc i pins s σ H E I hf st hg
  subst hP hw hK
  obtain ⟨⟨old,he⟩,h1⟩:=st
  obtain ⟨xs,x,qx,ex⟩:=hg
  obtain ⟨its,rv,p,_⟩:=I.list qx
  obtain ⟨u,hu,ru⟩:=rv.get ex
  refine wpAny_pyNext_enum_item he h1 p.isList (x:=u) (by simpa using hu) zv fun h' a1 a2 a3 a4 a5=> ?_
  refine ⟨_,rfl,wpAny_letOwnedTupleGo_enum (s:={s with heap:=h',toks:=s.toks+1}) a1 fun EF b1 sb=> ?_⟩
  have nz:∀c,c≠e→∀o,h'.get? c=some o→EF.get? c=some o:=fun c hc o q=>(sb.2 c hc).trans q
  have kk:∀b o,b∉[e,it]→s.heap.get? b=some o→EF.get? b=some o:=fun b o hb q=>by
   have fG :b≠e∧b≠it:=by simpa using hb
   exact nz b fG.1 o (a5 b o fG.1 fG.2 q)
  have sz:∀c o,s.heap.get? c=some o→s.heap.objs.size≠c:=fun c o q=>alx (Heap.lt_size q)
  have tz:s.heap.objs.size≠e:=sz _ _ he
  have hn:=I.bh.fresh (adf s.heap.objs.size)
  have I2:Inv X pins σ (upd H s.heap.objs.size (.tup [.int (i:Int),x])) {s with heap:=EF,toks:=s.toks+1}:=
   Inv.pK I kk hf (adf _) (by show 2≤sizeLine;decide) (its:=[.int i s.toks,u]) (.cons ⟨_,rfl⟩ (.cons ru .nil)) ⟨_,nz _ tz _ a3,rfl,_,rfl⟩
  refine ⟨.ref s.heap.objs.size,_,I2,rfl,⟨s.heap.objs.size,x,fun xs' q=>by rw [I.gj q qx];exact ex,rfl,hn,rfl⟩,⟨⟨_,by exact b1⟩,a2.at fun o q=>nz _ (adG zv) o q⟩,fun b hb=> ?_⟩
  have ob:∃o,s.heap.get? b=some o:=by
   obtain ⟨o1,e1,_⟩:=h1
   have rq :b=e∨b=it:=by simpa using hb
   rcases rq with z | z <;> subst z
   ·exact ⟨_,he⟩
   ·exact ⟨_,e1⟩
  obtain ⟨o,q⟩:=ob
  rw [aj (adG (sz _ _ q))]
  exact (hf b hb).1
 done:=by
  intro X hP hw hK hc i pins s σ H E I hf st hg
  subst hP hw hK
  obtain ⟨⟨old,he⟩,h1⟩:=st
  obtain ⟨xs,qx,ee⟩:=hg
  obtain ⟨its,rv,p,_⟩:=I.list qx
  have l1:=rv.length
  refine wpAny_pyNext_enum_end (I.ok.hd hc) he h1 p.isList (by simp;omega) fun h' kk=>⟨rfl,Inv.kE I (fun b o hb q=> ?_) hf⟩
  have fG :b≠e∧b≠it:=by simpa using hb
  exact kk b o fG.2 q
 self:=fun _ _ _ _ _ st h=>by
  obtain ⟨⟨old,he⟩,_⟩:=st
  exact wpAny_pyIter_enum he h
theorem boot_enumerate:bootBuiltins "enumerate"=some (.type "enumerate"):=by decide+kernel
section
variable {X:Cx}
inductive BC (K:Frag)(R:(It→Hp→Prop))(vs:List V)(H1:Hp):Prop where
 | mk (a:_) (_:vs=[.ref a]) (_:(∃xs,aU K H1 a xs)) (_:R (OF K a) H1):BC K R vs H1
def OG (K:Frag)(ta:TA):TI:=fun σ H R=>ta σ H fun vs H1=>BC K R vs H1
theorem vZ {e1:Expr}{ta:TA}{p pos:Pos}{es:List Expr}{k:Nat}{oX:Pos}(hg:Gl X "enumerate")(hm:X.mg "enumerate"=none)(ha:PA X [e1] ta)(hs:starEach [e1] X.env=[(false,eval e1 X.env)]:=by rfl):
  PI X (.Tuple es k oX) (.Call (.Name "enumerate" p) [e1] [] pos) (OG X.K ta):=by
 intro pins s σ H R I h
 refine Call_ (gi I hg hm boot_enumerate (PyProof.Rows.callWith_type1 (bK (ha pos pins s σ H _ I h) fun us s1 ⟨vs,H1,I1,r1,q1⟩=> ?_) hs rfl))
 obtain ⟨a,e,⟨xs,hx⟩,q⟩:=q1
 subst e
 cases r1 with
 | cons r rr=>
  cases rr
  cases r
  obtain ⟨its,rv,pl,_⟩:=I1.list hx
  refine call_enumerate_list pl.isList fun h' hE hI hsz hk=>wpAny_pyIter_enum (s:={s1 with heap:=h' }) hE ?_
  refine ⟨s1.heap.objs.size+1,[s1.heap.objs.size+1,s1.heap.objs.size],_,_,H1,rfl,I1.kept (t' :=s1.toks) hk,xJ a _ _ (Nat.succ_ne_self _),⟨⟨_,hE⟩,hI⟩,fun c hc=> ?_,q⟩
  have rq :s1.heap.objs.size≤c:=by
   have:c=s1.heap.objs.size+1∨c=s1.heap.objs.size:=by simpa using hc
   simp only [Addr] at*
   omega
  exact I1.iq rq (I1.bh.fresh rq)
theorem any_range (bs:List Bool):(adY bs.length).any (fun i=>(bs[i]?).getD true)=bs.any id:=by
 rw [aeA,aex,aex]
 constructor
 ·rintro ⟨i,hi,h⟩
  have OH :i < bs.length:=ad1.mp hi
  rw [gE OH] at h
  exact ⟨bs[i],aea OH,h⟩
 ·rintro ⟨b,hb,h⟩
  obtain ⟨i,hi⟩:=adg hb
  exact ⟨i,ad1.mpr (be.mp hi).1,by rw [hi];exact h⟩
inductive OI (K:Frag)(xs:List V)(H:Hp)(Q:VK):Prop where
 | mk (p:Addr) (bs:List Bool) (_:xs=[.ref p]) (_:aU K H p (bs.map V.bl)) (_:Q (.bl (bs.any id)) H):OI K xs H Q
theorem xK (hc:X.calm=true):eO X (.builtin "any") (OI X.K):=by
 intro pins s σ H xs us Q I r h
 obtain ⟨p,bs,rfl,hq,q⟩:=h
 obtain ⟨u,rfl,r1⟩:=vals1 r
 cases r1
 obtain ⟨its,rv,pl,hz⟩:=I.list hq
 refine call_any_walk (wpAny_pyIter_list pl.isList ?_)
 have zv:p≠s.heap.objs.size:=by obtain ⟨o,ho,_⟩:=pl.isList;exact adD (Heap.lt_size ho)
 have I1:Inv X pins σ H {s with heap:=s.heap.push {cls:=.type "list_iterator",data:=.fields #[.ref p,.int 0 0]}}:=I.kept (t' :=s.toks) fun b o e=>Heap.get?_push_of_some _ e
 obtain ⟨f0,f1,f2,f3,f4,f5⟩:=I.iq (H' :=H) (adf s.heap.objs.size) (I.bh.fresh (adf _))
 have hl:its.length=bs.length:=by rw [← rv.length,Wp]
 refine ⟨s.heap.objs.size,_,_,_,_,_,fun i=>(bs[i]?).getD true,rfl,Walks.list (A:=X.A.in1) (I.ok.hd hc) s.heap.objs.size p zv its.toArray,⟨⟨_,Heap.get?_push_size _ rfl,rfl,rfl⟩,pl.isList.at fun o e=>Heap.get?_push_of_some _ e⟩,?_,fun h' tk kk=> ?_⟩
 ·intro i v s' Q' E' hv ja
  have KR :its[i]? =some v:=by simpa using hv
  have hi:i < bs.length:=by rw [← hl];exact (be.mp KR).1
  have eb:(bs.map V.bl)[i]? =some (.bl bs[i]):=by rw [ir,gE hi];rfl
  obtain ⟨u,eu,ru⟩:=rv.get eb
  rw [KR] at eu
  cases eu
  cases ru
  dsimp only at ja
  rw [gE hi] at ja
  exact wpAny_truthy_bool ja
 ·refine ⟨.bl (bs.any id),H,I1.turned (t' :=tk) (it:=s.heap.objs.size) (fun b o hb e=>kk b o (by simpa using hb) e) f0 f1 f3 f4 f5,?_,q⟩
  show _=_
  rw [← any_range bs,adt,hl]
theorem OJ:bootBuiltins "any"=some (.builtin "any"):=by decide+kernel
end
theorem sI {K:Frag}{a:Addr}{xs:List V}{g:TG}{tb:TS}{D:Ends}{σ:L2.St}{H:Hp}(Pv:Nat→L2.St→Hp→Prop)(h0:Pv 0 σ H)(hl:∀i σ H,i≤xs.length→Pv i σ H→aU K H a xs)
  (hs:∀i x σ H p,xs[i]? =some x→Pv i σ H→H p=none→g (.ref p) σ (upd H p (.tup [.int (i:Int),x])) fun σ2 H2=>tb {D with nx:=Pv (i+1),ct:=Pv (i+1),bk:=D.nx} σ2 H2) (hd:∀σ H,Pv xs.length σ H→D.nx σ H):
  ∃W:Nat→Nat→L2.St→Hp→Prop,(∃m,W 0 m σ H)∧∀i m σ H,W i m σ H→
   ((OF K a).stop i H∧D.nx σ H)∨((OF K a).go i H∧∃N:L2.St→Hp→Prop,(∀σ' H',N σ' H' →∃m',m' < m∧W (i+1) m' σ' H')∧∀x H',(OF K a).vJ i H x H' →g x σ H' fun σ2 H2=>tb {D with nx:=N,ct:=N,bk:=D.nx} σ2 H2):=by
 refine ⟨fun i m σ H=>m=xs.length - i∧i≤xs.length∧Pv i σ H,⟨xs.length,by simp,adL _,h0⟩,?_⟩
 rintro i m σ H ⟨rfl,hi,p⟩
 have q:=hl i σ H hi p
 by_cases g7:i < xs.length
 ·have e:xs[i]? =some xs[i]:=gE g7
  refine .inr ⟨⟨xs,_,q,e⟩,Pv (i+1),fun σ' H' z=>⟨xs.length - (i+1),by omega,rfl,by omega,z⟩,fun x H' y=> ?_⟩
  obtain ⟨pp,x',y1,rfl,np,rfl⟩:=y
  exact hs i x' σ H pp (y1 xs q) p np
 ·have e:i=xs.length:=by omega
  subst e
  exact .inl ⟨⟨xs,q,adf _⟩,hd σ H p⟩
theorem fm {d:Addr}{o:Obj}{kvs:List (Key×V)}{g:TG}{tb:TS}{D:Ends}{σ:L2.St}{H:Hp}(Pv:Nat→L2.St→Hp→Prop)(h0:Pv 0 σ H)(hl:∀i σ H,i≤kvs.length→Pv i σ H→H d=some (.bP o (.dK kvs)))
  (hs:∀i k x σ H p,kvs[i]? =some (k,x)→Pv i σ H→H p=none→g (.ref p) σ (upd H p (.tup [kV k,x])) fun σ2 H2=>tb {D with nx:=Pv (i+1),ct:=Pv (i+1),bk:=D.nx} σ2 H2) (hd:∀σ H,Pv kvs.length σ H→D.nx σ H):
  ∃W:Nat→Nat→L2.St→Hp→Prop,(∃m,W 0 m σ H)∧∀i m σ H,W i m σ H→
   ((M9 d o kvs).stop i H∧D.nx σ H)∨((M9 d o kvs).go i H∧∃N:L2.St→Hp→Prop,(∀σ' H',N σ' H' →∃m',m' < m∧W (i+1) m' σ' H')∧∀x H',(M9 d o kvs).vJ i H x H' →g x σ H' fun σ2 H2=>tb {D with nx:=N,ct:=N,bk:=D.nx} σ2 H2):=by
 refine ⟨fun i m σ H=>m=kvs.length - i∧i≤kvs.length∧Pv i σ H,⟨kvs.length,by simp,adL _,h0⟩,?_⟩
 rintro i m σ H ⟨rfl,hi,p⟩
 have q:=hl i σ H hi p
 by_cases g7:i < kvs.length
 ·refine .inr ⟨⟨q,g7⟩,Pv (i+1),fun σ' H' z=>⟨kvs.length - (i+1),by omega,rfl,by omega,z⟩,fun x H' y=> ?_⟩
  obtain ⟨pp,k,x',y1,rfl,np,rfl⟩:=y
  exact hs i k x' σ H pp y1 p np
 ·have e:i=kvs.length:=by omega
  subst e
  exact .inl ⟨⟨q,adf _⟩,hd σ H p⟩
end Ty
set_option maxHeartbeats 4000000
namespace Ty
open PySem PySem.Spec PyProof.Rows L2
open Builtin.Int (intBits)
section
variable {X:Cx}
def BD (i j:Int):Prop:=intBits i+intBits j≤134217728
theorem gK:gW X (binaryOp .Mult) (rI BD fun i j=>.int (i*j)):=
 NS fun _ _ _ _ _ _ _ hc q=>mul_int q (IntMulOk.of_le (adf _) (adf _) hc)
theorem fo {a b:Int}{m n:Nat}(h1:a.natAbs≤2^m)(h2:b.natAbs≤2^n)(h:m+n≤134000000):BD a b:=by
 have x1:=gJ h1 (adO m)
 have x2:=gJ h2 (adO n)
 unfold BD
 omega
inductive JQ (K:Frag)(xs:List V)(H:Hp)(Q:VK):Prop where
 | mk (p ys:_) (_:xs=[.ref p,.ty "tuple"]) (_:bH K H p ys) (_:Q (.bl true) H):JQ K xs H Q
theorem xM:eO X (.builtin "isinstance") (JQ X.K):=by
 intro pins s σ H xs us Q I r h
 obtain ⟨p,ys,rfl,hq,q⟩:=h
 obtain ⟨u,w,rfl,r1,r2⟩:=vals2 r
 obtain rfl:=GY (c:=.ty "tuple") rfl r2
 cases r1
 obtain ⟨its,rv,⟨o,h1,h2,_⟩,_⟩:=I.tuple hq
 have e:PySem.W.kitOne X.K (.type "tuple") (Ob (.ty "tuple"))=some true:=by unfold PySem.W.kitOne;rw [if_pos (by decide)]
 exact PySem.W.kia_one PySem.W.kitx_tuple I.nN ⟨o,h1,h2⟩ e (fun z=>nomatch z) fun tk=>⟨.bl true,H,I.tok tk,rfl,q⟩
end
theorem au.fK {K:Frag}{H H' :Hp}{a:Addr}{xs:List V}(e:au H H')(h:bH K H a xs):bH K H' a xs:=by
 rcases h with (h | ⟨o,h⟩) | h
 ·exact .inl (.inl (e _ _ h))
 ·exact .inl (.inr ⟨o,e _ _ h⟩)
 ·exact .inr h
section
variable {D:Addr}{te:TE}{cap:L2.St}{H1:Hp}{Q:VK}
theorem xN {K:Frag}{a b:Addr}{xs ys:List V}(Rel:Nat→V→Hp→Prop)(nD:H1 D=none)(hn:xs.length < sizeLine)(hl:ys.length=xs.length)(hX:∀H,au H1 H→aU K H a xs)(hY:∀H,au H1 H→aU K H b ys)
  (hR:∀i v H H' ys,H D=some (.lst ys)→aH D H H' →Rel i v H→Rel i v H')
  (he:∀i x y H (R:VK),xs[i]? =some x→ys[i]? =some y→au H1 H→(∃ys,H D=some (.lst ys))→(∀v H6,au H H6→Rel i v H6→R v H6)→te (some x::some y::cap) H R)
  (hd:∀zs H,zs.length=xs.length→(∀i v,zs[i]? =some v→Rel i v H)→au H1 H→H D=some (.lst zs)→Q (.ref D) H):
  nh D (zP K 2 (rK (cY 0) (rK (cY 1) KI))) jg te (UN K a b) (none::none::cap) H1 Q:=by
 refine ⟨fun i m σ zs H=>m=xs.length - i∧i≤xs.length∧(∃o o',σ=o::o' ::cap)∧(zs.length=i∧(∀i v,zs[i]? =some v→Rel i v H)∧au H1 H)∧H D=some (.lst zs),⟨xs.length,by simp,adL _,⟨none,none,rfl⟩,⟨rfl,fun i v e=>by simp at e,fun b o e=>by rw [aj (ao e nD)];exact e⟩,ag⟩,?_⟩
 rintro i m σ zs H ⟨rfl,hi,⟨o,o',rfl⟩,⟨l,r,s⟩,hD⟩
 by_cases g7:i < xs.length
 ·have e1:xs[i]? =some xs[i]:=gE g7
  have e2:ys[i]? =some (ys[i]'(by omega)):=gE (by omega)
  refine .inr ⟨⟨xs,ys,_,_,hX H s,hY H s,e1,e2⟩,fun v H' y=> ?_⟩
  obtain ⟨p,x,y,q1,q2,rfl,np,rfl⟩:=y
  have e1:=q1 xs (hX H s)
  have e2:=q2 ys (hY H s)
  have sp:au H (upd H p (.tup [x,y])):=fun b o e=>by rw [aj (ao e np)];exact e
  refine ⟨p,_,rfl,bH.of ag,rfl,_,_,rfl,_,_,rfl,rfl,?_⟩
  unfold jg
  dsimp only
  rw [if_pos rfl]
  refine he i x y _ _ e1 e2 (fun b o e=>sp _ _ (s _ _ e)) ⟨zs,sp _ _ hD⟩ fun v H6 s6 rv=>⟨s6 _ _ (sp _ _ hD),by omega,xs.length - (i+1),by omega,rfl,by omega,⟨_,_,rfl⟩,⟨by simp [l],fun j u e=> ?_,fun b o e=> ?_⟩,ag⟩
  ·by_cases c:j < zs.length
   ·rw [adl c] at e
    have ru:=hR j u H H6 zs hD (aH.of fun b o q=>s6 _ _ (sp _ _ q)) (r j u e)
    exact hR j u H6 _ zs (s6 _ _ (sp _ _ hD)) aH.upd ru
   ·rw [adu (by omega)] at e
    have ej:j=i:=by
     by_cases z:j - zs.length=0
     ·omega
     ·rw [ac_ (by simp;omega)] at e
      cases e
    subst ej
    have:v=u:=by
     rw [show j - zs.length=0 by omega] at e
     exact adB e
    subst this
    exact hR j v H6 _ zs (s6 _ _ (sp _ _ hD)) aH.upd rv
  ·rw [aj (ao e nD)]
   exact s6 _ _ (sp _ _ (s _ _ e))
 ·have e:i=xs.length:=by omega
  subst e
  exact .inl ⟨⟨xs,ys,hX H s,hY H s,.inl (adf _)⟩,hd zs H l r s hD⟩
end
def jR (K:Frag)(H:Hp)(v:V)(q:Int×Int):Prop:=∃p,v=.ref p∧bH K H p [.int q.1,.int q.2]
theorem jR.same {K:Frag}{H H' :Hp}{v:V}{q:Int×Int}(h:jR K H v q)(s:au H H'):jR K H' v q:=by
 obtain ⟨p,e,k⟩:=h
 exact ⟨p,e,Ty.au.fK s k⟩
def bT (K:Frag)(H:Hp)(us:List V)(qs:List (Int×Int)):Prop:=us.length=qs.length∧∀(i:Nat) (u:V) (q:Int×Int),us[i]? =some u→qs[i]? =some q→jR K H u q
theorem bT.same {K:Frag}{H H' :Hp}{us:List V}{qs:List (Int×Int)}(h:bT K H us qs)(s:au H H'):bT K H' us qs:=⟨h.1,fun i u q e1 e2=>(h.2 i u q e1 e2).same s⟩
theorem bT.at {K:Frag}{H:Hp}{us:List V}{qs:List (Int×Int)}(h:bT K H us qs){i:Nat}{u:V}(e:us[i]? =some u):∃q,qs[i]? =some q∧jR K H u q:=by
 have hi:i < us.length:=(be.mp e).1
 have hl:=h.1
 have e2:qs[i]? =some (qs[i]'(by omega)):=gE (by omega)
 exact ⟨_,e2,h.2 i u _ e e2⟩
theorem bT.set {K:Frag}{H:Hp}{us:List V}{qs:List (Int×Int)}{j:Nat}{v:V}{q:Int×Int}(h:bT K H us qs)(n:jR K H v q):bT K H (us.set j v) (qs.set j q):=by
 refine ⟨by simp [h.1],fun i u q' e1 e2=> ?_⟩
 rw [adM] at e1 e2
 by_cases c:j=i
 ·subst c
  rw [if_pos rfl] at e1 e2
  have l:=h.1
  by_cases hj:j < us.length
  ·rw [if_pos hj] at e1
   rw [if_pos (by omega)] at e2
   cases e1
   cases e2
   exact n
  ·rw [if_neg hj] at e1
   cases e1
 ·rw [if_neg c] at e1 e2
  exact h.2 i u q' e1 e2
def Wi (K:Frag)(H:Hp)(a:Addr)(qs:List (Int×Int)):Prop:=∃us,aU K H a us∧bT K H us qs
def sumTo:Nat→(Nat→Rat)→Rat
 | 0,_=>0
 | n+1,f=>f 0+sumTo n (fun i=>f (i+1))
theorem oq:∀(n:Nat) (f g:Nat→Rat),sumTo n (fun i=>f i+g i)=sumTo n f+sumTo n g
 | 0,_,_=>by simp [sumTo];grind
 | n+1,f,g=>by
  simp only [sumTo]
  rw [oq n (fun i=>f (i+1)) (fun i=>g (i+1))]
  grind
theorem jt (c:Rat):∀(n:Nat) (f:Nat→Rat),sumTo n (fun i=>c*f i)=c*sumTo n f
 | 0,_=>by simp [sumTo]
 | n+1,f=>by
  simp only [sumTo]
  rw [jt c n (fun i=>f (i+1))]
  grind
theorem fL:∀(n:Nat) (f:Nat→Rat),(∀i,f i=0)→sumTo n f=0
 | 0,_,_=>rfl
 | n+1,f,h=>by
  simp only [sumTo]
  rw [h 0,fL n (fun i=>f (i+1)) (fun i=>h (i+1))]
  grind
theorem gw:∀(n:Nat) (l:List Int) (z:Nat→Rat),l.length≤n→ev l z=sumTo n (fun j=>((l.getD j 0:Int):Rat)*z j)
 | n,[],z,_=>by
  rw [fL n _ (fun i=>by simp)]
  rfl
 | 0,_::_,_,h=>by simp at h
 | n+1,a::r,z,h=>by
  simp only [ev,sumTo]
  rw [gw n r (fun i=>z (i+1)) (by simpa using h)]
  simp
theorem v5 (n:Nat)(z:Nat→Rat):∀(y:List Rat) (os:List (List Int)),(∀o∈os,o.length≤n)→(∀o∈os,ev o z=0)→sumTo n (fun j=>cW y os j*z j)=0
 | c::y,o::os,h1,h2=>by
  have ih:=v5 n z y os (fun x hx=>h1 x (ade _ hx)) (fun x hx=>h2 x (ade _ hx))
  have e:=h2 o adh
  rw [gw n o z (h1 o adh)] at e
  have k:(fun j=>cW (c::y) (o::os) j*z j)=fun j=>c*(((o.getD j 0:Int):Rat)*z j)+cW y os j*z j:=by
   funext j
   simp only [cW]
   grind
  rw [k,oq,jt,e,ih]
  grind
 | [],os,_,_=>fL n _ (fun j=>by cases os <;> simp [cW])
 | _::_,[],_,_=>fL n _ (fun j=>by simp [cW])
theorem HI {os:List (List Int)}{l:List Int}{n:Nat}{z:Nat→Rat}(h:js os l)(hl:l.length≤n)(ho:∀o∈os,o.length≤n)(hz:∀o∈os,ev o z=0):ev l z=0:=by
 obtain ⟨y,_,e⟩:=h
 rw [gw n l z hl, ← v5 n z y os ho hz]
 congr 1
 funext j
 rw [e j]
theorem sJ:∀{ts:List Int} {qs xs:List (Int×Int)} {d:Int×Int} {b:Int},f7 ts (qs++[d]) b→xs.length=qs.length→ev ts (jQ (xs.map vl))=(fH qs xs - vl d)*b
 | [],qs,xs,d,b,h,_=>by have:=h.1;simp at this
 | t::ts,[],[],d,b,h,_=>by
  have e:=h.2 0 t d rfl rfl
  have l:=h.1
  have:ts=[]:=by simpa using l
  subst this
  simp [ev,jQ,fH]
  rw [e]
  grind
 | t::ts,q::qs,x::xs,d,b,h,hl=>by
  have e:=h.2 0 t q rfl rfl
  have ih:=sJ (ts:=ts) (qs:=qs) (xs:=xs) (d:=d) (b:=b) h.tail (by simpa using hl)
  have ez:(fun i=>jQ ((x::xs).map vl) (i+1))=jQ (xs.map vl):=by
   funext i
   simp [jQ]
  simp only [ev]
  rw [ez,ih,e]
  have e0:jQ ((x::xs).map vl) 0=vl x:=by simp [jQ]
  have ed:fH (q::qs) (x::xs)=vl q*vl x+fH qs xs:=by simp [fH]
  rw [e0,ed]
  grind
 | _::_,[],_::_,_,_,_,hl=>by simp at hl
 | _::_,_::_,[],_,_,_,hl=>by simp at hl
end Ty
set_option maxHeartbeats 4000000
namespace Ty
open PySem PySem.Spec PyProof.Rows L2
theorem Lj {H:Hp}{d:Addr}{o:HO}(e:H d=some o):upd H d o=H:=by
 funext b
 by_cases z:b=d
 ·subst z
  rw [ag,e]
 ·rw [aj z]
section
variable {X:Cx}
def HJ (te:TE):TI:=fun σ H R=>te σ H fun x H1=>∃d kvs,x=.ref d∧Rd H1 d (.dK kvs)∧∀o,R (M9 d o kvs) (upd H1 d (.bP o (.dK kvs)))
theorem xO {e:Expr}{te:TE}{apos dI:Pos}{es:List Expr}{k:Nat}{oX:Pos}(ho:PE X e te)(lj:attributeBase e "items" X.env (eval e X.env)=eval e X.env:=by rfl)(lC:(apos.endLine==dI.line)=true:=by rfl):
  PI X (.Tuple es k oX) (.Call (.Attribute e "items" apos) [] [] dI) (HJ te):=by
 intro pins s σ H R I h
 refine wpAny_Call_method0_late lj lC (bK (ho pins s σ H _ I h) fun v s1 ⟨x,H1,I1,r1,q1⟩=> ?_)
 obtain ⟨d,kvs,rfl,e,q⟩:=q1
 cases r1
 obtain ⟨z,hd,vs,rel,o,EG,ep,rD,hx,dD,hk,hp,hn⟩:=gX I1.bh e
 have da:s1.heap.DictAt (aV X.prog X.w) d vs ep:=⟨o,EG,rD,hx,dD,hk,hp,hn⟩
 have h1:s1.TypeIs (.ref d) "dict":=da.dictOf.typeIs
 have h2:∀a,Value.ref d=.ref a→∃ob,s1.heap.get? a=some ob∧ob.dict=none:=fun a z=>by
  cases z
  exact ⟨o,rD,hx.2.1⟩
 have lv:=rel.length
 refine ⟨"dict","dict.items",F.plainAttrs_dict,F.slot_dict_items,F.type_dict_items,h1,h2,Calls.callWith_builtin rfl (PySem.evalArgs_none ?_)⟩
 refine call_meetsIn F.slot_dict_items h1 F.entry_dict_items (F.args_dict_items_1 _) (meets_dict_items (aV X.prog X.w) d hd) ⟨⟨vs,da.dictOf⟩,?_⟩
 have I2:Inv X pins σ (upd H1 d (.bP o (.dK kvs))) s1:=by
  rcases e with e | ⟨o',e⟩
  ·exact Inv.freeze I1 e rD
  ·have g:=(I1.bh d _ e).1
   rw [rD] at g
   cases g
   rw [Lj e]
   exact I1
 have OE:(s1.heap.push {cls:=.type "dict_items",data:=.fields #[.ref d]}).DictAt (aV X.prog X.w) d vs ep:=da.at' fun o e=>Heap.get?_push_of_some _ e
 show wpAny (model X.prog X.w) X.A (pyIter (.ref s1.heap.objs.size)) _ _ _
 refine wpAny_pyIter_items (s:={s1 with heap:=s1.heap.push {cls:=.type "dict_items",data:=.fields #[.ref d]}}) ⟨_,Heap.get?_push_size _ rfl,rfl,rfl⟩ OE ?_
 have sz:(s1.heap.push {cls:=.type "dict_items",data:=.fields #[.ref d]}).objs.size=s1.heap.objs.size+1:=Heap.size_push ..
 have ne:(s1.heap.push {cls:=.type "dict_items",data:=.fields #[.ref d]}).objs.size≠d:=by
  rw [sz]
  exact adG (adD (aeh (Heap.lt_size rD)))
 have I3:Inv X pins σ (upd H1 d (.bP o (.dK kvs))) {s1 with heap:=(s1.heap.push {cls:=.type "dict_items",data:=.fields #[.ref d]}).push {cls:=.type "dict_itemiterator",data:=.fields #[.none,.bool false,.ref d,.int 0 0,.int vs.length 0,.int ep 0,.none,.none]}}:=I2.kept (t' :=s1.toks) fun b o e=>Heap.get?_push_of_some _ (Heap.get?_push_of_some _ e)
 refine ⟨_,[_],_,_,_,rfl,I3,lX d _ o kvs dD ne,⟨_,_,by rw [lv];exact Heap.get?_push_size _ rfl⟩,fun b hb=> ?_,q o⟩
 have eb:b=(s1.heap.push {cls:=.type "dict_items",data:=.fields #[.ref d]}).objs.size:=by simpa using hb
 have le:s1.heap.objs.size≤b:=by rw [eb,sz];exact alF _
 exact I2.iq le (I2.bh.fresh le)
end
section
variable {D:Addr}{te:TE}{cap:L2.St}{H1:Hp}{Q:VK}
end
end Ty
set_option maxHeartbeats 4000000
namespace Ty
open PySem PySem.Spec PyProof.Rows L2
section
variable {X:Cx}
def OK (d:Addr)(o:Obj)(kvs:List (Key×V)):It:=
 ⟨fun i H=>H d=some (.bP o (.dK kvs))∧i < kvs.length,
  fun i H v H' =>H' =H∧∃k,kvs[i]? =some (k,v),
  fun i H=>H d=some (.bP o (.dK kvs))∧kvs.length≤i⟩
theorem xP {P:Program}{w:World}{K:Frag}{tg:Expr}(d it:Addr)(o:Obj)(kvs:List (Key×V)){uK:Array DictEntry}{ep:Nat}(he:o.data=.dict uK ep):
  Turn P w K tg (OK d o kvs) [it] it (fun i h=>h.IsValIter it d i kvs.length ep) where
 mem:=by simp
 obj:=fun i h st b hb=>by
  have e:b=it:=by simpa using hb
  subst e
  obtain ⟨o,e,c,d⟩:=st
  exact ⟨o,e,fun v z=>by rw [d] at z;cases z⟩
 keep:=fun i h h' st k=>st.at fun o e=>k it (by simp) o e
 item:=by
  intro X hP hw hK hc i pins s σ H E I hf st hg
  subst hP hw hK
  obtain ⟨fz,hi⟩:=hg
  obtain ⟨hd,vs,rel,da,_⟩:=jo I.bh fz he
  have ek:kvs[i]? =some kvs[i]:=gE hi
  obtain ⟨⟨k',u⟩,ev,e1,ru⟩:=aK rel ek
  have lv:=rel.length
  rw [lv] at st
  obtain ⟨f0,f1,f2,f3,f4,f5⟩:=hf it (by simp)
  refine wpAny_pyNext_values_item st da ev fun h' mW sb=> ?_
  have I1:Inv X pins σ H {s with heap:=h' }:=I.turned (t' :=s.toks) (fun b o hb e=>(sb.2 b hb).trans e) f0 f1 f3 f4 f5
  rw [← lv] at mW
  obtain ⟨o',e',c',d'⟩:=id mW
  exact ⟨u,rfl,nQ (s:={s with heap:=h' }) e' c' d' (by decide) ⟨kvs[i].2,H,I1,ru,⟨rfl,kvs[i].1,ek⟩,mW,fun b hb=>(hf b hb).1⟩⟩
 done:=by
  intro X hP hw hK hc i pins s σ H E I hf st hg
  subst hP hw hK
  obtain ⟨fz,hi⟩:=hg
  obtain ⟨hd,vs,rel,da,_⟩:=jo I.bh fz he
  have lv:=rel.length
  rw [lv] at st
  obtain ⟨f0,f1,f2,f3,f4,f5⟩:=hf it (by simp)
  exact wpAny_pyNext_values_end (I.ok.hd hc) st da (ac_ (by omega)) fun h' eb=>⟨rfl,I.turned (t' :=s.toks) (fun b o hb e=>eb b o hb e) f0 f1 f3 f4 f5⟩
 self:=fun _ _ _ _ _ st h=>wpAny_pyIter_valiter st h
theorem BE {d:Addr}{o:Obj}{kvs:List (Key×V)}{g:TG}{tb:TS}{D:Ends}{σ:L2.St}{H:Hp}(Pv:Nat→L2.St→Hp→Prop)(h0:Pv 0 σ H)(hl:∀i σ H,i≤kvs.length→Pv i σ H→H d=some (.bP o (.dK kvs)))
  (hs:∀i k x σ H,kvs[i]? =some (k,x)→Pv i σ H→g x σ H fun σ2 H2=>tb {D with nx:=Pv (i+1),ct:=Pv (i+1),bk:=D.nx} σ2 H2) (hd:∀σ H,Pv kvs.length σ H→D.nx σ H):
  ∃W:Nat→Nat→L2.St→Hp→Prop,(∃m,W 0 m σ H)∧∀i m σ H,W i m σ H→
   ((OK d o kvs).stop i H∧D.nx σ H)∨((OK d o kvs).go i H∧∃N:L2.St→Hp→Prop,(∀σ' H',N σ' H' →∃m',m' < m∧W (i+1) m' σ' H')∧∀x H',(OK d o kvs).vJ i H x H' →g x σ H' fun σ2 H2=>tb {D with nx:=N,ct:=N,bk:=D.nx} σ2 H2):=by
 refine ⟨fun i m σ H=>m=kvs.length - i∧i≤kvs.length∧Pv i σ H,⟨kvs.length,by simp,adL _,h0⟩,?_⟩
 rintro i m σ H ⟨rfl,hi,p⟩
 have q:=hl i σ H hi p
 by_cases g7:i < kvs.length
 ·refine .inr ⟨⟨q,g7⟩,Pv (i+1),fun σ' H' z=>⟨kvs.length - (i+1),by omega,rfl,by omega,z⟩,fun x H' y=> ?_⟩
  obtain ⟨rfl,k,ek⟩:=y
  exact hs i k x σ _ ek p
 ·have e:i=kvs.length:=by omega
  subst e
  exact .inl ⟨⟨q,adf _⟩,hd σ H p⟩
end
end Ty
set_option maxHeartbeats 4000000
namespace Ty
open PySem PySem.Spec PyProof.Rows L2
section
variable {X:Cx}
inductive JR (xs:List V)(H:Hp)(Q:VK):Prop where
 | mk (p:Addr) (kvs:List (Key×V)) (_:xs=[.ref p]) (_:Rd H p (.dK kvs)) (_:Q (.int (kvs.length:Int)) H):JR xs H Q
theorem ot:eO X (.builtin "len") JR:=by
 intro pins s σ H xs us Q I r h
 obtain ⟨p,kvs,rfl,hq,q⟩:=h
 obtain ⟨u,rfl,r1⟩:=vals1 r
 cases r1
 exact Oy I hq fun t s' I' =>⟨.int _,H,I',⟨t,rfl⟩,q⟩
end
section
variable {D:Addr}{te:TE}{cap:L2.St}{H1:Hp}{Q:VK}
end
end Ty
set_option maxHeartbeats 4000000
namespace Ty
open PySem PySem.Spec PyProof.Rows L2
section
variable {X:Cx}
theorem Inv.JS {pins:List (Addr×Obj)}{σ:L2.St}{H:Hp}{s:Shared}{d:Addr}{u:HO}{o:Obj}(I:Inv X pins σ H s)(e:H d=some (.bP o u))(n:∀o' u',X.H₀ d≠some (.bP o' u'))(nt:∀xs,u≠.tup xs):Inv X pins σ (upd H d u) s:=by
 have nx:∀b u',H b=some u' →b≠d→upd H d u b=some u' :=fun b u q n=>by rw [aj n];exact q
 have nn:∀b,H b=none→upd H d u b=none:=fun b q=>by rw [aj (fun z=>by rw [z,e] at q;cases q)];exact q
 refine ⟨I.ok,I.os,I.bare,⟨I.base.keep,I.base.slot,fun b ob q z hx=>nn b (I.base.free b ob q z hx),I.base.there,fun b xs q=> ?_,fun b ob u' q=> ?_,fun b ps q=> ?_⟩,I.loc,I.cell,nn _ I.free,fun x c q=>nn _ (I.gh x c q),fun p hp=> ?_,?_,I.len⟩
 ·have z:=I.base.oN b xs q
  exact nx b _ z fun y=>by rw [y,e] at z;cases z
 ·have z:=I.base.m5 b ob u' q
  exact nx b _ z fun y=>by rw [y] at q;exact n _ _ q
 ·obtain ⟨m,z⟩:=I.base.oO b ps q
  exact ⟨m,nx b _ z fun y=>by rw [y,e] at z;cases z⟩
 ·obtain ⟨a1,a2,a3⟩:=I.pin p hp
  exact ⟨a1,nn _ a2,a3⟩
 ·have st:∀{b u'},bY X.prog X.w H s.heap b u' →bY X.prog X.w (upd H d u) s.heap b u' :=fun {b u'} k=>k.m4 (fun _ _ _ z=>z) (fun c z=>nx c _ z fun y=>by rw [y,e] at z;cases z) fun c xs z=>nx c _ z fun y=>by rw [y,e] at z;cases z
  intro b u' q
  by_cases hb:b=d
  ·subst hb
   rw [ag] at q
   cases q
   exact st (I.bh b _ e).2
  ·rw [aj hb] at q
   exact st (I.bh b u' q)
def OL (H0:Hp)(t:TS):TS:=fun D σ H=>t {D with nx:=fun σ' H' =>∃d o kvs,H' d=some (.bP o (.dK kvs))∧(∀o' u',H0 d≠some (.bP o' u'))∧D.nx σ' (upd H' d (.dK kvs))} σ H
theorem iE {st:Stmt}{t:TS}(h:PS X st t):PS X st (OL X.H₀ t):=by
 intro pins s σ H D I q
 refine wpAny_mono (h pins s σ H _ I q) (fun f s' z=> ?_) fun _ _ z=>z
 cases f with
 | next=>
  obtain ⟨σ',H',I',d,o,kvs,e,n,k⟩:=z
  exact ⟨σ',_,Inv.JS I' e n (fun _ z=>nomatch z),k⟩
 | brk=>exact z
 | cont=>exact z
 | ret u=>exact z
def OM (d:Addr)(o:Obj)(kvs:List (Key×V)):It:=
 ⟨fun i H=>H d=some (.bP o (.dK kvs))∧i < kvs.length,
  fun i H v H' =>H' =H∧∃k x,kvs[i]? =some (k,x)∧v=kV k,
  fun i H=>H d=some (.bP o (.dK kvs))∧kvs.length≤i⟩
theorem xQ {P:Program}{w:World}{K:Frag}{tg:Expr}(d it:Addr)(o:Obj)(kvs:List (Key×V)){uK:Array DictEntry}{ep:Nat}(he:o.data=.dict uK ep):
  Turn P w K tg (OM d o kvs) [it] it (fun i h=>h.IsKeyIter it d i kvs.length ep) where
 mem:=by simp
 obj:=fun i h st b hb=>by
  have e:b=it:=by simpa using hb
  subst e
  obtain ⟨o,e,c,d⟩:=st
  exact ⟨o,e,fun v z=>by rw [d] at z;cases z⟩
 keep:=fun i h h' st k=>st.at fun o e=>k it (by simp) o e
 item:=by
  intro X hP hw hK hc i pins s σ H E I hf st hg
  subst hP hw hK
  obtain ⟨fz,hi⟩:=hg
  obtain ⟨hd,vs,rel,da,_⟩:=jo I.bh fz he
  have ek:kvs[i]? =some kvs[i]:=gE hi
  obtain ⟨⟨k',u⟩,ev,e1,ru⟩:=aK rel ek
  have lv:=rel.length
  rw [lv] at st
  obtain ⟨f0,f1,f2,f3,f4,f5⟩:=hf it (by simp)
  refine wpAny_pyNext_dict_item st da ev fun key h' z6 mW sb=> ?_
  have I1:Inv X pins σ H {s with heap:=h' }:=I.turned (t' :=s.toks) (fun b o hb e=>(sb.2 b hb).trans e) f0 f1 f3 f4 f5
  rw [← lv] at mW
  obtain ⟨o',e',c',d'⟩:=id mW
  have xw :kvs[i].1=k' :=e1
  exact ⟨key,rfl,nQ (s:={s with heap:=h' }) e' c' d' (by decide) ⟨kV kvs[i].1,H,I1,by rw [xw];exact pR z6,⟨rfl,kvs[i].1,kvs[i].2,ek,rfl⟩,mW,fun b hb=>(hf b hb).1⟩⟩
 done:=by
  intro X hP hw hK hc i pins s σ H E I hf st hg
  subst hP hw hK
  obtain ⟨fz,hi⟩:=hg
  obtain ⟨hd,vs,rel,da,_⟩:=jo I.bh fz he
  have lv:=rel.length
  rw [lv] at st
  obtain ⟨f0,f1,f2,f3,f4,f5⟩:=hf it (by simp)
  exact wpAny_pyNext_dict_end (I.ok.hd hc) st da (ac_ (by omega)) fun h' eb=>⟨rfl,I.turned (t' :=s.toks) (fun b o hb e=>eb b o hb e) f0 f1 f3 f4 f5⟩
 self:=fun _ _ _ _ _ st h=>wpAny_pyIter_keyiter st h
inductive BF (R:(It→Hp→Prop))(x:V)(H1:Hp):Prop where
 | mk (d kvs:_) (_:x=.ref d) (_:H1 d=some (.dK kvs)) (_:∀o,R (OM d o kvs) (upd H1 d (.bP o (.dK kvs)))):BF R x H1
def ON (te:TE):TI:=fun σ H R=>te σ H fun x H1=>BF R x H1
theorem HK {e:Expr}{te:TE}{tg:Expr}(ho:PE X e te):PI X tg e (ON te):=by
 intro pins s σ H R I h
 refine bK (ho pins s σ H _ I h) fun v s1 ⟨x,H1,I1,r1,q1⟩=> ?_
 obtain ⟨d,kvs,rfl,e,q⟩:=q1
 cases r1
 obtain ⟨z,hd,vs,rel,o,EG,ep,rD,hx,dD,hk,hp,hn⟩:=lQ I1.bh e
 have da:s1.heap.DictAt (aV X.prog X.w) d vs ep:=⟨o,EG,rD,hx,dD,hk,hp,hn⟩
 have lv:=rel.length
 have I2:=Inv.freeze I1 e rD
 refine wpAny_pyIter_dict hd da ?_
 have I3:Inv X pins σ (upd H1 d (.bP o (.dK kvs))) {s1 with heap:=s1.heap.push {cls:=.type "dict_keyiterator",data:=.fields #[.ref d,.int 0 0,.int vs.length 0,.int ep 0]}}:=I2.kept (t' :=s1.toks) fun b o e=>Heap.get?_push_of_some _ e
 refine ⟨s1.heap.objs.size,[s1.heap.objs.size],_,_,_,rfl,I3,xQ d _ o kvs dD,(show Heap.IsKeyIter _ _ d 0 kvs.length ep from ⟨_,Heap.get?_push_size _ rfl,rfl,by rw [lv];rfl⟩),fun b hb=> ?_,q o⟩
 have eb:b=s1.heap.objs.size:=by simpa using hb
 have le:s1.heap.objs.size≤b:=by rw [eb];exact adf _
 exact I2.iq le (I2.bh.fresh le)
theorem BG {d:Addr}{o:Obj}{kvs:List (Key×V)}{g:TG}{tb:TS}{D:Ends}{σ:L2.St}{H:Hp}(Pv:Nat→L2.St→Hp→Prop)(h0:Pv 0 σ H)(hl:∀i σ H,i≤kvs.length→Pv i σ H→H d=some (.bP o (.dK kvs)))
  (hs:∀i k x σ H,kvs[i]? =some (k,x)→Pv i σ H→g (kV k) σ H fun σ2 H2=>tb {D with nx:=Pv (i+1),ct:=Pv (i+1),bk:=D.nx} σ2 H2) (hd:∀σ H,Pv kvs.length σ H→D.nx σ H):
  ∃W:Nat→Nat→L2.St→Hp→Prop,(∃m,W 0 m σ H)∧∀i m σ H,W i m σ H→
   ((OM d o kvs).stop i H∧D.nx σ H)∨((OM d o kvs).go i H∧∃N:L2.St→Hp→Prop,(∀σ' H',N σ' H' →∃m',m' < m∧W (i+1) m' σ' H')∧∀x H',(OM d o kvs).vJ i H x H' →g x σ H' fun σ2 H2=>tb {D with nx:=N,ct:=N,bk:=D.nx} σ2 H2):=by
 refine ⟨fun i m σ H=>m=kvs.length - i∧i≤kvs.length∧Pv i σ H,⟨kvs.length,by simp,adL _,h0⟩,?_⟩
 rintro i m σ H ⟨rfl,hi,p⟩
 have q:=hl i σ H hi p
 by_cases g7:i < kvs.length
 ·refine .inr ⟨⟨q,g7⟩,Pv (i+1),fun σ' H' z=>⟨kvs.length - (i+1),by omega,rfl,by omega,z⟩,fun x H' y=> ?_⟩
  obtain ⟨rfl,k,x',ek,rfl⟩:=y
  exact hs i k x' σ _ ek p
 ·have e:i=kvs.length:=by omega
  subst e
  exact .inl ⟨⟨q,adf _⟩,hd σ H p⟩
end
end Ty
set_option maxHeartbeats 4000000
namespace Ty
open PySem PySem.Spec PyProof.Rows L2
section
variable {prog:Program}{w:World}{KK:Type}[DecidableEq KK]{knd:KeyKind prog w KK}{A:Around}{E:Value→Shared→Prop}{s:Shared}
open MeetsSeq MeetsSeq2 MeetsSeq3 SeqRoads2 in
open MeetsSeq MeetsSeq2 MeetsSeq3 SeqRoads2 in
end
section
variable {X:Cx}
end
end Ty
set_option maxHeartbeats 4000000
namespace Ty
open PySem PySem.Spec PyProof.Rows L2
structure Lk (K:Frag)(x qual:Str)(st:Stmt)(f:Addr)(fd:FuncData):Prop where
 ex:∃(dV oc:Value) (od:Option Addr) (kV doc pm:Value) (an:Option Addr) (bj ct:Value) (kz:Array (Option Value)),
  fd=fnOf x qual (aw st) (av st) (af st) dV kV doc pm an bj ct∧K.lookup f=some ⟨oc,od,.func fd,kz⟩∧codeIn K bj qual=true
 kp:keepIn K (.ref f)=true
section
variable {P:Program}{w:World}{K:Frag}{mg:Str→Option Value}{base:Heap}{CX:i7}
theorem HL {x qual:Str}{st:Stmt}{f:Addr}{dV oc:Value}{od an:Option Addr}{kz:Array (Option Value)}{kV doc pm bj ct:Value}(l:K.lookup f=some ⟨oc,od,.func (fnOf x qual (aw st) (av st) (af st) dV kV doc pm an bj ct),kz⟩)
  (c:codeIn K bj qual=true) (k:keepIn K (.ref f)=true):Lk K x qual st f (fnOf x qual (aw st) (av st) (af st) dV kV doc pm an bj ct):=⟨⟨dV,oc,od,kV,doc,pm,an,bj,ct,kz,rfl,l,c⟩,k⟩
theorem cO {name qual:Str}{st:Stmt}{f:Addr}{fd:FuncData}{N ps:List Str}{k:Nat}{sp:Sp}(F:mX K name qual st f fd)(S:aC N ps (af st))(len:∀vs H Q E,sp vs H Q E→vs.length=ps.length)
  (iy:∀(bj:Value) (A:Around) (outer:List Env) (s:Shared) (H:Hp) (vs:List V) (Q:VK) (E:XK),bV k (A.deeper (envOfC qual (af st) s.heap.objs.size f bj))→sp vs H Q E→
   ∃t,PSs (cxr P w K mg base N qual (af st) f bj A outer s H E).vI (av st) t∧t {nx:=fun _ H' =>Q .cp H',rt:=Q} (start N vs) H):ck P w K mg base (aS P w) (k+1) f fd ps sp:=by
 obtain ⟨oc,od,kV,doc,pm,an,bj,ct,kz,rfl,lk,m6⟩:=F.ex
 exact vQ lk m6 S len fun A outer s H vs Q E hr ue=>by
  obtain ⟨t,h,q⟩:=iy bj A outer s H vs Q E hr ue
  exact ⟨t,h.vI,q⟩
theorem BH {name qual:Str}{st:Stmt}{f:Addr}{fd:FuncData}{N ps:List Str}{k:Nat}{sp:Sp}(F:Lk K name qual st f fd)(S:aC N ps (af st))(len:∀vs H Q E,sp vs H Q E→vs.length=ps.length)
  (iy:∀(bj:Value) (A:Around) (outer:List Env) (s:Shared) (H:Hp) (vs:List V) (Q:VK) (E:XK),bV k (A.deeper (envOfC qual (af st) s.heap.objs.size f bj))→sp vs H Q E→
   ∃t,PSs (cxr P w K mg base N qual (af st) f bj A outer s H E).vI (av st) t∧t {nx:=fun _ H' =>Q .cp H',rt:=Q} (start N vs) H):ck P w K mg base (aS P w) (k+1) f fd ps sp:=by
 obtain ⟨dV,oc,od,kV,doc,pm,an,bj,ct,kz,rfl,lk,m6⟩:=F.ex
 exact vQ lk m6 S len fun A outer s H vs Q E hr ue=>by
  obtain ⟨t,h,q⟩:=iy bj A outer s H vs Q E hr ue
  exact ⟨t,h.vI,q⟩
end
structure uO (P:Program)(w:World)(K:Frag)(mg:Str→Option Value)(base:Heap)(CX:i7)(k:Nat)(C:Addr)(m:Str)(ps:List Str)(ds:List Value)(sp:Sp):Prop where
 ex:∃(f:Addr) (fd:FuncData),ud K C∧Meth K C m f∧ck P w K mg base CX k f fd ps sp∧Binds K fd ps ds
section
variable {X:Cx}{CX:i7}{k:Nat}{E:XK}{m:Str}{pos apos:Pos}{e o:Expr}{es:List Expr}{ta:TE}{t:TA}
inductive BI (P:Program)(w:World)(K:Frag)(mg:Str→Option Value)(base:Heap)(CX:i7)(k:Nat)(m:Str)(E:XK)(t:TA)(σ:L2.St)(Q:VK)(x:V)(H1:Hp):Prop where
 | mk (a C dx fs ps sp:_) (_:x=.ref a) (_:H1 a=some (.ins C dx fs)) (_:fs.lookup m=none) (_:uO P w K mg base CX k C m ps [.none] sp) (_:t σ H1 fun vs H2=>sp (x::vs++[.cp]) H2 Q E):BI P w K mg base CX k m E t σ Q x H1
def OO (P:Program)(w:World)(K:Frag)(mg:Str→Option Value)(base:Heap)(CX:i7)(k:Nat)(m:Str)(E:XK)(ta:TE)(t:TA):TE:=fun σ H Q=>ta σ H fun x H1=>BI P w K mg base CX k m E t σ Q x H1
theorem HM {pl:Sem Bool}(he:PE X o ta)(hr:bV k X.A)(hx:Passes CX X E)(ha:PA X (e::es) t)
  (FV:starEach (e::es) X.env=(false,eval e X.env)::starEach es X.env:=by rfl) (vP:(backTo pos (starEach es X.env)).any (·.1)=false:=by rfl)
  (ht:eval (.Call (.Attribute o m apos) (e::es) [] pos) X.env=(do
   let ov ← eval o X.env
   standAt apos.atName
   let (f,first) ← holding [ov] (getMethod ov m pl)
   callWith pos f first (backTo pos (starEach (e::es) X.env)) (backToKw pos (keywordEach [] X.env))):=by rfl):
  PE X (.Call (.Attribute o m apos) (e::es) [] pos) (OO X.prog X.w X.K X.mg X.base CX k m E ta t):=by
 intro pins s σ H Q I h
 refine PySem.W.methodCall_KW (pl:=pl) (bK (he pins s σ H _ I h) fun u s1 ⟨x,H1,I1,rx,a,C,dx,fs,ps,sp,ex,ea,l,M,q⟩=> ?_) ht
 subst ex
 obtain rfl:u=Value.ref a:=rx
 obtain ⟨f,fd,c,hm,F,hb⟩:=M.ex
 refine g9 I1 ea c hm l ?_
 refine PySem.W.callWith_K (first:=[.ref a]) (h₀:=X.base) I.ok.mod.MY hm.kp (bK (ha pos pins s1 σ H1 _ I1 q) fun us s2 ⟨vs,H2,I2,r,q2⟩=>⟨I2.nN,?_⟩) FV vP
 exact oZ (us:=.ref a::us) (vs:=.ref a::vs) (dvs:=[.cp]) F hr hb (.cons rfl .nil) hx I2 (.cons rfl r) q2
end
theorem lZ {κ:Type}[DecidableEq κ]{k:κ}{v:V}:∀{kvs:List (κ×V)},bE kvs k=some v→(k,v)∈kvs
 | p::r,h=>by
  by_cases e:p.1=k
  ·rw [bf e] at h
   cases h
   subst e
   exact adh ..
  ·rw [a9 e] at h
   exact ade _ (lZ h)
theorem b6 {κ:Type}[DecidableEq κ]{k:κ}:∀{kvs:List (κ×V)},k∉kvs.map (·.1)→bE kvs k=none
 | [],_=>rfl
 | p::r,h=>by
  rw [ada,adz,not_or] at h
  rw [a9 (fun e=>h.1 e.symm)]
  exact b6 h.2
theorem ju {κ:Type}[DecidableEq κ]{k:κ}:∀{kvs:List (κ×V)},k∈kvs.map (·.1)→∃v,bE kvs k=some v
 | p::r,h=>by
  by_cases e:p.1=k
  ·exact ⟨_,bf e⟩
  ·rw [a9 e]
   rw [ada,adz] at h
   rcases h with h | h
   ·exact absurd h.symm e
   ·exact ju h
theorem ou {κ:Type}[DecidableEq κ]{kvs:List (κ×V)}{k:κ}{v:V}(P:κ→Prop)(h:∀kv∈kvs,P kv.1)(hk:P k):∀kv∈putK kvs k v,P kv.1:=by
 unfold putK
 split
 ·intro kv m
  obtain ⟨a,ha,e⟩:=ab_.mp m
  have:=h a ha
  by_cases z:a.1=k
  ·rw [if_pos z] at e;rw [← e];exact this
  ·rw [if_neg z] at e;rw [← e];exact this
 ·intro kv m
  rcases adq.mp m with m | m
  ·exact h kv m
  ·rw [adj] at m
   rw [m]
   exact hk
structure BJ (K:Frag)(C:Addr):Prop where
 cls:ud K C
 pl:d5 K C "pin_places"
 wy:d5 K C "pin_ways"
 br:d5 K C "bar_ends"
abbrev frF (pP pW pB:Addr):List (Str×V):=[("pin_places",.ref pP),("pin_ways",.ref pW),("bar_ends",.ref pB)]
abbrev Pt:=(Int×Int)×(Int×Int)
abbrev c7 (p:Pt):List Da:=[.t [.v (.int p.1.1),.v (.int p.1.2)],.t [.v (.int p.2.1),.v (.int p.2.2)]]
def bg (H H' :Hp):Prop:=∀b xs,Rd H b (.tup xs)→Rd H' b (.tup xs)
theorem bg.of {H H' :Hp}(s:au H H'):bg H H' :=fun b xs e=>by
 rcases e with e | ⟨o,e⟩
 ·exact .inl (s _ _ e)
 ·exact .inr ⟨o,s _ _ e⟩
theorem bg.trans {H H1 H2:Hp}(a:bg H H1)(b:bg H1 H2):bg H H2:=fun c xs e=>b c xs (a c xs e)
theorem bg.dict {H:Hp}{d:Addr}{kvs:List (Key×V)}{o:HO}(e:H d=some (.dK kvs)):bg H (upd H d o):=fun b xs r=>by
 rcases r with r | ⟨o,r⟩
 ·exact .inl (by rw [aj (fun z=>by rw [z,e] at r;cases r)];exact r)
 ·exact .inr ⟨o,by rw [aj (fun z=>by rw [z,e] at r;cases r)];exact r⟩
theorem bg.list {H:Hp}{d:Addr}{xs:List V}{o:HO}(e:H d=some (.lst xs)):bg H (upd H d o):=fun b xs r=>by
 rcases r with r | ⟨o,r⟩
 ·exact .inl (by rw [aj (fun z=>by rw [z,e] at r;cases r)];exact r)
 ·exact .inr ⟨o,by rw [aj (fun z=>by rw [z,e] at r;cases r)];exact r⟩
theorem bg.fK {K:Frag}{H H' :Hp}(s:bg H H'){p:Addr}{xs:List V}(q:bH K H p xs):bH K H' p xs:=by
 rcases q with q | q
 ·exact .inl (s _ _ q)
 ·exact .inr q
theorem jR.aJ {K:Frag}{H H' :Hp}{v:V}{q:Int×Int}(h:jR K H v q)(s:bg H H'):jR K H' v q:=by
 obtain ⟨p,e,k⟩:=h
 exact ⟨p,e,s.fK k⟩
def Spot (K:Frag)(H:Hp)(v:V)(p:Pt):Prop:=∃a u1 u2,v=.ref a∧bH K H a [u1,u2]∧jR K H u1 p.1∧jR K H u2 p.2
theorem Spot.aJ {K:Frag}{H H' :Hp}{v:V}{p:Pt}(h:Spot K H v p)(s:bg H H'):Spot K H' v p:=by
 obtain ⟨a,u1,u2,e,h1,h2,h3⟩:=h
 exact ⟨a,u1,u2,e,s.fK h1,h2.aJ s,h3.aJ s⟩
theorem v7 {K:Frag}{H:Hp}{v:V}{q:Int×Int}(h:jR K H v q):Is K H (.t [.v (.int q.1),.v (.int q.2)]) v:=by
 obtain ⟨p,rfl,e⟩:=h
 unfold Is
 refine ⟨p,_,rfl,e,?_⟩
 unfold hG
 refine ⟨by unfold Is;exact ⟨rfl,rfl⟩,?_⟩
 unfold hG
 refine ⟨by unfold Is;exact ⟨rfl,rfl⟩,?_⟩
 unfold hG
 trivial
theorem Spot.is {K:Frag}{H:Hp}{v:V}{p:Pt}(h:Spot K H v p):Is K H (.t (c7 p)) v:=by
 obtain ⟨a,u1,u2,rfl,h1,h2,h3⟩:=h
 unfold Is
 refine ⟨a,_,rfl,h1,?_⟩
 unfold hG
 refine ⟨v7 h2,?_⟩
 unfold hG
 refine ⟨v7 h3,?_⟩
 unfold hG
 trivial
theorem sL (p q:Pt):d_ (c7 p) (c7 q)=decide (p=q):=by
 have e:d_ (c7 p) (c7 q)=((p.1.1==q.1.1 && (p.1.2==q.1.2 && true)) && ((p.2.1==q.2.1 && (p.2.2==q.2.2 && true)) && true)):=by
  simp only [c7,d_,iB,m9]
 rw [e]
 obtain ⟨⟨a,b⟩,c,d⟩:=p
 obtain ⟨⟨a',b'⟩,c',d'⟩:=q
 by_cases h:a=a' <;> by_cases h1:b=b' <;> by_cases h2:c=c' <;> by_cases h3:d=d' <;> simp [h,h1,h2,h3,Prod.mk.injEq]
theorem jS (p q:Pt):ef (c7 p) (c7 q)=true:=by simp [c7,ef,alike]
theorem ow (p:Pt):ng (c7 p)≤60:=by simp [c7,ng,dep]
structure eK (K:Frag)(H:Hp)(C a dx pP pW pB:Addr)(ps:List (Str×Pt))(bs:List (Str×Str×Str))(kP kW kB:List (Key×V)):Prop where
 obj:H a=some (.ins C dx (frF pP pW pB))
 pl:H pP=some (.dK kP)
 wy:H pW=some (.dK kW)
 br:H pB=some (.dK kB)
 ne1:pP≠pW
 ne2:pP≠pB
 ne3:pW≠pB
 rp:Paired (fun (p:Str×Pt) (kv:Key×V)=>kv.1=.inr p.1∧Spot K H kv.2 p.2) ps kP
 rb:Paired (fun (b:Str×Str×Str) (kv:Key×V)=>kv.1=.inr b.1∧∃p,kv.2=.ref p∧Rd H p (.tup [.str b.2.1,.str b.2.2])) bs kB
section
variable {K:Frag}{H H' :Hp}{C a dx pP pW pB:Addr}{ps:List (Str×Pt)}{bs:List (Str×Str×Str)}{kP kW kB:List (Key×V)}
theorem eR {α:Type}{R:(Str×α)→(Key×V)→Prop}:∀{l:List (Str×α)} {kvs:List (Key×V)},Paired (fun b kv=>kv.1=.inr b.1∧R b kv) l kvs→kvs.map (·.1)=l.map (fun b=>(adU b.1:Key))
 | _,_,.nil=>rfl
 | _,_,.cons h t=>by rw [ada,ada,h.1,eR t]
theorem eT {l:List Str}{x:Str}:(adU x:Key)∈l.map (fun b=>(adU b:Key)) ↔ x∈l:=by
 constructor
 ·intro h
  obtain ⟨y,hy,e⟩:=ab_.mp h
  exact ad4 e▸hy
 ·exact fun h=>ab_.mpr ⟨x,h,rfl⟩
theorem eK.cI (R:eK K H C a dx pP pW pB ps bs kP kW kB)(s:bg H H')(h1:H' a=H a)(h2:H' pP=H pP)(h3:H' pW=H pW)(h4:H' pB=H pB):eK K H' C a dx pP pW pB ps bs kP kW kB:=
 ⟨h1.trans R.obj,h2.trans R.pl,h3.trans R.wy,h4.trans R.br,R.ne1,R.ne2,R.ne3,Paired.bZ R.rp fun _ _ h=>⟨h.1,h.2.aJ s⟩,Paired.bZ R.rb fun _ _ h=>⟨h.1,by obtain ⟨p,e,k⟩:=h.2;exact ⟨p,e,s _ _ k⟩⟩⟩
theorem eK.same (R:eK K H C a dx pP pW pB ps bs kP kW kB)(s:au H H'):eK K H' C a dx pP pW pB ps bs kP kW kB:=
 R.cI (.of s) ((s _ _ R.obj).trans R.obj.symm) ((s _ _ R.pl).trans R.pl.symm) ((s _ _ R.wy).trans R.wy.symm) ((s _ _ R.br).trans R.br.symm)
theorem eK.v_ (R:eK K H C a dx pP pW pB ps bs kP kW kB):kB.map (·.1)=(bs.map (·.1)).map (fun b=>(adU b:Key)):=by
 rw [eR R.rb,adC]
 rfl
theorem eK.wc (R:eK K H C a dx pP pW pB ps bs kP kW kB):kP.map (·.1)=(ps.map (·.1)).map (fun b=>(adU b:Key)):=by
 rw [eR R.rp,adC]
 rfl
theorem eK.bar (R:eK K H C a dx pP pW pB ps bs kP kW kB)(x:Str):(bE kB (.inr x)).isSome=decide (x∈bs.map (·.1)):=by
 by_cases h:x∈bs.map (·.1)
 ·obtain ⟨v,e⟩:=ju (kvs:=kB) (k:=.inr x) (by rw [R.v_];exact eT.mpr h)
  rw [e,decide_eq_true h]
  rfl
 ·rw [b6 (by rw [R.v_];exact fun z=>h (eT.mp z)),decide_eq_false h]
  rfl
theorem eK.pin (R:eK K H C a dx pP pW pB ps bs kP kW kB)(x:Str):(bE kP (.inr x)).isSome=decide (x∈ps.map (·.1)):=by
 by_cases h:x∈ps.map (·.1)
 ·obtain ⟨v,e⟩:=ju (kvs:=kP) (k:=.inr x) (by rw [R.wc];exact eT.mpr h)
  rw [e,decide_eq_true h]
  rfl
 ·rw [b6 (by rw [R.wc];exact fun z=>h (eT.mp z)),decide_eq_false h]
  rfl
theorem eK.ab (R:eK K H C a dx pP pW pB ps bs kP kW kB):a≠pP∧a≠pW∧a≠pB:=
 ⟨fun z=>(by have h:=R.obj;rw [z,R.pl] at h;cases h),fun z=>(by have h:=R.obj;rw [z,R.wy] at h;cases h),fun z=>(by have h:=R.obj;rw [z,R.br] at h;cases h)⟩
theorem eK.Ll (R:eK K H C a dx pP pW pB ps bs kP kW kB){x one other:Str}{t:Addr}(ht:Rd H t (.tup [.str one,.str other])):
  eK K (upd H pB (.dK (kB++[(.inr x,.ref t)]))) C a dx pP pW pB ps (bs++[(x,one,other)]) kP kW (kB++[(.inr x,.ref t)]):=by
 have s:bg H (upd H pB (.dK (kB++[(.inr x,.ref t)]))):=.dict R.br
 exact ⟨by rw [aj R.ab.2.2];exact R.obj,by rw [aj R.ne2];exact R.pl,by rw [aj R.ne3];exact R.wy,ag,R.ne1,R.ne2,R.ne3,Paired.bZ R.rp fun _ _ h=>⟨h.1,h.2.aJ s⟩,
  Paired.snoc (Paired.bZ R.rb fun _ _ h=>⟨h.1,by obtain ⟨p,e,k⟩:=h.2;exact ⟨p,e,s _ _ k⟩⟩) ⟨rfl,t,rfl,s _ _ ht⟩⟩
theorem eU {α β:Type}{R:α→β→Prop}:∀{l:List α} {m:List β},Paired R l m→Paired (fun b a=>R a b) m l
 | _,_,.nil=>.nil
 | _,_,.cons h t=>.cons h (eU t)
theorem eK.Lm (R:eK K H C a dx pP pW pB ps bs kP kW kB){x:Str}{p:Pt}{t:Addr}(ht:Spot K H (.ref t) p):
  eK K (upd H pP (.dK (kP++[(.inr x,.ref t)]))) C a dx pP pW pB (ps++[(x,p)]) bs (kP++[(.inr x,.ref t)]) kW kB:=by
 have s:bg H (upd H pP (.dK (kP++[(.inr x,.ref t)]))):=.dict R.pl
 exact ⟨by rw [aj R.ab.1];exact R.obj,ag,by rw [aj (adG R.ne1)];exact R.wy,by rw [aj (adG R.ne2)];exact R.br,R.ne1,R.ne2,R.ne3,
  Paired.snoc (Paired.bZ R.rp fun _ _ h=>⟨h.1,h.2.aJ s⟩) ⟨rfl,ht.aJ s⟩,Paired.bZ R.rb fun _ _ h=>⟨h.1,by obtain ⟨p,e,k⟩:=h.2;exact ⟨p,e,s _ _ k⟩⟩⟩
theorem eK.wd (R:eK K H C a dx pP pW pB ps bs kP kW kB)(sM :List (Key×V)):eK K (upd H pW (.dK sM)) C a dx pP pW pB ps bs kP sM kB:=by
 have s:bg H (upd H pW (.dK sM)):=.dict R.wy
 exact ⟨by rw [aj R.ab.2.1];exact R.obj,by rw [aj R.ne1];exact R.pl,ag,by rw [aj (adG R.ne3)];exact R.br,R.ne1,R.ne2,R.ne3,
  Paired.bZ R.rp fun _ _ h=>⟨h.1,h.2.aJ s⟩,Paired.bZ R.rb fun _ _ h=>⟨h.1,by obtain ⟨p,e,k⟩:=h.2;exact ⟨p,e,s _ _ k⟩⟩⟩
theorem xR (xs:List Str):(xs.map V.str).all gs=true:=by
 rw [amj,aj_]
 exact fun _ _=>rfl
theorem sN {x:Str}:∀(xs:List Str),N5 (.str x) (xs.map V.str)=decide (x∈xs)
 | []=>rfl
 | y::ys=>by
  have ih:=sN (x:=x) ys
  unfold N5 at ih ⊢
  rw [ada,aeL,ih]
  by_cases e:y=x
  ·subst e
   simp [m9]
  ·have e' :¬ x=y:=fun z=>e z.symm
   simp [m9,e,e']
end
end Ty
set_option maxHeartbeats 4000000
namespace Ty
open PySem PySem.Spec PyProof.Rows L2
open Builtin.Int (intBits)
def qr (r:Rat):Int×Int:=(r.num,(r.den:Int))
theorem b7 (r:Rat):0 < (qr r).2:=by
 have:=r.den_pos
 show (0:Int) < (r.den:Int)
 omega
theorem pS (r:Rat):adW (qr r).1 (qr r).2=1:=by
 have:=r.reduced
 show adW r.num (r.den:Int)=1
 unfold adW
 simpa [Nat.Coprime] using this
theorem eh (r:Rat):vl (qr r)=r:=by
 show (r.num:Rat) / ((r.den:Int):Rat)=r
 rw [← aml]
 exact amb r
theorem sO {q:Int×Int}(h:0 < q.2)(g:adW q.1 q.2=1):q=qr (vl q):=K' h (b7 _) g (pS _) (eh _).symm
theorem de {t b:Int}(h:b≠0):low t b=qr ((t:Rat) / (b:Rat)):=by
 rw [← jh h]
 exact sO (iA h) (kD h)
theorem h7 {a b:Rat}(h:qr a=qr b):a=b:=by
 rw [← eh a, ← eh b,h]
theorem l_ (i:Int):qr (i:Rat)=(i,1):=by
 have e:(i,(1:Int))=qr (vl (i,1)):=sO (by show (0:Int) < 1;decide) (by show adW i 1=1;simp)
 have v:vl (i,(1:Int))=(i:Rat):=by
  unfold vl
  show (i:Rat) / ((1:Int):Rat)=i
  have:((1:Int):Rat)=1:=by rfl
  rw [this]
  grind
 rw [e,v]
theorem sQ {r:Rat}:((qr r).2:Rat)≠0:=bW (adV (b7 r))
theorem Lo (a b:Rat):low ((qr a).1*(qr b).2+(qr b).1*(qr a).2) ((qr a).2*(qr b).2)=qr (a+b):=by
 have ha:=b7 a
 have hb:=b7 b
 rw [de (adV (aes ha hb))]
 have e1:=eh a
 have e2:=eh b
 have z1:=sQ (r:=a)
 have z2:=sQ (r:=b)
 unfold vl at e1 e2
 congr 1
 push_cast
 grind
theorem BK (a b:Rat):low ((qr a).1*(qr b).2 - (qr b).1*(qr a).2) ((qr a).2*(qr b).2)=qr (a - b):=by
 have ha:=b7 a
 have hb:=b7 b
 rw [de (adV (aes ha hb))]
 have e1:=eh a
 have e2:=eh b
 have z1:=sQ (r:=a)
 have z2:=sQ (r:=b)
 unfold vl at e1 e2
 congr 1
 push_cast
 grind
theorem Lp (a b:Rat):low ((qr a).1*(qr b).1) ((qr a).2*(qr b).2)=qr (a*b):=by
 have ha:=b7 a
 have hb:=b7 b
 rw [de (adV (aes ha hb))]
 have e1:=eh a
 have e2:=eh b
 have z1:=sQ (r:=a)
 have z2:=sQ (r:=b)
 unfold vl at e1 e2
 congr 1
 push_cast
 grind
structure Sz (k:Nat)(r:Rat):Prop where
 top:intBits (qr r).1≤k
 bot:intBits (qr r).2≤k
theorem Sz.up {k l:Nat}{r:Rat}(h:Sz k r)(kl:k≤l):Sz l r:=⟨adb h.top kl,adb h.bot kl⟩
theorem xS {a b:Int}{k:Nat}(ha:intBits a≤k)(hb:intBits b≤k):intBits (a+b)≤k+1:=by
 rw [intBits_le_iff] at ha hb ⊢
 have:=aeF a b
 rw [aeR]
 omega
theorem xT {a b:Int}{k:Nat}(ha:intBits a≤k)(hb:intBits b≤k):intBits (a - b)≤k+1:=by
 rw [intBits_le_iff] at ha hb ⊢
 have:=Int.natAbs_sub_le a b
 rw [aeR]
 omega
theorem uP {t b:Int}{k:Nat}(hb:b≠0)(h1:intBits t≤k)(h2:intBits b≤k):Sz k ((t:Rat) / (b:Rat)):=by
 rw [← jh hb]
 have e:=sO (iA (t:=t) hb) (kD hb)
 exact ⟨by rw [← e];exact intBits_le_of_natAbs (lF hb) h1,by rw [← e];exact intBits_le_of_natAbs (lG hb) h2⟩
theorem BL {t b:Int}{k:Nat}{r:Rat}(hb:b≠0)(e:low t b=qr r)(h1:intBits t≤k)(h2:intBits b≤k):Sz k r:=by
 have z:=de (t:=t) hb
 rw [z] at e
 have:=h7 e
 rw [← this]
 exact uP hb h1 h2
theorem Sz.add {k l:Nat}{a b:Rat}(ha:Sz k a)(hb:Sz l b):Sz (k+l+1) (a+b):=
 BL (adV (aes (b7 a) (b7 b))) (Lo a b) (xS (intBits_mul_le ha.top hb.bot) (by rw [alX];exact intBits_mul_le hb.top ha.bot)) (amm (intBits_mul_le ha.bot hb.bot))
theorem Sz.sub {k l:Nat}{a b:Rat}(ha:Sz k a)(hb:Sz l b):Sz (k+l+1) (a - b):=
 BL (adV (aes (b7 a) (b7 b))) (BK a b) (xT (intBits_mul_le ha.top hb.bot) (by rw [alX];exact intBits_mul_le hb.top ha.bot)) (amm (intBits_mul_le ha.bot hb.bot))
theorem Sz.mul {k l:Nat}{a b:Rat}(ha:Sz k a)(hb:Sz l b):Sz (k+l) (a*b):=
 BL (adV (aes (b7 a) (b7 b))) (Lp a b) (intBits_mul_le ha.top hb.top) (intBits_mul_le ha.bot hb.bot)
theorem uQ {i:Int}{k:Nat}(h:i.natAbs < 2^k)(hk:1≤k):Sz k (i:Rat):=by
 refine ⟨?_,?_⟩
 ·rw [l_]
  exact intBits_le_iff.mpr h
 ·rw [l_]
  refine intBits_le_iff.mpr ?_
  show 1 < 2^k
  exact Nat.one_lt_two_pow (by omega)
def fe (K:Frag)(H:Hp)(v:V)(r:Rat):Prop:=jR K H v (qr r)
def d0 (K:Frag)(H:Hp)(v:V)(p:Rat×Rat):Prop:=∃a u1 u2,v=.ref a∧bH K H a [u1,u2]∧fe K H u1 p.1∧fe K H u2 p.2
section
variable {K:Frag}{H H' :Hp}{v:V}{r:Rat}{p:Rat×Rat}
theorem fe.aJ (h:fe K H v r)(s:bg H H'):fe K H' v r:=jR.aJ h s
theorem fe.same (h:fe K H v r)(s:au H H'):fe K H' v r:=jR.same h s
theorem d0.aJ (h:d0 K H v p)(s:bg H H'):d0 K H' v p:=by
 obtain ⟨a,u1,u2,e,h1,h2,h3⟩:=h
 exact ⟨a,u1,u2,e,s.fK h1,h2.aJ s,h3.aJ s⟩
theorem d0.same (h:d0 K H v p)(s:au H H'):d0 K H' v p:=h.aJ (.of s)
abbrev sR (p:Rat×Rat):Pt:=(qr p.1,qr p.2)
theorem d0.OP (h:d0 K H v p):Spot K H v (sR p):=h
def gS (K:Frag)(H:Hp)(us:List V)(ps:List (Rat×Rat)):Prop:=Paired (d0 K H) us ps
theorem gS.aJ {us:List V}{ps:List (Rat×Rat)}(h:gS K H us ps)(s:bg H H'):gS K H' us ps:=Paired.bZ h fun _ _ z=>z.aJ s
theorem gS.same {us:List V}{ps:List (Rat×Rat)}(h:gS K H us ps)(s:au H H'):gS K H' us ps:=h.aJ (.of s)
end
section
variable {X:Cx}
theorem we {pins:List (Addr×Obj)}{σ:L2.St}{H:Hp}{s:Shared}{v:V}{p q:Rat×Rat}(I:Inv X pins σ H s)(h1:d0 X.K H v p)(h2:d0 X.K H v q):p=q:=by
 obtain ⟨a,u1,u2,rfl,t1,⟨b1,rfl,n1⟩,b2,rfl,n2⟩:=h1
 obtain ⟨a',w1,w2,e,t2,⟨c1,rfl,m1⟩,c2,rfl,m2⟩:=h2
 cases e
 cases I.fg t1 t2
 have e1:=I.fg n1 m1
 have e2:=I.fg n2 m2
 simp only [List.cons.injEq,V.int.injEq,and_true] at e1 e2
 exact alC (h7 (alC e1.1 e1.2)) (h7 (alC e2.1 e2.2))
def OQ (K:Frag)(neg:Bool):R2:=fun x y H Q=>∃p l us ps,y=.ref l∧aU K H l us∧d0 K H x p∧gS K H us ps∧Q (.bl (if neg then !decide (p∈ps) else decide (p∈ps))) H
theorem OR {pins:List (Addr×Obj)}{σ:L2.St}{H:Hp}{s:Shared}{A:Around}{x:V}{v:Value}{p:Rat×Rat}{us:List V}{its:List Value}{ps:List (Rat×Rat)}(I:Inv X pins σ H s)(hu:A.units+60 < cLine)(hx:d0 X.K H x p)(rx:RelV x v)(hp:gS X.K H us ps)(rv:Vals us its):
  ∃e:Value→Bool,(∀y,y∈its.toArray→SeqAt.EqAt A s y v (e y))∧its.toArray.any e=decide (p∈ps):=by
 have key:∀(j:Nat) (y:Value),its[j]? =some y→∃u q,us[j]? =some u∧ps[j]? =some q∧RelV u y∧d0 X.K H u q:=fun j y ey=>by
  obtain ⟨u,eu,ru⟩:=aK (eU rv) ey
  obtain ⟨q,eq,hq⟩:=aK hp eu
  exact ⟨u,q,eu,eq,ru,hq⟩
 refine ⟨fun y=> @decide (∃u q,RelV u y∧d0 X.K H u q∧q=p) (ad8 _),fun y hy=> ?_,?_⟩
 ·obtain ⟨j,hj,ey⟩:=ad9.mp (by simpa using hy:y∈its)
  obtain ⟨u,q,eu,eq,ru,hq⟩:=key j y (by rw [gE hj,ey])
  have z:=vU (A:=A) I (.t (c7 (sR q))) (.t (c7 (sR p))) u x y v hq.OP.is hx.OP.is (by unfold alike;exact jS _ _) ru rx (by have:=ow (sR q);unfold dep;simp only [c7,ng,dep] at this ⊢;omega)
  have e:iB (.t (c7 (sR q))) (.t (c7 (sR p)))= @decide (∃u q,RelV u y∧d0 X.K H u q∧q=p) (ad8 _):=by
   unfold iB
   rw [sL]
   by_cases c:q=p
   ·subst c
    rw [decide_eq_true rfl]
    symm
    exact @decide_eq_true _ (ad8 _) ⟨u,q,ru,hq,rfl⟩
   ·rw [decide_eq_false (fun z=>c (alC (h7 (congrArg ang z)) (h7 (congrArg anh z))))]
    symm
    refine @decide_eq_false _ (ad8 _) fun ⟨u',q',Wj,ja,e'⟩=> ?_
    obtain ⟨a,_,_,rfl,_⟩:=id hq
    obtain ⟨a',_,_,rfl,_⟩:=id ja
    have r1:y=Value.ref a:=ru
    have r2:y=Value.ref a' :=Wj
    rw [r1] at r2
    cases r2
    exact c ((we I hq ja).trans e')
  rw [e] at z
  exact z
 ·rw [aeA,decide_eq_true_iff]
  simp only [List.any_toArray,aex]
  constructor
  ·rintro ⟨y,hy,ey⟩
   obtain ⟨j,hj,ej⟩:=ad9.mp hy
   obtain ⟨u,q,eu,eq,ru,hq⟩:=key j y (by rw [gE hj,ej])
   obtain ⟨u',q',Wj,ja,e'⟩:= @of_decide_eq_true _ (ad8 _) ey
   obtain ⟨a,_,_,rfl,_⟩:=id hq
   obtain ⟨a',_,_,rfl,_⟩:=id ja
   have r1:y=Value.ref a:=ru
   have r2:y=Value.ref a' :=Wj
   rw [r1] at r2
   cases r2
   rw [← e', ← we I hq ja]
   exact aa_ eq
  ·intro hm
   obtain ⟨j,hj,ej⟩:=ad9.mp hm
   have lu:us.length=ps.length:=Paired.length hp
   have li:us.length=its.length:=rv.length
   have OS :j < its.length:=by omega
   refine ⟨its[j],aea OS,?_⟩
   obtain ⟨u,q,eu,eq,ru,hq⟩:=key j its[j] (gE OS)
   rw [gE hj,ej] at eq
   cases eq
   exact @decide_eq_true _ (ad8 _) ⟨u,p,ru,hq,rfl⟩
theorem HN (hu:X.A.units+64 < cLine):gW X (compareOp .In) (OQ X.K false):=by
 intro pins s σ H x y v u Q I rx ry h
 obtain ⟨p,l,us,ps,rfl,hq,hx,hp,q⟩:=h
 cases ry
 obtain ⟨its,rv,pl,hz⟩:=I.list hq
 obtain ⟨e,he,ea⟩:=OR (A:=X.A.in1) I (by rw [in1_units];omega) hx rx hp rv
 refine SeqAt.in_listAt e pl.isList he ⟨.bl _,H,I,rfl,?_⟩
 rw [ea]
 exact q
end
end Ty
set_option maxHeartbeats 4000000
namespace Ty
open PySem PySem.Spec PyProof.Rows L2
theorem fM {α:Type}{R:(Str×α)→(Key×V)→Prop}{x:Str}{y:α}:∀{l:List (Str×α)} {kvs:List (Key×V)},Paired (fun b kv=>kv.1=.inr b.1∧R b kv) l kvs→(l.map (·.1)).Nodup→(x,y)∈l→∃v,bE kvs (.inr x)=some v∧R (x,y) (.inr x,v)
 | _::_,kv::_,.cons h t,nd,m=>by
  rw [ada,adH] at nd
  rcases adz.mp m with e | m
  ·subst e
   have h1:kv.1=.inr x:=h.1
   refine ⟨kv.2,bf h1,?_⟩
   have h2:=h.2
   rw [← h1]
   exact h2
  ·obtain ⟨v,e,r⟩:=fM t nd.2 m
   refine ⟨v,?_,r⟩
   rw [a9 (fun z=> ?_)]
   ·exact e
   ·rw [h.1] at z
    exact nd.1 (ad4 z▸ab_.mpr ⟨_,m,rfl⟩)
def ug (K:Frag)(H:Hp)(pw:List (Str×List (Rat×Rat)))(kW:List (Key×V)):Prop:=
 Paired (fun (p:Str×List (Rat×Rat)) (kv:Key×V)=>kv.1=.inr p.1∧∃l us,kv.2=.ref l∧H l=some (.lst us)∧gS K H us p.2) pw kW
theorem ug.same {K:Frag}{H H' :Hp}{pw:List (Str×List (Rat×Rat))}{kW:List (Key×V)}(h:ug K H pw kW)(s:au H H'):ug K H' pw kW:=
 Paired.bZ h fun _ _ z=>⟨z.1,by obtain ⟨l,us,e1,e2,e3⟩:=z.2;exact ⟨l,us,e1,s _ _ e2,e3.same s⟩⟩
theorem ug.dict {K:Frag}{H:Hp}{pw:List (Str×List (Rat×Rat))}{kW kvs:List (Key×V)}{d:Addr}{o:HO}(h:ug K H pw kW)(e:H d=some (.dK kvs)):ug K (upd H d o) pw kW:=
 Paired.bZ h fun _ _ z=>⟨z.1,by
  obtain ⟨l,us,e1,e2,e3⟩:=z.2
  exact ⟨l,us,e1,by rw [aj (fun q=>by rw [q,e] at e2;cases e2)];exact e2,e3.aJ (.dict e)⟩⟩
theorem ug.keys {K:Frag}{H:Hp}{pw:List (Str×List (Rat×Rat))}{kW:List (Key×V)}(h:ug K H pw kW):kW.map (·.1)=(pw.map (·.1)).map (fun b=>(adU b:Key)):=by
 rw [eR h,adC]
 rfl
theorem eK.ends {K:Frag}{H:Hp}{C a dx pP pW pB:Addr}{ps:List (Str×Pt)}{bs:List (Str×Str×Str)}{kP kW kB:List (Key×V)}(R:eK K H C a dx pP pW pB ps bs kP kW kB)(nd:(bs.map (·.1)).Nodup){x one other:Str}(m:(x,one,other)∈bs):
  ∃p,bE kB (.inr x)=some (.ref p)∧Rd H p (.tup [.str one,.str other]):=by
 obtain ⟨v,e,p,ep,r⟩:=fM R.rb nd m
 have uq :v=.ref p:=ep
 exact ⟨p,by rw [e,uq],r⟩
theorem eK.place {K:Frag}{H:Hp}{C a dx pP pW pB:Addr}{ps:List (Str×Pt)}{bs:List (Str×Str×Str)}{kP kW kB:List (Key×V)}(R:eK K H C a dx pP pW pB ps bs kP kW kB)(nd:(ps.map (·.1)).Nodup){x:Str}{p:Pt}(m:(x,p)∈ps):
  ∃v,bE kP (.inr x)=some v∧Spot K H v p:=fM R.rp nd m
end Ty
namespace Ty
open PySem PySem.Spec PyProof.Rows L2
structure aF where
 nm:Str
 sp:Rat×Rat
 ws:List (Rat×Rat)
structure bu where
 nm:Str
 one:aF
 other:aF
structure wg (K:Frag)(H:Hp)(C a:Addr)(pins:List aF)(aq:List bu):Prop where
 ex:∃(dx pP pW pB:Addr) (kP kW kB:List (Key×V)),eK K H C a dx pP pW pB (pins.map fun p=>(p.nm,sR p.sp)) (aq.map fun b=>(b.nm,b.one.nm,b.other.nm)) kP kW kB∧ug K H (pins.map fun p=>(p.nm,p.ws)) kW
structure dN (pins:List aF)(aq:List bu):Prop where
 np:(pins.map (·.nm)).Nodup
 nb:(aq.map (·.nm)).Nodup
 ends:∀b∈aq,b.one∈pins∧b.other∈pins∧b.one.nm≠b.other.nm
 sz:∀p∈pins,Sz 24 p.sp.1∧Sz 24 p.sp.2∧∀w∈p.ws,Sz 22 w.1∧Sz 22 w.2
 lp:pins.length≤9
 lb:aq.length≤14
 lw:∀p∈pins,p.ws.length≤2
theorem wg.same {K:Frag}{H H' :Hp}{C a:Addr}{pins:List aF}{aq:List bu}(h:wg K H C a pins aq)(s:au H H'):wg K H' C a pins aq:=by
 obtain ⟨dx,pP,pW,pB,kP,kW,kB,R,W⟩:=h.ex
 exact ⟨dx,pP,pW,pB,kP,kW,kB,R.same s,W.same s⟩
def uR (K:Frag)(H:Hp)(kvs:List (Key×V))(F:Str→Option (Rat×Rat)):Prop:=
 ∀nm,(bE kvs (.inr nm)=none∧F nm=none)∨∃v p,bE kvs (.inr nm)=some v∧F nm=some p∧d0 K H v p
section
variable {K:Frag}{H H' :Hp}{kvs:List (Key×V)}
theorem uR.same {F:Str→Option (Rat×Rat)}(h:uR K H kvs F)(s:au H H'):uR K H' kvs F:=fun nm=>by
 rcases h nm with h | ⟨v,q,h1,h2,h3⟩
 ·exact .inl h
 ·exact .inr ⟨v,q,h1,h2,h3.same s⟩
theorem uR.OT {F:Str→Option (Rat×Rat)}(h:uR K H kvs F){x:Str}{v:V}{q:Rat×Rat}(n:d0 K H v q):d0 K H ((bE kvs (.inr x)).getD v) ((F x).getD q):=by
 rcases h x with ⟨h1,h2⟩ | ⟨u,q',h1,h2,h3⟩
 ·rw [h1,h2]
  exact n
 ·rw [h1,h2]
  exact h3
end
end Ty
namespace Ty
open PySem PySem.Spec PyProof.Rows L2
end Ty
namespace Ty
open PySem PySem.Spec PyProof.Rows L2
theorem Lq {α:Type}{nm:α→Str}{l:List α}(nd:(l.map nm).Nodup){b b' :α}(h:b∈l)(h' :b' ∈l)(e:nm b=nm b'):b=b' :=by
 obtain ⟨i,hi,ei⟩:=ad9.mp h
 obtain ⟨j,hj,ej⟩:=ad9.mp h'
 have q1:(l.map nm)[i]? =some (nm b):=by rw [ir,gE hi,ei];rfl
 have q2:(l.map nm)[j]? =some (nm b):=by rw [ir,gE hj,ej,e];rfl
 have ij:=(aeT (by rw [Wp];exact hi) nd).mp (q1.trans q2.symm)
 subst ij
 rw [← ei, ← ej]
theorem fq {α:Type}{nm:α→Str}{l:List α}(nd:(l.map nm).Nodup){i:Nat}{b b' :α}(h:l[i]? =some b)(m:b' ∈l.take i):nm b' ≠nm b:=fun e=>by
 have il:=(be.mp h).1
 obtain ⟨j,hj,ej⟩:=ad9.mp m
 rw [amn] at ej
 rw [adJ] at hj
 have q1:(l.map nm)[j]? =some (nm b):=by rw [ir,gE (by omega),ej, ← e];rfl
 have q2:(l.map nm)[i]? =some (nm b):=by rw [ir,h];rfl
 have:=(aeT (by rw [Wp];omega) nd).mp (q1.trans q2.symm)
 omega
theorem take_snoc {α:Type}{l:List α}{i:Nat}{b:α}(h:l[i]? =some b):l.take (i+1)=l.take i++[b]:=by rw [aeG,h];rfl
end Ty
namespace Ty
open PySem PySem.Spec PyProof.Rows L2
theorem ma {κ:Type}[DecidableEq κ]:∀{kvs:List (κ×V)} {t:Nat} {k:κ} {y:V},(kvs.map (·.1)).Nodup→kvs[t]? =some (k,y)→bE kvs k=some y
 | p::r,0,k,y,nd,e=>by
  cases e
  exact bf rfl
 | p::r,t+1,k,y,nd,e=>by
  rw [ada,adH] at nd
  have e' :r[t]? =some (k,y):=e
  rw [a9 (fun z=>nd.1 (z▸ab_.mpr ⟨_,aa_ e',rfl⟩))]
  exact ma nd.2 e'
theorem xU {xs:List Str}(h:xs.Nodup):(xs.map fun x=>(adU x:Key)).Nodup:=by
 unfold amc
 rw [ae_]
 exact List.Pairwise.imp (fun h e=>h (ad4 e)) h
end Ty
set_option maxHeartbeats 4000000
namespace Ty
open PySem PySem.Spec PyProof.Rows L2
theorem jv {H H' :Hp}(s:au H H'){p:Addr}(n:H' p=none):H p=none:=by
 cases e:H p with
 | none=>rfl
 | some o=>rw [s _ _ e] at n;cases n
end Ty
namespace Ty
open PySem PySem.Spec PyProof.Rows L2
section
variable {X:Cx}
end
section
variable {D:Addr}{te:TE}{cap:L2.St}{H1:Hp}{Q:VK}
end
end Ty
set_option maxHeartbeats 4000000
namespace Ty
open PySem PySem.Spec PyProof.Rows L2
abbrev eo (h:Heap)(z TI TO:Addr)(f0:Value)(fb:Bool):Prop:=
 h.get? z=some {cls:=.type "zip",dict:=none,data:=.fields #[f0,.bool fb,.bool false,.ref TI,.ref TO],slots:= #[]}
section
variable {prog:Program}{w:World}{A:Around}{E:Value→Shared→Prop}{s:Shared}
theorem sS {a:Addr}{o:Obj}{Q:Option Obj→Shared→Prop}(h:s.heap.get? a=some o)(q:Q (some o) s):wpAny (model prog w) A (loadIfAlive a) Q E s:=fun Γ p _=>by
 show Sem.wp _ _ (.loadIfAlive a .pure) _ _ _ _
 rw [Sem.wp_loadIfAlive,h]
 exact q
theorem sT {z TI TO T:Addr}{fb:Bool}{o:Obj}{Q:Bool→Shared→Prop}(hz:eo s.heap z TI TO (rawInt T) fb)(hT:s.heap.get? T=some o)
  (hQ:∀h',eo h' z TI TO (rawInt T) true→Heap.SameBut z s.heap h' →Q false {s with heap:=h' }):wpAny (model prog w) A (Builtin.SmallTypes.ownedTupleIsFree (.ref z)) Q E s:=by
 unfold Builtin.SmallTypes.ownedTupleIsFree
 refine wpAny_bind (wpAny_field hz rfl (x:=rawInt T) rfl ?_)
 show wpAny _ _ (loadIfAlive ((T:Int)).toNat >>=_) _ _ _
 refine wpAny_bind (sS (o:=o) (by simpa using hT) ?_)
 simp only [Option.isNone_some,aem,if_false]
 refine wpAny_bind (wpAny_field hz rfl (x:=.bool fb) rfl ?_)
 cases fb with
 | true=>
  show wpAny _ _ (if (Value.bool true !=Value.bool true)=true then _ else _) _ _ _
  rw [if_neg (by decide)]
  exact wpAny_pure (hQ s.heap hz ⟨rfl,fun _ _=>rfl⟩)
 | false=>
  show wpAny _ _ (if (Value.bool false !=Value.bool true)=true then _ else _) _ _ _
  rw [if_pos (by decide)]
  refine wpAny_bind (wpAny_setField_rec hz (by simp) fun h' Wk JK =>wpAny_pure (hQ h' Wk JK))
theorem xV {z TI TO T i1 i2 l1 l2:Addr}{fb:Bool}{o:Obj}{k1 k2:Nat}{xs ys:Array Value}{x y:Value}{Q:Value→Shared→Prop}(D:ZipApart z TI TO i1 i2 l1 l2)
  (hz:eo s.heap z TI TO (rawInt T) fb) (hT:s.heap.get? T=some o) (hJ:IsPair s.heap TI (.ref i1) (.ref i2))
  (h1:s.heap.IsListIter i1 l1 k1) (h2:s.heap.IsListIter i2 l2 k2) (wj:s.heap.IsList l1 xs) (uf:s.heap.IsList l2 ys) (hx:xs[k1]? =some x) (hy:ys[k2]? =some y)
  (hQ:∀h',eo h' z TI TO (rawInt T) true→h'.IsListIter i1 l1 (k1+1)→h'.IsListIter i2 l2 (k2+1)→IsPair h' s.heap.objs.size x y→h'.objs.size=s.heap.objs.size+1→
   (∀c o,c≠z→c≠i1→c≠i2→s.heap.get? c=some o→h'.get? c=some o)→Q (.ref s.heap.objs.size) {s with heap:=h' }):
  wpAny (model prog w) A (Builtin.«zip.__next__» ⟨[.ref z],[]⟩) (fun fin s' =>∃v,fin=.done (.ret v)∧Q v s') E s:=by
 show wpAny _ _ (field (.ref z) 2 >>=_) _ _ _
 refine wpAny_bind (wpAny_field hz rfl (x:=.bool false) rfl ?_)
 show wpAny _ _ (field (.ref z) 3 >>=_) _ _ _
 refine wpAny_bind (wpAny_field hz rfl (x:=.ref TI) rfl ?_)
 refine wpAny_bind (wpAny_seqItems hJ rfl ?_)
 show wpAny _ _ (Builtin.SmallTypes.ownedTupleIsFree (.ref z) >>=_) _ _ _
 refine wpAny_bind (sT hz hT fun h₁ hz₁ nq=> ?_)
 simp only [aem,if_false]
 refine wpAny_bind ?_
 show wpAny _ _ (forIn [Value.ref i1,Value.ref i2].toArray _ _) _ _ _
 rw [amd]
 simp only [amG,amO]
 refine wpAny_bind (wpAny_bind (wpAny_holding ?_))
 show wpAny _ _ (Builtin.SmallTypes.nextOf (.ref i1) >>=_) _ _ _
 refine wpAny_bind (wpAny_nextOf_list_item (h1.extBut nq.extBut D.i1z) (wj.extBut nq.extBut D.l1z) hx fun h₂ h1₂ BM=>wpAny_pure ?_)
 refine wpAny_pure ?_
 refine wpAny_bind (wpAny_bind (wpAny_holding ?_))
 show wpAny _ _ (Builtin.SmallTypes.nextOf (.ref i2) >>=_) _ _ _
 refine wpAny_bind (wpAny_nextOf_list_item ((h2.extBut nq.extBut D.i2z).extBut BM.extBut D.i12.symm) ((uf.extBut nq.extBut D.l2z).extBut BM.extBut D.l2i1) hy fun h₄ h2₄ M_=>wpAny_pure ?_)
 refine wpAny_pure (wpAny_pure ?_)
 refine wpAny_bind (wpAny_newTuple (hsz:=(by show 2≤sizeLine;decide)) ?_)
 have hsz:h₄.objs.size=s.heap.objs.size:=by rw [M_.1,BM.1,nq.1]
 refine wpAny_pure ⟨_,rfl,?_⟩
 have hz₄:eo h₄ z TI TO (rawInt T) true:=M_.extBut _ _ D.i2z.symm (BM.extBut _ _ D.i1z.symm hz₁)
 show Q (.ref h₄.objs.size) _
 rw [hsz]
 refine hQ _ (Heap.get?_push_of_some _ hz₄) ((h1₂.extBut M_.extBut D.i12).at fun o e=>Heap.get?_push_of_some _ e) (h2₄.at fun o e=>Heap.get?_push_of_some _ e) ?_ (by rw [Heap.size_push,hsz]) fun c o c1 c3 c4 e=>Heap.get?_push_of_some _ (M_.extBut _ _ c4 (BM.extBut _ _ c3 (nq.extBut _ _ c1 e)))
 show (h₄.push _).get? _=_
 rw [← hsz]
 exact Heap.get?_push_size _ rfl
theorem BN {z TI TO T i1 i2 l1 l2:Addr}{fb:Bool}{o:Obj}{k1 k2:Nat}{xs ys:Array Value}{Q:Fin→Shared→Prop}(hh:A.handled=none)(D:ZipApart z TI TO i1 i2 l1 l2)
  (hz:eo s.heap z TI TO (rawInt T) fb) (hT:s.heap.get? T=some o) (hJ:IsPair s.heap TI (.ref i1) (.ref i2))
  (h1:s.heap.IsListIter i1 l1 k1) (h2:s.heap.IsListIter i2 l2 k2) (wj:s.heap.IsList l1 xs) (uf:s.heap.IsList l2 ys) (xW:xs[k1]? =none∨ys[k2]? =none)
  (hE:∀h' e,(∀c o,c≠z→c≠i1→c≠i2→s.heap.get? c=some o→h'.get? c=some o)→(∃o,h'.get? e=some o∧o.cls=.type "StopIteration")→E (.ref e) {s with heap:=h' }):
  wpAny (model prog w) A (Builtin.«zip.__next__» ⟨[.ref z],[]⟩) Q E s:=by
 show wpAny _ _ (field (.ref z) 2 >>=_) _ _ _
 refine wpAny_bind (wpAny_field hz rfl (x:=.bool false) rfl ?_)
 show wpAny _ _ (field (.ref z) 3 >>=_) _ _ _
 refine wpAny_bind (wpAny_field hz rfl (x:=.ref TI) rfl ?_)
 refine wpAny_bind (wpAny_seqItems hJ rfl ?_)
 show wpAny _ _ (Builtin.SmallTypes.ownedTupleIsFree (.ref z) >>=_) _ _ _
 refine wpAny_bind (sT hz hT fun h₁ hz₁ nq=> ?_)
 simp only [aem,if_false]
 refine wpAny_bind ?_
 show wpAny _ _ (forIn [Value.ref i1,Value.ref i2].toArray _ _) _ _ _
 rw [amd]
 simp only [amG,amO]
 refine wpAny_bind (wpAny_bind (wpAny_holding ?_))
 show wpAny _ _ (Builtin.SmallTypes.nextOf (.ref i1) >>=_) _ _ _
 cases hx:xs[k1]? with
 | none=>
  refine wpAny_bind (wpAny_nextOf_list_end hh (h1.extBut nq.extBut D.i1z) (wj.extBut nq.extBut D.l1z) hx fun h₂ e BM he=> ?_)
  exact hE h₂ e (fun c o c1 c3 _ x=>BM _ _ c3 (nq.extBut _ _ c1 x)) he
 | some x=>
  have hy:ys[k2]? =none:=by rcases xW with h | h;rw [hx] at h;cases h;exact h
  refine wpAny_bind (wpAny_nextOf_list_item (h1.extBut nq.extBut D.i1z) (wj.extBut nq.extBut D.l1z) hx fun h₂ h1₂ BM=>wpAny_pure ?_)
  refine wpAny_pure ?_
  refine wpAny_bind (wpAny_bind (wpAny_holding ?_))
  show wpAny _ _ (Builtin.SmallTypes.nextOf (.ref i2) >>=_) _ _ _
  refine wpAny_bind (wpAny_nextOf_list_end hh ((h2.extBut nq.extBut D.i2z).extBut BM.extBut D.i12.symm) ((uf.extBut nq.extBut D.l2z).extBut BM.extBut D.l2i1) hy fun h₄ e M_ he=> ?_)
  exact hE h₄ e (fun c o c1 c3 c4 x=>M_ _ _ c4 (BM.extBut _ _ c3 (nq.extBut _ _ c1 x))) he
theorem uS {z TI TO T i1 i2 l1 l2:Addr}{fb:Bool}{o:Obj}{k1 k2:Nat}{xs ys:Array Value}{x y:Value}{Q:Option Value→Shared→Prop}(D:ZipApart z TI TO i1 i2 l1 l2)
  (hz:eo s.heap z TI TO (rawInt T) fb) (hT:s.heap.get? T=some o) (hJ:IsPair s.heap TI (.ref i1) (.ref i2))
  (h1:s.heap.IsListIter i1 l1 k1) (h2:s.heap.IsListIter i2 l2 k2) (wj:s.heap.IsList l1 xs) (uf:s.heap.IsList l2 ys) (hx:xs[k1]? =some x) (hy:ys[k2]? =some y)
  (hQ:∀h',eo h' z TI TO (rawInt T) true→h'.IsListIter i1 l1 (k1+1)→h'.IsListIter i2 l2 (k2+1)→IsPair h' s.heap.objs.size x y→h'.objs.size=s.heap.objs.size+1→
   (∀c o,c≠z→c≠i1→c≠i2→s.heap.get? c=some o→h'.get? c=some o)→Q (some (.ref s.heap.objs.size)) {s with heap:=h' }):
  wpAny (model prog w) A (pyNext (.ref z)) Q E s:=by
 have OU :s.TypeIs (.ref z) "zip":=⟨_,hz,rfl⟩
 unfold pyNext
 exact wpAny_bind (wpAny_attempt (wpAny_callSpecial?_slot (name:=Str.ofString "__next__") OU F.slot_zip_next
  (wpAny_call_entry F.slot_zip_next OU F.entry_zip_next
   (xV D hz hT hJ h1 h2 wj uf hx hy fun h' a1 a3 a4 a5 a6 a7=>wpAny_pure (hQ h' a1 a3 a4 a5 a6 a7)) (F.args_zip_next_1 _))))
theorem xX {z TI TO T i1 i2 l1 l2:Addr}{fb:Bool}{o:Obj}{k1 k2:Nat}{xs ys:Array Value}{Q:Option Value→Shared→Prop}(hh:A.handled=none)(D:ZipApart z TI TO i1 i2 l1 l2)
  (hz:eo s.heap z TI TO (rawInt T) fb) (hT:s.heap.get? T=some o) (hJ:IsPair s.heap TI (.ref i1) (.ref i2))
  (h1:s.heap.IsListIter i1 l1 k1) (h2:s.heap.IsListIter i2 l2 k2) (wj:s.heap.IsList l1 xs) (uf:s.heap.IsList l2 ys) (xW:xs[k1]? =none∨ys[k2]? =none)
  (hQ:∀h',(∀c o,c≠z→c≠i1→c≠i2→s.heap.get? c=some o→h'.get? c=some o)→Q none {s with heap:=h' }):wpAny (model prog w) A (pyNext (.ref z)) Q E s:=by
 have OU :s.TypeIs (.ref z) "zip":=⟨_,hz,rfl⟩
 unfold pyNext
 refine wpAny_bind (wpAny_attempt (wpAny_callSpecial?_slot (name:=Str.ofString "__next__") OU F.slot_zip_next
  (wpAny_call_entry F.slot_zip_next OU F.entry_zip_next (BN hh D hz hT hJ h1 h2 wj uf xW fun h' e hk he=> ?_) (F.args_zip_next_1 _))))
 obtain ⟨o,ho,hc⟩:=he
 refine wpAny_bind (wpAny_isInstance (T:="StopIteration") (b:=true) ⟨o,ho,hc⟩ isSubtype_stop ?_)
 exact wpAny_pure (hQ _ hk)
end
def EH (h:Heap)(z TI TO i1 i2 a b S:Addr)(i:Nat):Prop:=(eo h z TI TO .none false∨∃(T:Addr) (o:Obj) (fb:Bool),eo h z TI TO (rawInt T) fb∧h.get? T=some o∧T≠z∧T≠TO∧T≠i1∧T≠i2∧T≠S)∧IsPair h TI (.ref i1) (.ref i2)∧(∃x y,IsPair h TO x y)∧h.IsListIter i1 a i∧h.IsListIter i2 b i
section
variable {prog:Program}{w:World}{A:Around}{E:Value→Shared→Prop}{s:Shared}{z TI TO i1 i2 a b S:Addr}{i:Nat}
theorem EH.frame {h h' :Heap}(st:EH h z TI TO i1 i2 a b S i)(k:∀c o,c≠S→h.get? c=some o→h'.get? c=some o)(nz:z≠S)(n1:TI≠S)(n2:TO≠S)(n3:i1≠S)(n4:i2≠S):EH h' z TI TO i1 i2 a b S i:=by
 obtain ⟨hz,hJ,⟨x,y,oh⟩,h1,h2⟩:=st
 refine ⟨?_,k _ _ n1 hJ,⟨x,y,k _ _ n2 oh⟩,h1.at fun o e=>k _ o n3 e,h2.at fun o e=>k _ o n4 e⟩
 rcases hz with hz | ⟨T,o,fb,hz,hT,t1,t2,t3,t4,t5⟩
 ·exact .inl (k _ _ nz hz)
 ·exact .inr ⟨T,o,fb,k _ _ nz hz,k _ _ t5 hT,t1,t2,t3,t4,t5⟩
theorem EH.item {oS:Obj}{xs ys:Array Value}{x y:Value}{Q:Option Value→Shared→Prop}(D:ZipApart z TI TO i1 i2 a b)(st:EH s.heap z TI TO i1 i2 a b S i)(hS:s.heap.get? S=some oS)
  (wj:s.heap.IsList a xs) (uf:s.heap.IsList b ys) (hx:xs[i]? =some x) (hy:ys[i]? =some y)
  (hQ:∀h',EH h' z TI TO i1 i2 a b S (i+1)→IsPair h' s.heap.objs.size x y→(∀c o,c∉[z,TI,TO,i1,i2]→s.heap.get? c=some o→h'.get? c=some o)→Q (some (.ref s.heap.objs.size)) {s with heap:=h' }):
  wpAny (model prog w) A (pyNext (.ref z)) Q E s:=by
 obtain ⟨hz,hJ,⟨x0,y0,oh⟩,h1,h2⟩:=st
 have lt:∀{c o},s.heap.get? c=some o→s.heap.objs.size≠c:=fun e=>alx (Heap.lt_size e)
 have e1:∃o,s.heap.get? i1=some o:=by obtain ⟨o,e,_⟩:=h1;exact ⟨o,e⟩
 have e2:∃o,s.heap.get? i2=some o:=by obtain ⟨o,e,_⟩:=h2;exact ⟨o,e⟩
 obtain ⟨o1,e1⟩:=e1
 obtain ⟨o2,e2⟩:=e2
 have OV:∀{c:Addr},c∉[z,TI,TO,i1,i2]→c≠z∧c≠TI∧c≠TO∧c≠i1∧c≠i2:=fun h=>by simpa using h
 rcases hz with hz | ⟨T,o,fb,hz,hT,t1,t2,t3,t4,t5⟩
 ·refine wpAny_pyNext_zip_item D hz hJ oh h1 h2 wj uf hx hy fun h' a1 a2 a3 a4 a5 a6 a7=> ?_
  refine hQ h' ⟨.inr ⟨_,_,false,a1,a5,lt hz,lt oh,lt e1,lt e2,lt hS⟩,a7 _ _ D.TIz D.TITO D.TIi1 D.TIi2 hJ,⟨_,_,a2⟩,a3,a4⟩ a5 fun c o hc e=> ?_
  obtain ⟨c1,c2,c3,c4,c5⟩:=OV hc
  exact a7 c o c1 c3 c4 c5 e
 ·refine uS D hz hT hJ h1 h2 wj uf hx hy fun h' a1 a3 a4 a5 a6 a7=> ?_
  refine hQ h' ⟨.inr ⟨T,o,true,a1,a7 _ _ t1 t3 t4 hT,t1,t2,t3,t4,t5⟩,a7 _ _ D.TIz D.TIi1 D.TIi2 hJ,⟨_,_,a7 _ _ D.TOz D.TOi1 D.TOi2 oh⟩,a3,a4⟩ a5 fun c o hc e=> ?_
  obtain ⟨c1,c2,c3,c4,c5⟩:=OV hc
  exact a7 c o c1 c4 c5 e
theorem EH.fin {xs ys:Array Value}{Q:Option Value→Shared→Prop}(hh:A.handled=none)(D:ZipApart z TI TO i1 i2 a b)(st:EH s.heap z TI TO i1 i2 a b S i)
  (wj:s.heap.IsList a xs) (uf:s.heap.IsList b ys) (xW:xs[i]? =none∨ys[i]? =none)
  (hQ:∀h',(∀c o,c∉[z,TI,TO,i1,i2]→s.heap.get? c=some o→h'.get? c=some o)→Q none {s with heap:=h' }):wpAny (model prog w) A (pyNext (.ref z)) Q E s:=by
 obtain ⟨hz,hJ,⟨x0,y0,oh⟩,h1,h2⟩:=st
 have OV:∀{c:Addr},c∉[z,TI,TO,i1,i2]→c≠z∧c≠TI∧c≠TO∧c≠i1∧c≠i2:=fun h=>by simpa using h
 rcases hz with hz | ⟨T,o,fb,hz,hT,t1,t2,t3,t4,t5⟩
 ·refine wpAny_pyNext_zip_end hh D hz hJ oh h1 h2 wj uf xW fun h' kk=>hQ h' fun c o hc e=> ?_
  obtain ⟨c1,c2,c3,c4,c5⟩:=OV hc
  exact kk c o c1 c3 c4 c5 e
 ·refine xX hh D hz hT hJ h1 h2 wj uf xW fun h' kk=>hQ h' fun c o hc e=> ?_
  obtain ⟨c1,c2,c3,c4,c5⟩:=OV hc
  exact kk c o c1 c4 c5 e
end
end Ty
namespace Ty
open PySem PySem.Spec PyProof.Rows L2
section
variable {X:Cx}{pins:List (Addr×Obj)}{σ:L2.St}
theorem xY {H:Hp}{p:Addr}(h:H p=none)(o:HO):au H (upd H p o):=fun b u q=>by rw [aj (ao q h)];exact q
end
end Ty
set_option maxHeartbeats 4000000
namespace Ty
open PySem PySem.Spec PyProof.Rows L2
section
variable {X:Cx}
section
variable {k:Nat}{m:Str}{pos apos:Pos}{e o:Expr}{es:List Expr}{ta:TE}{t:TA}
end
end
section
variable {P:Program}{w:World}{K:Frag}{mg:Str→Option Value}{base:Heap}
end
end Ty
set_option maxHeartbeats 4000000
namespace Ty
open PySem PySem.Spec PyProof.Rows L2
theorem HP (l:Addr)(its:Array Value)(n:Nat)(b:Addr)(cX:Array Value)(n2:Nat)(d:Option Addr)(sl:Array (Option Value))(hs0:¬(!its.isEmpty && Builtin.List.listTooLong (its.size+cX.size))=true)(hs1:its.size≤sizeLine)(ED:its.size+cX.size≤sizeLine+1):
  Meets (Builtin.«list.extend» ⟨[.ref l,.ref b],[]⟩) (fun _ R s=>s.heap.get? l=some {cls:=.type "list",dict:=none,data:=.seq its n,slots:= #[]}∧s.heap.get? b=some {cls:=.type "tuple",dict:=d,data:=.seq cX n2,slots:=sl}∧
   R (.ok (.ret Value.none)) {s with heap:=s.heap.update l (Obj.mapSeq fun x=>x++cX),toks:=s.toks}):=
 .of_wp fun prog w A R s h=>by
  obtain ⟨hp,g,dd,tk,os⟩:=s
  obtain ⟨hl,hb,h⟩:=h
  have f1:=AutoSeq1.idx_int
  have f2:=AutoSeq1.sub_tuple_tuple
  have f3:=AutoSeq1.sub_list_list
  have f4:=AutoSeq1.sub_tuple_list
  have f5:=AutoSeq1.sub_list_tuple
  have Wk :(its++cX).size≤sizeLine+1:=by rw [Array.size_append];exact ED
  wp_walk using (wpAny_updateSeq hl rfl (hz:=hs1) (_hz' :=Wk)),wpAny_loadPart' hl,wpAny_loadPart' hb
  exact ⟨_,rfl,h⟩
section
variable {X:Cx}
def OW (K:Frag):V→List V→Hp→VK→Prop:=fun x vs H Q=>∃l b xs zs,x=.ref l∧vs=[.ref b]∧H l=some (.lst xs)∧bH K H b zs∧xs.length+zs.length≤1000∧Q .cp (upd H l (.lst (xs++zs)))
theorem HQ:MtR X "list.extend" (OW X.K):=by
 intro pins s σ H x vs v us Q I rx rv h
 obtain ⟨l,b,xs,zs,rfl,rfl,hH,hB,hz,q⟩:=h
 cases rx
 obtain ⟨u,rfl,ru⟩:=rv.one
 cases ru
 obtain ⟨z,its,n,r,hl,e⟩:=I.jb hH
 obtain ⟨cX,r2,tp,z2⟩:=I.tuple hB
 have uf:=r2.length
 have big:(1000:Nat)≤sizeLine:=by decide
 have hsz:its.toArray.size+cX.toArray.size≤sizeLine:=by rw [adt,adt];omega
 have rR:¬ (!its.toArray.isEmpty && Builtin.List.listTooLong (its.toArray.size+cX.toArray.size))=true:=by
  rw [lD hsz,alA]
  exact ads
 obtain ⟨⟨c,d,dt,sl⟩,e2,hc,n2,hd⟩:=tp
 obtain rfl:c=Value.type "tuple":=hc
 obtain rfl:dt=_:=hd
 refine call_meets F.slot_list_extend ⟨_,e,rfl⟩ F.entry_list_extend (F.args_list_extend_2 _ _)
  (HP l its.toArray n b cX.toArray n2 d sl rR (by rw [adt];omega) (by omega)) ⟨e,e2,?_⟩
 refine ⟨.cp,_,I.K0 (its' :=its++cX) hH e (by simp) (r.append r2) ?_,rfl,q⟩
 rw [adp]
 omega
end
end Ty
set_option maxHeartbeats 4000000
namespace Ty
open PySem PySem.Spec PyProof.Rows L2
theorem pT:typeLookup (.type "zip") "__getattr__"=pure none:=by rw [typeLookup_type,builtinLookup_eq_fast];kernel_rfl
theorem xZ:typeLookup (.type "zip") "keys"=pure none:=by rw [typeLookup_type,builtinLookup_eq_fast];kernel_rfl
theorem uT:entryFor table "zip.__getattribute__"=some Builtin.«object.__getattribute__»:=
 entryFor_alias (id' :="object.__getattribute__") (by kernel_rfl) (by decide+kernel) (by decide+kernel) (by kernel_rfl)
theorem jT:entryFor table "dict.update.loop"=some Builtin.«dict.update.loop»:=entryFor_of_tree (by kernel_rfl)
theorem eV:plainId "dict.update.loop"=true:=by decide+kernel
theorem BO (a:Addr)(vs:Array Value)(u:Tok):
  Meets (Builtin.«object.__getattribute__» ⟨[.ref a,.str "keys" u],[]⟩) (fun A R s=>s.heap.get? a=some {cls:=.type "zip",dict:=none,data:=.fields vs,slots:= #[]}∧raisesAttr (.ref a) "keys" A R s):=
 Meets.of_wp fun prog w A R s hs=>by
  obtain ⟨hp,g,d,tk,os⟩:=s
  obtain ⟨hx,hs⟩:=hs
  have hT:(⟨hp,g,d,tk,os⟩:Shared).TypeIs (.ref a) "zip":=⟨_,hx,rfl⟩
  have hm:=xZ
  unfold Builtin.«object.__getattribute__»
  repeat (any_goals (first | (assumption) | wp_step))
  exact wpAny_raiseAttrError hs.1 hs.2 (attrMsg_fits (by decide+kernel) (by decide+kernel))
section
variable {prog:Program}{w:World}{A:Around}{E:Value→Shared→Prop}{s:Shared}
theorem sU {z:Addr}{vs:Array Value}{Q:Option Value→Shared→Prop}(hx:s.heap.get? z=some {cls:=.type "zip",dict:=none,data:=.fields vs,slots:= #[]})(hA:A.handled=none)
  (h:∀h' tk,(∀b o,s.heap.get? b=some o→h'.get? b=some o)→Q none {s with heap:=h',toks:=tk}):wpAny (model prog w) A (getAttr? (.ref z) "keys") Q E s:=by
 obtain ⟨hp,g,d,tk,os⟩:=s
 have hT:∀tk',(⟨hp,g,d,tk',os⟩:Shared).TypeIs (.ref z) "zip":=fun _=>⟨_,hx,rfl⟩
 have f1:=sub_AttributeError
 have f3:=F.slot_zip_getattribute.lookup
 have f4:=F.slot_zip_getattribute.bind (.ref z)
 have f5:=pT
 unfold getAttr? getAttrBy? getAttrBy
 repeat (any_goals (first | (assumption) | exact hT _ | ((with_reducible show wpAny _ _ (call (Value.builtin "zip.__getattribute__") _ _) _ _ _);refine call_meets F.slot_zip_getattribute (hT _) uT (F.args_zip_getattribute_2 _ _) (BO z vs _) ⟨hx,hA,fun h' tk' e rC => ?_⟩) | wp_step))
 obtain ⟨t',u',he⟩:=rC.there
 show wpAny _ _ (getattributeRaised _ _ _ _ _ _ _) _ _ _
 unfold getattributeRaised
 repeat (any_goals (first | (assumption) | wp_step))
 exact h _ _ rC.keeps
end
end Ty
set_option maxHeartbeats 4000000
namespace Ty
open PySem PySem.Spec PyProof.Rows L2
section
variable {prog:Program}{w:World}{A:Around}{E:Value→Shared→Prop}{s:Shared}
theorem nu {z TI TO:Addr}{f0:Value}{Q:Value→Shared→Prop}(hA:A.in1.in1.handled=none)(hz:IsZip s.heap z TI TO f0)
  (hL:∀(h' :Heap) (tk:Nat) (R:Result→Shared→Prop),(∀b o,s.heap.get? b=some o→h'.get? b=some o)→h'.get? s.heap.objs.size=some {cls:=.type "dict",data:=.dict #[]}→
   (∀s',Q (.ref s.heap.objs.size) s' →R (.ok (.ret .none)) s')→codeAny (model prog w) A.in1 (.builtin "dict.update.loop" ⟨[.ref s.heap.objs.size,.ref z,rawInt 0,.none],[]⟩) R {s with heap:=h',toks:=tk}):
  wpAny (model prog w) A (call (.type "dict") [.ref z]) Q E s:=by
 refine callType_codes (Q₁:=fun obj s₁=>obj=.ref s.heap.objs.size∧s₁={s with heap:=s.heap.push {cls:=.type "dict",data:=.dict #[]}}) F.kt_called_dict (F.kt_typeCall_dict_1 _) F.entry_dict_init (kt_code_dict_new _ ⟨rfl,rfl⟩) ?_
 rintro obj s₁ ⟨rfl,rfl⟩
 have hS:(s.heap.push {cls:=.type "dict",data:=.dict #[]}).get? s.heap.objs.size=some {cls:=.type "dict",data:=.dict #[]}:=Heap.get?_push_size _ rfl
 have k0:∀b o,s.heap.get? b=some o→(s.heap.push {cls:=.type "dict",data:=.dict #[]}).get? b=some o:=fun b o e=>Heap.get?_push_of_some _ e
 generalize hN:s.heap.objs.size=S at hS hL ⊢
 generalize s.heap.push {cls:=.type "dict",data:=.dict #[]}=hp at hS k0 ⊢
 have OX:hp.get? z=_:=k0 _ _ hz
 have hTS:Shared.TypeIs {s with heap:=hp} (.ref S) "dict":=⟨_,hS,rfl⟩
 have hT:Shared.TypeIs {s with heap:=hp} (.ref z) "zip":=⟨_,OX,rfl⟩
 refine ⟨hTS,F.args_dict_init_2 _ _,?_⟩
 unfold Builtin.«dict.__init__»
 refine wpAny_bind ?_
 unfold Builtin.Dict.selfAndRest
 refine wpAny_bind (wpAny_notOrdered_dict hTS ?_)
 refine wpAny_pure ?_
 show wpAny _ _ (Builtin.Dict.updateFrom "dict.__init__" S (.ref z) [] .none) _ _ _
 unfold Builtin.Dict.updateFrom
 refine wpAny_bind (wpAny_typeOf hT ?_)
 rw [if_pos (by decide)]
 refine wpAny_bind (sU (s:={s with heap:=hp}) OX hA fun h' tk k1=> ?_)
 rw [if_pos (by rfl)]
 refine wpAny_bind (wpAny_rule ?_)
 have hz3:IsZip h' z TI TO f0:=k1 _ _ OX
 refine wpAny_bind (wpAny_pyIter_zip (s:={s with heap:=h',toks:=tk}) hz3 ?_)
 exact wpAny_pure ⟨plainId_quiet eV _,hL _ _ _ (fun b o e=>k1 _ _ (k0 _ _ e)) (k1 _ _ hS) fun s' hq=>⟨rfl,hq⟩⟩
end
section
variable {X:Cx}{pins:List (Addr×Obj)}{σ:L2.St}
theorem sV (kvs more:List (Key×V))(kv:Key×V):bM kvs (more++[kv])=putK (bM kvs more) kv.1 kv.2:=by
 unfold bM
 rw [List.foldl_append]
 rfl
theorem Lr {z TI TO i1 i2 a b S:Addr}{A' :Around}{R:Result→Shared→Prop}{ks:List Key}{ys:List V}{H0:Hp}(hh:A'.in1.handled=none)(D:ZipApart z TI TO i1 i2 a b)(na:a≠S)(nb:b≠S)(hk1:ks.length≤1000):
  ∀(k i:Nat) (s:Shared) (H:Hp),min ks.length ys.length - i=k→i≤min ks.length ys.length→Inv X pins σ H s→(∀c∈[z,TI,TO,i1,i2],i9 X pins H c)→EH s.heap z TI TO i1 i2 a b S i→
  H a=some (.lst (ks.map kV))→H b=some (.lst ys)→H S=some (.dK (bM [] ((ks.zip ys).take i)))→aH S H0 H→
  (∀s' H',Inv X pins σ H' s' →aH S H0 H' →H' S=some (.dK (bM [] (ks.zip ys)))→R (.ok (.ret .none)) s')→
  codeAny (model X.prog X.w) A' (.builtin "dict.update.loop" ⟨[.ref S,.ref z,rawInt (i:Int),.none],[]⟩) R s:=by
 have ams:(ks.zip ys).length=min ks.length ys.length:=List.length_zip
 intro k
 induction k with
 | zero=>
  intro i s H hk hi I hf st ha hb hS JT hR
  refine codeAny_builtin jT ?_
  rw [Around.under_plainId eV _]
  show wpAny _ A'.in1 (pyNext (.ref z) >>=_) _ _ s
  obtain ⟨z1,its,n1,r1,l1,e1⟩:=I.jb ha
  obtain ⟨z2,Ov,n2,r2,l2,e2⟩:=I.jb hb
  rw [Wp] at l1
  refine wpAny_bind (st.fin hh D ⟨_,e1,rfl,_,rfl⟩ ⟨_,e2,rfl,_,rfl⟩ ?_ fun h' kk=> ?_)
  ·by_cases c:ks.length≤i
   ·exact .inl (by simp;omega)
   ·exact .inr (by simp;omega)
  ·rw [af_ (by omega)] at hS
   exact wpAny_bind (wpAny_pure (wpAny_pure (hR _ H (Inv.kE (t' :=s.toks) I kk hf) JT hS)))
 | succ k ih=>
  intro i s H hk hi I hf st ha hb hS JT hR
  refine codeAny_builtin jT ?_
  rw [Around.under_plainId eV _]
  show wpAny _ A'.in1 (pyNext (.ref z) >>=_) _ _ s
  obtain ⟨z1,its,n1,r1,l1,e1⟩:=I.jb ha
  obtain ⟨z2,Ov,n2,r2,l2,e2⟩:=I.jb hb
  have lx:i < ks.length:=by omega
  have ly:i < ys.length:=by omega
  obtain ⟨u,hu,ru⟩:=r1.get (i:=i) (x:=kV ks[i]) (by rw [ir,gE lx];rfl)
  obtain ⟨v,hv,rv⟩:=r2.get (i:=i) (x:=ys[i]) (gE ly)
  obtain ⟨zS0,amt,vs0,amu,dd0⟩:=lQ I.bh hS
  obtain ⟨oS,_,_,eS,_⟩:=id dd0
  refine wpAny_bind (st.item D eS ⟨_,e1,rfl,_,rfl⟩ ⟨_,e2,rfl,_,rfl⟩ (x:=u) (y:=v) (by simpa using hu) (by simpa using hv) fun h' mW ht kk=> ?_)
  have Na:∀c∈[z,TI,TO,i1,i2],c≠S:=fun c hc e=>by
   have:=(hf c hc).1
   rw [e,hS] at this
   cases this
  have I2:Inv X pins σ H {s with heap:=h',toks:=s.toks}:=Inv.kE (t' :=s.toks) I kk hf
  obtain ⟨zS,hdS,vs,rel,dd⟩:=lQ I2.bh hS
  have hT:Shared.TypeIs {s with heap:=h',toks:=s.toks} (.ref s.heap.objs.size) "tuple":=⟨_,ht,rfl⟩
  refine wpAny_bind (wpAny_holding ?_)
  refine wpAny_bind (wpAny_tryCatch ?_)
  unfold Builtin.Dict.pairItems
  refine wpAny_bind (wpAny_typeOf hT ?_)
  rw [if_pos (by decide)]
  refine wpAny_bind (wpAny_seqItems ht rfl (wpAny_pure ?_))
  show wpAny _ A'.in1 (holding [u,v] (dictSet S u v)) _ _ _
  refine wpAny_holding ?_
  have hlen:vs.length≤sizeLine:=by rw [← rel.length];exact zS
  refine wpAny_dictSet_pairs (hsz:=hlen) (jP ru) dd fun h2 dd2 sb=> ?_
  have he:∃q,h2.get? S=some q:=let ⟨q,_,_,hq,_⟩:=dd2;⟨q,hq⟩
  have etk:(ks.zip ys).take (i+1)=(ks.zip ys).take i++[(ks[i],ys[i])]:=by
   rw [aeG]
   have:(ks.zip ys)[i]? =some (ks[i],ys[i]):=by rw [List.getElem?_zip_eq_some];exact ⟨gE lx,gE ly⟩
   rw [this]
   rfl
  have OY:bM [] ((ks.zip ys).take (i+1))=putK (bM [] ((ks.zip ys).take i)) ks[i] ys[i]:=by rw [etk,sV]
  have hl:(putK (bM [] ((ks.zip ys).take i)) ks[i] ys[i]).length≤sizeLine:=by
   rw [← OY]
   have h1:=eZ ((ks.zip ys).take (i+1)) []
   rw [adJ,al1] at h1
   exact adb (show (bM [] ((ks.zip ys).take (i+1))).length≤1000 by omega) (by decide)
  have I3:Inv X pins σ (upd H S (.dK (putK (bM [] ((ks.zip ys).take i)) ks[i] ys[i]))) {s with heap:=h2,toks:=s.toks+1}:=kG (s:={s with heap:=h',toks:=s.toks}) (t' :=s.toks+1) I2 (by rw [hS];exact True.intro) sb he (uH hl hdS (rel.put ks[i] rv) dd2)
  have kS:∀c o,c≠S→h'.get? c=some o→h2.get? c=some o:=fun c o n e=>(sb.2 c n).trans e
  refine wpAny_pure ⟨plainId_quiet eV _,?_⟩
  have nn:∀{c:Addr} {o:HO},H c=some o→c≠S→(upd H S (.dK (putK (bM [] ((ks.zip ys).take i)) ks[i] ys[i]))) c=some o:=fun {c o} e n=>by rw [aj n];exact e
  refine ih (i+1) _ _ (by omega) (by omega) I3 (fun c hc=> ?_) (mW.frame kS (Na z (by simp)) (Na TI (by simp)) (Na TO (by simp)) (Na i1 (by simp)) (Na i2 (by simp))) (nn ha na) (nn hb nb) (by rw [OY,ag]) (fun c o n e=>nn (JT c o n e) n) hR
  obtain ⟨f0,f1,f2,f3,f4,f5⟩:=hf c hc
  exact ⟨by rw [aj (Na c hc)];exact f0,f1,f2,f3,f4,f5⟩
def Ls (ta:TA):TE:=fun σ H Q=>ta σ H fun vs H1=>∃(a b:Addr) (ks:List Key) (ys:List V),vs=[.ref a,.ref b]∧H1 a=some (.lst (ks.map kV))∧H1 b=some (.lst ys)∧ks.length≤1000∧
 ∀(l:Addr) (H' :Hp),au H1 H' →H1 l=none→H' l=some (.dK (bM [] (ks.zip ys)))→Q (.ref l) H'
theorem boot_dict:bootBuiltins "dict"=some (.type "dict"):=by decide+kernel
theorem BP {e1 e2:Expr}{ta:TA}{p pos p' pos' :Pos}(hc:X.calm=true)(hgl:Gl X "dict")(hml:X.mg "dict"=none)(hg:Gl X "zip")(hm:X.mg "zip"=none)(ha:PA X [e1,e2] ta)(hs:starEach [e1,e2] X.env=[(false,eval e1 X.env),(false,eval e2 X.env)]:=by rfl)(ED:starEach [e2] X.env=[(false,eval e2 X.env)]:=by rfl)
  (UK:starEach [(.Call (.Name "zip" p) [e1,e2] [] pos:Expr)] X.env=[(false,eval (.Call (.Name "zip" p) [e1,e2] [] pos) X.env)]:=by rfl):
  PE X (.Call (.Name "dict" p') [.Call (.Name "zip" p) [e1,e2] [] pos] [] pos') (Ls ta):=by
 intro pins s σ H Q I h
 refine Call_ (gi I hgl hml boot_dict (PyProof.Rows.callWith_type1 ?_ UK rfl))
 rw [UK]
 show wpAny _ _ (spliced ((false,eval (.Call (.Name "zip" p) [e1,e2] [] pos) X.env)::[])) _ _ s
 refine Calls.spliced_cons ?_
 refine Call_ (gi I hg hm boot_zip (PyProof.Rows.callWith_type1 (bK (ha pos pins s σ H _ I h) fun us s1 ⟨vs,H1,I1,r1,q1⟩=> ?_) (by rw [hs,ED]) (by rw [ED];rfl)))
 obtain ⟨a,b,ks,ys,e,hx,hy,hkl,q⟩:=q1
 subst e
 cases r1 with
 | cons r rr=>
  cases rr with
  | cons r' rr=>
   cases rr
   cases r
   cases r'
   obtain ⟨z1,its,n1,r1,l1,e1⟩:=I1.jb hx
   obtain ⟨z2,Ov,n2,r2,l2,e2⟩:=I1.jb hy
   have lt1:a < s1.heap.objs.size:=Heap.lt_size e1
   have lt2:b < s1.heap.objs.size:=Heap.lt_size e2
   refine call_zip_2 ⟨_,e1,rfl,_,rfl⟩ ⟨_,e2,rfl,_,rfl⟩ fun h' hz hJ oh M6 Wc hsz hk=>Calls.spliced_nil ?_
   have I2:Inv X pins σ H1 {s1 with heap:=h',toks:=s1.toks}:=I1.kept (t' :=s1.toks) hk
   have hS:=I2.bh.fresh (adf h'.objs.size)
   refine nu (s:={s1 with heap:=h' }) (I1.ok.hd hc) hz fun h2 tk R k2 OZ hR=> ?_
   have lt' :mainGlobals < h'.objs.size:=(I2.mod.glob.keeps I2.bk).lt
   have ns:(h'.objs.size==sysModules)=false:=beq_eq_false_iff_ne.mpr (adG (adD (amk (by decide) lt')))
   have I3:Inv X pins σ (upd H1 h'.objs.size (.dK [])) {s1 with heap:=h2,toks:=tk}:=I2.laid (t' :=tk) k2 (adf _) ⟨adL _,ns,[],.nil,_,_,_,OZ,⟨rfl,rfl,rfl⟩,rfl,fun _ he=>by simp at he,Pairs.nil,aeS⟩
   have st:EH h2 (s1.heap.objs.size+4) (s1.heap.objs.size+2) (s1.heap.objs.size+3) s1.heap.objs.size (s1.heap.objs.size+1) a b h'.objs.size 0:=
    ⟨.inl (k2 _ _ hz),k2 _ _ hJ,⟨_,_,k2 _ _ oh⟩,M6.at fun o e=>k2 _ o e,Wc.at fun o e=>k2 _ o e⟩
   have na:a≠h'.objs.size:=ao hx hS
   have nb:b≠h'.objs.size:=ao hy hS
   have HR:=xY hS (.dK [])
   refine Lr (A' :=X.A.in1) (H0:=H1) (ks:=ks) (ys:=ys) (I1.ok.hd hc) ?_ na nb hkl (min ks.length ys.length) 0 _ _ (by omega) (adL _) I3 (fun c' rq => ?_) st (HR _ _ hx) (HR _ _ hy) ag (fun b' o n e=>HR _ _ e) fun s' H' I' ks' Lh =>hR s' ⟨.ref h'.objs.size,H',I',rfl,q _ H' (fun b' o e=>ks' b' o (ao e hS) e) hS Lh⟩
   ·constructor <;> (intro z;simp only [Addr] at*;omega)
   ·have hc2:c' =s1.heap.objs.size+4∨c' =s1.heap.objs.size+2∨c' =s1.heap.objs.size+3∨c' =s1.heap.objs.size∨c' =s1.heap.objs.size+1:=by simpa using rq
    have hb:s1.heap.objs.size≤c' :=by
     simp only [Addr] at*
     omega
    have hb2:c' ≠h'.objs.size:=by
     rw [hsz]
     simp only [Addr] at*
     omega
    refine I1.iq hb ?_
    rw [aj hb2]
    exact I1.bh.fresh hb
end
end Ty
set_option maxHeartbeats 4000000
namespace Ty
open PySem PySem.Spec PyProof.Rows L2
theorem bT.snoc {K:Frag}{H:Hp}{us:List V}{qs:List (Int×Int)}{v:V}{q:Int×Int}(h:bT K H us qs)(n:jR K H v q):bT K H (us++[v]) (qs++[q]):=by
 refine ⟨by simp [h.1],fun i u q' e1 e2=> ?_⟩
 have l:=h.1
 by_cases c:i < us.length
 ·rw [adl c] at e1
  rw [adl (by omega)] at e2
  exact h.2 i u q' e1 e2
 ·rw [adu (by omega)] at e1 e2
  by_cases z:i - us.length=0
  ·rw [z] at e1
   rw [show i - qs.length=0 by omega] at e2
   cases e1
   cases e2
   exact n
  ·rw [ac_ (by simp;omega)] at e1
   cases e1
theorem bT.aJ {K:Frag}{H H' :Hp}{us:List V}{qs:List (Int×Int)}(h:bT K H us qs)(s:bg H H'):bT K H' us qs:=⟨h.1,fun i u q e1 e2=>(h.2 i u q e1 e2).aJ s⟩
end Ty
set_option maxHeartbeats 4000000
namespace Ty
open PySem PySem.Spec PyProof.Rows L2
variable {X:Cx}
end Ty
set_option maxHeartbeats 4000000
namespace Ty
open PySem PySem.Spec PyProof.Rows L2
section
variable {X:Cx}{pins:List (Addr×Obj)}{σ:L2.St}{H:Hp}{s:Shared}
inductive wm (R:(It→Hp→Prop))(x:V)(H1:Hp):Prop where
 | mk (d kvs:_) (_:x=.ref d) (_:H1 d=some (.dK kvs)) (_:∀o,R (OK d o kvs) (upd H1 d (.bP o (.dK kvs)))):wm R x H1
def Lu (te:TE):TI:=fun σ H R=>te σ H fun x H1=>wm R x H1
theorem BQ {e:Expr}{te:TE}{apos dI:Pos}{tg:Expr}(ho:PE X e te)(lj:attributeBase e "values" X.env (eval e X.env)=eval e X.env:=by rfl)(lC:(apos.endLine==dI.line)=true:=by rfl):
  PI X tg (.Call (.Attribute e "values" apos) [] [] dI) (Lu te):=by
 intro pins s σ H R I h
 refine wpAny_Call_method0_late lj lC (bK (ho pins s σ H _ I h) fun v s1 ⟨x,H1,I1,r1,q1⟩=> ?_)
 obtain ⟨d,kvs,rfl,e,q⟩:=q1
 cases r1
 obtain ⟨h1,h2,hd⟩:=AY I1 (.inl ⟨kvs,.inl e⟩)
 obtain ⟨z,EB,vs,rel,o,EG,ep,rD,hx,dD,hk,hp,hn⟩:=lQ I1.bh e
 have da:s1.heap.DictAt (aV X.prog X.w) d vs ep:=⟨o,EG,rD,hx,dD,hk,hp,hn⟩
 have lv:=rel.length
 have Wm :=Inv.freeze I1 e rD
 refine ⟨"dict","dict.values",F.plainAttrs_dict,F.slot_dict_values,F.type_dict_values,h1,h2,Calls.callWith_builtin rfl (PySem.evalArgs_none ?_)⟩
 refine call_meetsIn F.slot_dict_values h1 F.entry_dict_values (F.args_dict_values_1 _) (meets_dict_values (aV X.prog X.w) d hd) ⟨⟨vs,da.dictOf⟩,?_⟩
 have OE:(s1.heap.push {cls:=.type "dict_values",data:=.fields #[.ref d]}).DictAt (aV X.prog X.w) d vs ep:=da.at' fun o e=>Heap.get?_push_of_some _ e
 show wpAny (model X.prog X.w) X.A (pyIter (.ref s1.heap.objs.size)) _ _ _
 refine wpAny_pyIter_values (s:={s1 with heap:=s1.heap.push {cls:=.type "dict_values",data:=.fields #[.ref d]}}) ⟨_,Heap.get?_push_size _ rfl,rfl,rfl⟩ OE ?_
 have sz:(s1.heap.push {cls:=.type "dict_values",data:=.fields #[.ref d]}).objs.size=s1.heap.objs.size+1:=Heap.size_push ..
 have I3:Inv X pins σ (upd H1 d (.bP o (.dK kvs))) {s1 with heap:=(s1.heap.push {cls:=.type "dict_values",data:=.fields #[.ref d]}).push {cls:=.type "dict_valueiterator",data:=.fields #[.ref d,.int 0 0,.int vs.length 0,.int ep 0]}}:=Wm.kept (t' :=s1.toks) fun b o e=>Heap.get?_push_of_some _ (Heap.get?_push_of_some _ e)
 refine ⟨_,[_],_,_,_,rfl,I3,xP d _ o kvs dD,(show Heap.IsValIter _ _ d 0 kvs.length ep from ⟨_,Heap.get?_push_size _ rfl,rfl,by rw [lv];rfl⟩),fun b hb=> ?_,q o⟩
 have eb:b=(s1.heap.push {cls:=.type "dict_values",data:=.fields #[.ref d]}).objs.size:=by simpa using hb
 have le:s1.heap.objs.size≤b:=by rw [eb,sz];exact alF _
 exact Wm.iq le (Wm.bh.fresh le)
end
end Ty
set_option maxHeartbeats 4000000
namespace Ty
open PySem PySem.Spec PyProof.Rows L2
section
variable {X:Cx}
end
section
variable {D:Addr}{te:TE}{cap:L2.St}{H1:Hp}{Q:VK}
end
end Ty
set_option maxHeartbeats 4000000
namespace Ty
open PySem PySem.Spec PyProof.Rows L2
section
variable {X:Cx}{o e:Expr}{es:List Expr}{to:TE}{t:TA}{name:Str}{apos dI:Pos}{T id:String}{r:V→List V→Hp→VK→Prop}
end
end Ty
set_option maxHeartbeats 4000000
namespace Ty
open PySem PySem.Spec PyProof.Rows L2
section
variable {X:Cx}{K:Frag}
inductive O0 (K:Frag)(x:V)(y:V)(H:Hp)(Q:VK):Prop where
 | mk (p xs i v:_) (_:x=.ref p) (_:y=.int i) (_:aU K H p xs∨bH K H p xs) (_:i8 xs i=some v) (_:Q v H):O0 K x y H Q
theorem wo:KU X (O0 X.K):=by
 intro value slice pins s σ H x y v u Q I rx ry h hs
 obtain ⟨p,xs,i,z,e1,e2,hq,he,q⟩:=h
 rcases hq with hq | hq
 ·exact a_ value slice pins s σ H x y v u Q I rx ry ⟨p,xs,i,z,e1,e2,hq,he,q⟩ hs
 ·exact uD value slice pins s σ H x y v u Q I rx ry ⟨p,xs,i,z,e1,e2,hq,he,q⟩ hs
end
section
variable {D:Addr}{te:TE}{cap:L2.St}{H1:Hp}{Q:VK}
end
end Ty
set_option maxHeartbeats 4000000
namespace Ty
theorem oy {α:Type}[DecidableEq α]:∀{l m:List α},l.Nodup→(∀x∈l,x∈m)→l.length≤m.length
 | [],_,_,_=>adL _
 | x::l,m,h,k=>by
  obtain ⟨h1,h2⟩:=adH.mp h
  have hx:=k x adh
  have:=oy (l:=l) (m:=m.erase x) h2 fun y hy=>(List.mem_erase_of_ne (fun z:y=x=>h1 (by rw [← z];exact hy))).mpr (k y (ade _ hy))
  rw [List.length_erase_of_mem hx] at this
  have p:=List.length_pos_of_mem hx
  show l.length+1≤m.length
  omega
def box (B:Nat):Nat→List (List Int)
 | 0=>[[]]
 | n+1=>(box B n).flatMap fun y=>(adY (B+1)).map fun (a:Nat)=>(a:Int)::y
theorem wq {α:Type}(c:Nat):∀l:List α,(l.map fun _=>c).sum=l.length*c
 | []=>by simp
 | _::l=>by
  rw [ada,adF,wq c l,adI,aeN]
  omega
theorem pU (B:Nat):∀n,(box B n).length=(B+1)^n
 | 0=>rfl
 | n+1=>by
  have ih:=pU B n
  unfold box
  rw [List.length_flatMap]
  have:((box B n).map fun y=>((adY (B+1)).map fun (a:Nat)=>(a:Int)::y).length)=(box B n).map fun _=>B+1:=ady fun y _=>by rw [Wp,alK]
  rw [this,wq,ih,aeR]
theorem oz (B:Nat):∀n,(box B n).Nodup
 | 0=>by simp [box]
 | n+1=>by
  have ih:=oz B n
  unfold box
  unfold amc at ih ⊢
  rw [List.pairwise_flatMap]
  refine ⟨fun y _=> ?_,ih.imp fun {y1 y2} ne x hx z hz e=> ?_⟩
  ·rw [ae_]
   exact aeI.imp fun {a b} ne e=>ne (by injection e with e _;exact Int.ofNat.inj e)
  ·obtain ⟨a,_,rfl⟩:=ab_.mp hx
   obtain ⟨b,_,rfl⟩:=ab_.mp hz
   injection e with _ e
   exact ne e
theorem gL {B:Nat}:∀{n:Nat} {y:List Int},y∈box B n ↔ y.length=n∧∀a∈y,0≤a∧a≤(B:Int)
 | 0,y=>by
  unfold box
  rw [adj]
  constructor
  ·intro e
   rw [e]
   exact ⟨rfl,fun a h=>nomatch h⟩
  ·intro h
   exact alR.mp h.1
 | n+1,y=>by
  unfold box
  rw [adP]
  constructor
  ·rintro ⟨z,hz,hy⟩
   obtain ⟨a,ha,rfl⟩:=ab_.mp hy
   obtain ⟨h1,h2⟩:=(gL (n:=n)).mp hz
   have:=ad1.mp ha
   refine ⟨by simp [h1],fun b hb=> ?_⟩
   rcases adz.mp hb with e | e
   ·rw [e]
    omega
   ·exact h2 b e
  ·rintro ⟨h1,h2⟩
   match y,h1 with
   | a::z,h1=>
    have ha:=h2 a adh
    refine ⟨z,(gL (n:=n)).mpr ⟨by simpa using h1,fun b hb=>h2 b (ade _ hb)⟩,ab_.mpr ⟨a.toNat,ad1.mpr (show a.toNat < B+1 by omega),?_⟩⟩
    rw [show ((a.toNat:Nat):Int)=a by omega]
def ft:List Int→List Int→Int
 | a::e,b::y=>a*b+ft e y
 | _,_=>0
theorem sW:∀(e:List Int) {y z:List Int},y.length=z.length→ft e (ad2 (fun a b=>a - b) y z)=ft e y - ft e z
 | [],y,z,h=>by simp [ft]
 | a::e,[],[],h=>by simp [ft]
 | a::e,b::y,c::z,h=>by
  have ih:=sW e (y:=y) (z:=z) (by simpa using h)
  rw [alY]
  simp only [ft]
  rw [ih,Int.mul_sub]
  omega
theorem wu {A B:Nat}:∀{e y:List Int},(∀a∈e,a.natAbs≤A)→(∀b∈y,b.natAbs≤B)→(ft e y).natAbs≤e.length*(A*B)
 | [],y,_,_=>by simp [ft]
 | a::e,[],_,_=>by simp [ft]
 | a::e,b::y,h1,h2=>by
  have ih:=wu (e:=e) (y:=y) (fun x hx=>h1 x (ade _ hx)) fun x hx=>h2 x (ade _ hx)
  simp only [ft]
  have m:(a*b).natAbs≤A*B:=by
   rw [aef]
   exact ad5 (h1 a adh) (h2 b adh)
  have t:=aeF (a*b) (ft e y)
  rw [adI,aeN,al_]
  omega
theorem BR {n A:Nat}{eqs:List (List Int)}(hn:eqs.length < n)(hA:1≤A)(he:∀e∈eqs,e.length=n∧∀a∈e,a.natAbs≤A):∃z:List Int,z.length=n∧(∃a∈z,a≠0)∧(∀a∈z,a.natAbs≤(2*n*A)^eqs.length)∧∀e∈eqs,ft e z=0:=by
 generalize hC:2*n*A=C
 generalize hB:C^eqs.length=B
 have c1:1≤C:=by
  rw [← hC]
  exact ad5 (show 1≤2*n by omega) hA
 generalize hM:n*(A*B)=M
 have key:¬ ∀y∈box B n,∀z∈box B n,(eqs.map fun e=>ft e y+(M:Int))=(eqs.map fun e=>ft e z+(M:Int))→y=z:=by
  intro inj
  have nd:((box B n).map fun y=>eqs.map fun e=>ft e y+(M:Int)).Nodup:=by
   unfold amc
   rw [ae_]
   refine alO (fun {y z} hy hz ne e=>ne (inj y hy z hz e)) (oz B n)
  have le:=oy nd (m:=box (2*M) eqs.length) fun x hx=>by
   obtain ⟨y,hy,rfl⟩:=ab_.mp hx
   obtain ⟨ly,Wn⟩:=gL.mp hy
   refine gL.mpr ⟨by simp,fun a ha=> ?_⟩
   obtain ⟨e,UQ,rfl⟩:=ab_.mp ha
   have b1:=wu (A:=A) (B:=B) (he e UQ).2 (y:=y) fun b hb=>by
    have:=Wn b hb
    omega
   rw [(he e UQ).1,hM] at b1
   omega
  rw [Wp,pU,pU] at le
  have e1:2*M+1≤C*(B+1):=by
   have e3:2*M=C*B:=by rw [← hM, ← hC, ← Nat.mul_assoc, ← Nat.mul_assoc]
   rw [e3,Nat.mul_add]
   omega
  have e2:(2*M+1)^eqs.length≤B*(B+1)^eqs.length:=by
   have:=alv e1 eqs.length
   rw [Nat.mul_pow,hB] at this
   exact this
  have e4:(B+1)^(eqs.length+1)≤(B+1)^n:=adA (by omega) hn
  have e5:B*(B+1)^eqs.length < (B+1)^(eqs.length+1):=by
   rw [aeR,aly ((B+1)^eqs.length)]
   exact Nat.mul_lt_mul_of_pos_right (adO B) (Nat.pow_pos (by omega))
  omega
 obtain ⟨y,k1⟩:=al'.mp key
 obtain ⟨hy,k2⟩:=alL.mp k1
 obtain ⟨z,k3⟩:=al'.mp k2
 obtain ⟨hz,k4⟩:=alL.mp k3
 obtain ⟨ee,ne⟩:=alL.mp k4
 obtain ⟨ly,Wn⟩:=gL.mp hy
 obtain ⟨lz,bz⟩:=gL.mp hz
 have hl:y.length=z.length:=by omega
 refine ⟨ad2 (fun a b=>a - b) y z,by rw [List.length_zipWith];omega,?_,?_,fun e UQ=> ?_⟩
 ·apply adN
  intro h
  refine ne (List.ext_getElem hl fun i h1 h2=> ?_)
  have h' :∀a∈ad2 (fun a b=>a - b) y z,a=0:=fun a ha=>adN fun q=>h ⟨a,ha,q⟩
  have m:y[i] - z[i]∈ad2 (fun a b=>a - b) y z:=by
   refine aa_ (i:=i) ?_
   rw [aen,gE h1,gE h2]
  have:=h' _ m
  omega
 ·intro a ha
  obtain ⟨i,ei⟩:=adg ha
  rw [aen] at ei
  have hi:i < y.length:=by
   apply adN
   intro q
   rw [ac_ (by omega)] at ei
   cases ei
  rw [gE hi,gE (show i < z.length by omega)] at ei
  have ea:y[i] - z[i]=a:=adB ei
  have q1:=Wn _ (aea hi)
  have q2:=bz _ (aea (show i < z.length by omega))
  omega
 ·rw [sW e hl]
  obtain ⟨i,ei⟩:=adg UQ
  have e1:=congrArg (fun l:List Int=>l[i]?) ee
  simp only [ir,ei,aeo,Option.some.injEq] at e1
  omega
def col (l:List Int)(j:Nat):Rat:=((l.getD j 0:Int):Rat)
inductive b9 (A:List (List Int)):(Nat→Rat)→Prop
 | zero:b9 A (fun _=>0)
 | put {f:Nat→Rat} (c:Rat) {a:List Int} (h:a∈A) (hf:b9 A f):b9 A (fun j=>f j+c*col a j)
theorem b9.congr {A:List (List Int)}{f g:Nat→Rat}(h:b9 A f)(e:∀j,f j=g j):b9 A g:=(funext e:f=g)▸h
theorem b9.add {A:List (List Int)}{f g:Nat→Rat}(hf:b9 A f)(hg:b9 A g):b9 A (fun j=>f j+g j):=by
 induction hg with
 | zero=>exact hf.congr fun j=>by grind
 | put c h _ ih=>exact (b9.put c h ih).congr fun j=>by grind
theorem b9.mul {A:List (List Int)}{f:Nat→Rat}(k:Rat)(hf:b9 A f):b9 A (fun j=>k*f j):=by
 induction hf with
 | zero=>exact b9.zero.congr fun j=>by grind
 | put c h _ ih=>exact (b9.put (k*c) h ih).congr fun j=>by grind
theorem b9.mem {A:List (List Int)}{a:List Int}(h:a∈A):b9 A (col a):=(b9.put 1 h b9.zero).congr fun j=>by grind
theorem b9.trans {A B:List (List Int)}{f:Nat→Rat}(hf:b9 A f)(h:∀a∈A,b9 B (col a)):b9 B f:=by
 induction hf with
 | zero=>exact b9.zero
 | put c ha _ ih=>exact ih.add ((h _ ha).mul c)
theorem b9.mono {A B:List (List Int)}{f:Nat→Rat}(hf:b9 A f)(h:∀a∈A,a∈B):b9 B f:=hf.trans fun a ha=>b9.mem (h a ha)
theorem b9.first {l:List Int}{A:List (List Int)}{f:Nat→Rat}(hf:b9 (l::A) f):∃a:Rat,b9 A (fun j=>f j - a*col l j):=by
 induction hf with
 | zero=>exact ⟨0,b9.zero.congr fun j=>by grind⟩
 | put c h _ ih=>
  obtain ⟨a,ha⟩:=ih
  rcases adz.mp h with e | e
  ·subst e
   exact ⟨a+c,ha.congr fun j=>by grind⟩
  ·exact ⟨a,(b9.put c e ha).congr fun j=>by grind⟩
theorem b9.last {l:List Int}{A:List (List Int)}{f:Nat→Rat}(hf:b9 (A++[l]) f):∃a:Rat,b9 A (fun j=>f j - a*col l j):=b9.first (hf.mono fun a ha=>by
 rcases adq.mp ha with z | z
 ·exact ade _ z
 ·rw [adj.mp z]
  exact adh)
theorem b9.van {A:List (List Int)}{f:Nat→Rat}{c:Nat}(hf:b9 A f)(h:∀a∈A,col a c=0):f c=0:=by
 induction hf with
 | zero=>rfl
 | put k ha _ ih=>
  dsimp only
  rw [ih,h _ ha]
  grind
structure zw (nd:List (Nat×List Int)):Prop where
 nn:(nd.map (·.1)).Nodup
 here:∀x∈nd,x.2.getD x.1 0≠0
 off:∀x∈nd,∀y∈nd,x.1≠y.1→x.2.getD y.1 0=0
theorem zw.zero:∀{nd:List (Nat×List Int)} {f:Nat→Rat},zw nd→b9 (nd.map (·.2)) f→(∀x∈nd,f x.1=0)→∀j,f j=0
 | [],f,_,hf,_=>fun j=>by
  have:∀{g:Nat→Rat},b9 [] g→g j=0:=fun {g} h=>h.van fun a ha=>nomatch ha
  exact this hf
 | x::r,f,P,hf,hz=>by
  obtain ⟨a,ha⟩:=b9.first hf
  have nn:=adH.mp P.nn
  have v:f x.1 - a*col x.2 x.1=0:=ha.van (c:=x.1) fun b hb=>by
   obtain ⟨y,hy,rfl⟩:=ab_.mp hb
   unfold col
   rw [P.off y (ade _ hy) x adh (fun z=>nn.1 (by show x.1∈_;rw [← z];exact ab_.mpr ⟨y,hy,rfl⟩))]
   rfl
  rw [hz x adh] at v
  have zv:col x.2 x.1≠0:=bW (P.here x adh)
  have a0:a=0:=by grind
  subst a0
  have P' :zw r:=⟨nn.2,fun y hy=>P.here y (ade _ hy),fun y hy z hz=>P.off y (ade _ hy) z (ade _ hz)⟩
  exact zw.zero P' (ha.congr (g:=f) fun j=>by grind) fun y hy=>hz y (ade _ hy)
theorem zw.one {nd:List (Nat×List Int)}{f:Nat→Rat}(P:zw nd)(hf:b9 (nd.map (·.2)) f){x:Nat×List Int}(hx:x∈nd)(hz:∀y∈nd,y.1≠x.1→f y.1=0):∃a:Rat,∀j,f j=a*col x.2 j:=by
 have zv:col x.2 x.1≠0:=bW (P.here x hx)
 refine ⟨f x.1 / col x.2 x.1,fun j=> ?_⟩
 have g:b9 (nd.map (·.2)) fun j=>f j+ -(f x.1 / col x.2 x.1)*col x.2 j:=b9.put _ (ab_.mpr ⟨x,hx,rfl⟩) hf
 have:=P.zero g (fun y hy=>by
  by_cases c:y.1=x.1
  ·rw [c]
   grind
  ·rw [hz y hy c]
   have:col x.2 y.1=0:=by
    unfold col
    rw [P.off x hx y hy (adG c)]
    rfl
   rw [this]
   grind) j
 grind
def gY:List Int→List (List Int)→Nat→Int
 | z::zs,a::A,j=>z*a.getD j 0+gY zs A j
 | _,_,_=>0
theorem iF:∀(zs:List Int) (A:List (List Int)),b9 A (fun j=>((gY zs A j:Int):Rat))
 | [],A=>b9.zero.congr fun j=>by simp [gY]
 | _::_,[]=>b9.zero.congr fun j=>by simp [gY]
 | z::zs,a::A=>by
  have ih:=(iF zs A).mono (B:=a::A) fun b hb=>ade _ hb
  refine (b9.put (z:Rat) (adh) ih).congr fun j=> ?_
  simp only [gY,col]
  push_cast
  grind
theorem pV (c:Nat):∀(zs:List Int) (A:List (List Int)),ft (A.map fun a=>a.getD c 0) zs=gY zs A c
 | [],A=>by cases A <;> simp [gY,ft]
 | _::_,[]=>by simp [gY,ft]
 | z::zs,a::A=>by
  simp only [ada,ft,gY]
  rw [pV c zs A,aer]
theorem uU {Z E:Nat}(j:Nat):∀{zs:List Int} {A:List (List Int)},(∀z∈zs,z.natAbs≤Z)→(∀a∈A,(a.getD j 0).natAbs≤E)→(gY zs A j).natAbs≤A.length*(Z*E)
 | [],A,_,_=>by simp [gY]
 | _::_,[],_,_=>by simp [gY]
 | z::zs,a::A,h1,h2=>by
  have ih:=uU j (zs:=zs) (A:=A) (fun x hx=>h1 x (ade _ hx)) fun x hx=>h2 x (ade _ hx)
  simp only [gY]
  have m:(z*a.getD j 0).natAbs≤Z*E:=by
   rw [aef]
   exact ad5 (h1 z adh) (h2 a adh)
  have t:=aeF (z*a.getD j 0) (gY zs A j)
  rw [adI,aeN,al_]
  omega
theorem me (j:Nat):∀{zs:List Int} {A:List (List Int)} (z:Int) (a:List Int),zs.length=A.length→gY (zs++[z]) (A++[a]) j=gY zs A j+z*a.getD j 0
 | [],[],z,a,_=>by simp [gY]
 | y::zs,b::A,z,a,h=>by
  have ih:=me j (zs:=zs) (A:=A) z a (by simpa using h)
  simp only [aeH,gY]
  rw [ih]
  omega
def O1 (l:List Int):Prop:=∀d:Int,(∀j,d ∣ l.getD j 0)→d.natAbs=1
theorem BS {l:List Int}(p:O1 l){v:Nat→Int}{a:Rat}(ha:a≠0)(h:∀j,((v j:Int):Rat)=a*col l j)(j:Nat):(l.getD j 0).natAbs≤(v j).natAbs:=by
 have e:∀j,v j*(a.den:Int)=a.num*l.getD j 0:=fun j=>by
  have h1:=h j
  have h2:a=(a.num:Rat) / ((a.den:Int):Rat):=by
   rw [← aml]
   exact (amb a).symm
  have hd:((a.den:Int):Rat)≠0:=bW (by have:=a.den_pos;omega)
  rw [h2] at h1
  unfold col at h1
  have h3:((v j*(a.den:Int):Int):Rat)=((a.num*l.getD j 0:Int):Rat):=by
   rw [ad7,ad7]
   generalize ((a.den:Int):Rat)=D at hd h1
   grind
  exact als.mp h3
 have dv:∀j,(a.den:Int) ∣ l.getD j 0:=fun j=>by
  have h1:a.den ∣ a.num.natAbs*(l.getD j 0).natAbs:=by
   rw [← aef, ← e j,aef]
   exact ⟨(v j).natAbs,by rw [aly];rfl⟩
  have h2:=Nat.Coprime.dvd_of_dvd_mul_left (Nat.Coprime.symm a.reduced) h1
  exact aeC.mp (by simpa using h2)
 have d1:a.den=1:=by simpa using p _ dv
 have ej:=e j
 rw [d1] at ej
 have n0:a.num≠0:=fun z=>ha (Rat.num_eq_zero.mp z)
 have:v j=a.num*l.getD j 0:=by simpa using ej
 rw [this,aef]
 exact Nat.le_mul_of_pos_left _ (by omega)
theorem BU {l:List Int}(p:O1 l):¬ ∀j,l.getD j 0=0:=fun h=>by
 have:=p 0 fun j=>by rw [h j];exact Int.dvd_refl 0
 simp at this
structure zA (os:List (List Int))(nd:List (Nat×List Int))(lv ps qs:List (List Int)):Prop where
 po:∀p∈ps,p∈os
 qo:∀q∈qs,q∈os
 lp:ps.length=nd.length
 lq:qs.length=lv.length
 s1:∀x∈nd,b9 ps (col x.2)
 s2:∀p∈ps,b9 (nd.map (·.2)) (col p)
 s3:∀(i:Nat) (l q:List Int),lv[i]? =some l→qs[i]? =some q→b9 (ps++[q]) (col l)∧b9 (nd.map (·.2)++[l]) (col q)
 ind:∀zs:List Int,zs.length=ps.length→(∀j,gY zs ps j=0)→∀a∈zs,a=0
theorem zA.start (os:List (List Int)):zA os [] os [] os:=by
 refine ⟨by simp,fun q hq=>hq,rfl,rfl,by simp,by simp,fun i l q e1 e2=> ?_,fun zs h _ a ha=> ?_⟩
 ·rw [e1] at e2
  cases e2
  exact ⟨b9.mem (by simp),b9.mem (by simp)⟩
 ·rw [alR.mp h] at ha
  cases ha
theorem zw.cols {nd:List (Nat×List Int)}(P:zw nd){l:List Int}(hl:b9 (nd.map (·.2)) (col l))(hz:∀x∈nd,l.getD x.1 0=0):∀j,l.getD j 0=0:=fun j=>by
 have:=P.zero hl (fun x hx=>by unfold col;rw [hz x hx];rfl) j
 unfold col at this
 exact als.mp (this.trans (by rfl))
theorem sX {A:List (List Int)}{b c:Nat}(hA:∀a∈A,∀j,(a.getD j 0).natAbs≤2^b):(A.map fun a=>a.getD c 0).length=A.length∧∀x∈A.map (fun a=>a.getD c 0),x.natAbs≤2^b:=by
 refine ⟨by simp,fun x hx=> ?_⟩
 obtain ⟨a,ha,rfl⟩:=ab_.mp hx
 exact hA a ha c
theorem zA.left {os:List (List Int)}{nd:List (Nat×List Int)}{lv ps qs:List (List Int)}(O:zA os nd lv ps qs)(P:zw nd){i b:Nat}{l:List Int}(e:lv[i]? =some l)(hz:∀x∈nd,l.getD x.1 0=0)(hb:∀o∈os,∀j,(o.getD j 0).natAbs≤2^b)(pr:O1 l)(j:Nat):(l.getD j 0).natAbs≤(nd.length+1)*((2*(nd.length+1)*2^b)^nd.length*2^b):=by
 have hi:i < qs.length:=by
  rw [O.lq]
  exact (be.mp e).1
 obtain ⟨q,eq⟩:∃q,qs[i]? =some q:=⟨_,gE hi⟩
 obtain ⟨t1,t2⟩:=O.s3 i l q e eq
 have hA:∀a∈ps++[q],∀j,(a.getD j 0).natAbs≤2^b:=fun a ha=>by
  rcases adq.mp ha with z | z
  ·exact hb a (O.po a z)
  ·rw [adj.mp z]
   exact hb q (O.qo q (aa_ eq))
 have lA:(ps++[q]).length=nd.length+1:=by simp [O.lp]
 obtain ⟨zs,lz,nz,bz,sz⟩:=BR (n:=nd.length+1) (A:=2^b) (eqs:=nd.map fun x=>(ps++[q]).map fun a=>a.getD x.1 0) (by simp) (aeb) fun y hy=>by
  obtain ⟨x,hx,rfl⟩:=ab_.mp hy
  rw [← lA]
  exact sX hA
 rw [Wp] at bz
 have v0:∀x∈nd,gY zs (ps++[q]) x.1=0:=fun x hx=>by
  rw [← pV]
  exact sz _ (ab_.mpr ⟨x,hx,rfl⟩)
 have hv:b9 (nd.map (·.2)++[l]) fun j=>((gY zs (ps++[q]) j:Int):Rat):=(iF zs (ps++[q])).trans fun a ha=>by
  rcases adq.mp ha with z | z
  ·exact (O.s2 a z).mono fun y hy=>adK _ hy
  ·rw [adj.mp z]
   exact t2
 obtain ⟨a,ha⟩:=b9.last hv
 have ez:=P.zero ha fun x hx=>by
  rw [v0 x hx]
  unfold col
  rw [hz x hx]
  show ((0:Int):Rat) - a*((0:Int):Rat)=0
  grind
 by_cases c:a=0
 ·exfalso
  subst c
  have vz:∀j,gY zs (ps++[q]) j=0:=fun j=>by
   have:=ez j
   have h:((gY zs (ps++[q]) j:Int):Rat)=((0:Int):Rat):=by grind
   exact als.mp h
  obtain ⟨pZ,z,rfl⟩:∃pZ z,zs=pZ ++[z]:=by
   rcases al5 zs with h | ⟨pZ,z,h⟩
   ·rw [h] at lz
    simp at lz
   ·exact ⟨pZ,z,by rw [h,al6]⟩
  have O3 :pZ.length=ps.length:=by
   rw [O.lp]
   simpa using lz
  have sp:∀j,gY pZ ps j+z*q.getD j 0=0:=fun j=>by
   rw [← me j z q O3]
   exact vz j
  by_cases z0:z=0
  ·subst z0
   obtain ⟨x,hx,nx⟩:=nz
   have all:=O.ind pZ O3 fun j=>by simpa using sp j
   rcases adq.mp hx with h | h
   ·exact nx (all x h)
   ·exact nx (adj.mp h)
  ·have hq:b9 ps (col q):=((iF pZ ps).mul (-1 / (z:Rat))).congr fun j=>by
    have s' :((gY pZ ps j+z*q.getD j 0:Int):Rat)=((0:Int):Rat):=by rw [sp j]
    rw [amH,ad7] at s'
    have zr:(z:Rat)≠0:=bW z0
    unfold col
    grind
   have hl:b9 ps (col l):=t1.trans fun a ha=>by
    rcases adq.mp ha with h | h
    ·exact b9.mem h
    ·rw [adj.mp h]
     exact hq
   exact BU pr (P.cols (hl.trans O.s2) hz)
 ·have le:=BS pr c (v:=fun j=>gY zs (ps++[q]) j) (fun j=>by have:=ez j;grind) j
  refine adb le ?_
  have:=uU j (zs:=zs) (A:=ps++[q]) bz fun a ha=>hA a ha j
  rw [lA] at this
  exact this
theorem zA.need {os:List (List Int)}{nd:List (Nat×List Int)}{lv ps qs:List (List Int)}(O:zA os nd lv ps qs)(P:zw nd){b:Nat}{x:Nat×List Int}(hx:x∈nd)(hb:∀o∈os,∀j,(o.getD j 0).natAbs≤2^b)(pr:O1 x.2)(j:Nat):(x.2.getD j 0).natAbs≤(nd.length+1)*((2*(nd.length+1)*2^b)^nd.length*2^b):=by
 have hA:∀a∈ps,∀j,(a.getD j 0).natAbs≤2^b:=fun a ha=>hb a (O.po a ha)
 have lf:(nd.filter fun y=>decide (y.1≠x.1)).length < nd.length:=by
  have h1:(nd.filter fun y=>decide (y.1≠x.1)).length≤nd.length:=aeD ..
  rcases Nat.lt_or_eq_of_le h1 with h | h
  ·exact h
  ·have:=List.length_filter_eq_length_iff.mp h x hx
   simp at this
 obtain ⟨zs,lz,nz,bz,sz⟩:=BR (n:=nd.length) (A:=2^b) (eqs:=(nd.filter fun y=>decide (y.1≠x.1)).map fun y=>ps.map fun a=>a.getD y.1 0) (by rw [Wp];exact lf) (aeb) fun y hy=>by
  obtain ⟨z,hz,rfl⟩:=ab_.mp hy
  rw [← O.lp]
  exact sX hA
 rw [Wp] at bz
 have v0:∀y∈nd,y.1≠x.1→gY zs ps y.1=0:=fun y hy ne=>by
  rw [← pV]
  exact sz _ (ab_.mpr ⟨y,ad_.mpr ⟨hy,by simpa using ne⟩,rfl⟩)
 have hv:b9 (nd.map (·.2)) fun j=>((gY zs ps j:Int):Rat):=(iF zs ps).trans O.s2
 obtain ⟨a,ha⟩:=P.one hv hx fun y hy ne=>by
  rw [v0 y hy ne]
  rfl
 have c:a≠0:=fun z=>by
  subst z
  obtain ⟨y,hy,ny⟩:=nz
  refine ny (O.ind zs (by rw [lz,O.lp]) (fun j=> ?_) y hy)
  have h:((gY zs ps j:Int):Rat)=((0:Int):Rat):=by
   rw [ha j]
   show 0*col x.2 j=0
   grind
  exact als.mp h
 have le:=BS pr c (v:=fun j=>gY zs ps j) ha j
 refine adb le ?_
 have:=uU j (zs:=zs) (A:=ps) bz fun a ha=>hA a ha j
 rw [O.lp] at this
 refine adb this (ad5 (by omega) (ad5 ?_ (adf _)))
 refine adb (alv (adR _ (show 2*nd.length≤2*(nd.length+1) by omega)) _) ?_
 exact adA (Nat.mul_pos (by omega) (al3 _)) (by omega)
theorem Lv {s b:Nat}(hs:s+1≤1024):(s+1)*((2*(s+1)*2^b)^s*2^b)≤2^((s+1)*(b+11)):=by
 have h1:2*(s+1)*2^b≤2^(b+11):=by
  have:2*(s+1)≤2^11:=by
   show 2*(s+1)≤2048
   omega
  rw [alq,aly (2^b)]
  exact adR _ this
 have h2:(2*(s+1)*2^b)^s≤2^((b+11)*s):=by
  rw [Nat.pow_mul]
  exact alv h1 s
 have h3:s+1≤2^11:=by
  show s+1≤2048
  omega
 have e:(s+1)*(b+11)=11+((b+11)*s+b):=by
  rw [aeN,al_,aly s]
  omega
 rw [e,alq,alq]
 exact ad5 h3 (adR _ h2)
theorem wz {B:List (List Int)}{line lead new:List Int}{c:Nat}(k:mY line lead new c)(h1:b9 B (col line))(h2:b9 B (col lead)):b9 B (col new):=by
 obtain ⟨s,t,u,hs,ht,e⟩:=k.nj
 have zs:=bW hs
 refine ((h1.mul ((t:Rat) / s)).add (h2.mul (-(u:Rat) / s))).congr fun j=> ?_
 have ej:((s*new.getD j 0:Int):Rat)=((t*line.getD j 0 - u*lead.getD j 0:Int):Rat):=by rw [e j]
 rw [ad7,amI,ad7,ad7] at ej
 unfold col
 grind
theorem wA {B:List (List Int)}{line lead new:List Int}{c:Nat}(k:mY line lead new c)(h1:b9 B (col new))(h2:b9 B (col lead)):b9 B (col line):=by
 obtain ⟨s,t,u,hs,ht,e⟩:=k.nj
 have zt:=bW ht
 refine ((h1.mul ((s:Rat) / t)).add (h2.mul ((u:Rat) / t))).congr fun j=> ?_
 have ej:((s*new.getD j 0:Int):Rat)=((t*line.getD j 0 - u*lead.getD j 0:Int):Rat):=by rw [e j]
 rw [ad7,amI,ad7,ad7] at ej
 unfold col
 grind
theorem zA.step {os:List (List Int)}{nd gT :List (Nat×List Int)}{lv uV ps qs:List (List Int)}{lead:List Int}{j c:Nat}(O:zA os nd lv ps qs)(P:zw nd)(ej:lv[j]? =some lead)(hz:∀x∈nd,lead.getD x.1 0=0)(hc:lead.getD c 0≠0)
  (lL:uV.length=(lv.eraseIdx j).length) (ML:∀(i:Nat) (x:List Int),(lv.eraseIdx j)[i]? =some x→∃y,uV[i]? =some y∧mY x lead y c) (lN:gT.length=nd.length) (MN:∀(i:Nat) (x:List Int),(nd.map (·.2))[i]? =some x→∃y,(gT.map (·.2))[i]? =some y∧mY x lead y c):∃Wo Nb,zA os (gT ++[(c,lead)]) uV Wo Nb :=by
 have hj:j < lv.length:=(be.mp ej).1
 obtain ⟨q,eq⟩:∃q,qs[j]? =some q:=⟨_,gE (by rw [O.lq];exact hj)⟩
 obtain ⟨t1,t2⟩:=O.s3 j lead q ej eq
 have ml:lead∈(gT ++[(c,lead)]).map (·.2):=by simp
 have old:∀x∈nd.map (·.2),b9 ((gT ++[(c,lead)]).map (·.2)) (col x):=fun x hx=>by
  obtain ⟨i,ei⟩:=adg hx
  obtain ⟨y,ey,k⟩:=MN i x ei
  refine wA k (b9.mem ?_) (b9.mem ml)
  rw [adv]
  exact adK _ (aa_ ey)
 have Wq:∀y∈gT.map (·.2),∃x∈nd.map (·.2),mY x lead y c:=fun y hy=>by
  obtain ⟨i,ei⟩:=adg hy
  have hi:=(be.mp ei).1
  rw [Wp] at hi
  obtain ⟨x,ex⟩:∃x,(nd.map (·.2))[i]? =some x:=⟨_,gE (by rw [Wp];omega)⟩
  obtain ⟨y',zB,k⟩:=MN i x ex
  rw [ei] at zB
  cases zB
  exact ⟨x,aa_ ex,k⟩
 have up:∀{f:Nat→Rat},b9 ps f→b9 (ps++[q]) f:=fun h=>h.mono fun a ha=>adK _ ha
 refine ⟨ps++[q],qs.eraseIdx j,fun p hp=> ?_,fun p hp=>O.qo p (aev hp),by simp [O.lp,lN],?_,fun x hx=> ?_,fun p hp=> ?_,fun i l' q' e1 e2=> ?_,fun zs lz hzs a ha=> ?_⟩
 ·rcases adq.mp hp with z | z
  ·exact O.po p z
  ·rw [adj.mp z]
   exact O.qo q (aa_ eq)
 ·rw [lL,aet,aet,O.lq]
 ·rcases adq.mp hx with z | z
  ·obtain ⟨y,hy,k⟩:=Wq x.2 (ab_.mpr ⟨x,z,rfl⟩)
   obtain ⟨x0,UR,rfl⟩:=ab_.mp hy
   exact wz k (up (O.s1 x0 UR)) t1
  ·rw [adj.mp z]
   exact t1
 ·rcases adq.mp hp with z | z
  ·exact (O.s2 p z).trans old
  ·rw [adj.mp z]
   refine t2.trans fun a ha=> ?_
   rcases adq.mp ha with h | h
   ·exact old a h
   ·rw [adj.mp h]
    exact b9.mem ml
 ·have hi:=(be.mp e1).1
  obtain ⟨x,ex⟩:∃x,(lv.eraseIdx j)[i]? =some x:=⟨_,gE (by omega)⟩
  obtain ⟨y',zB,k⟩:=ML i x ex
  rw [e1] at zB
  cases zB
  obtain ⟨i',f1,f2⟩:∃i',lv[i']? =some x∧qs[i']? =some q' :=by
   rw [aez] at ex e2
   by_cases h:i < j
   ·rw [if_pos h] at ex e2
    exact ⟨_,ex,e2⟩
   ·rw [if_neg h] at ex e2
    exact ⟨_,ex,e2⟩
  obtain ⟨u1,u2⟩:=O.s3 i' x q' f1 f2
  constructor
  ·refine wz k (u1.mono fun a ha=> ?_) (t1.mono fun a ha=>adK _ ha)
   rcases adq.mp ha with h | h
   ·exact adK _ (adK _ h)
   ·exact adE _ h
  ·refine u2.trans fun a ha=> ?_
   rcases adq.mp ha with h | h
   ·exact (old a h).mono fun b hb=>adK _ hb
   ·rw [adj.mp h]
    exact wA k (b9.mem (by simp)) (b9.mem (adK _ ml))
 ·obtain ⟨pZ,z,rfl⟩:∃pZ z,zs=pZ ++[z]:=by
   rcases al5 zs with h | ⟨pZ,z,h⟩
   ·rw [h] at lz
    simp at lz
   ·exact ⟨pZ,z,by rw [h,al6]⟩
  have O3 :pZ.length=ps.length:=by simpa using lz
  have sp:∀j,gY pZ ps j+z*q.getD j 0=0:=fun j=>by
   rw [← me j z q O3]
   exact hzs j
  have z0:z=0:=by
   apply adN
   intro z0
   have hq:b9 ps (col q):=((iF pZ ps).mul (-1 / (z:Rat))).congr fun j=>by
    have s' :((gY pZ ps j+z*q.getD j 0:Int):Rat)=((0:Int):Rat):=by rw [sp j]
    rw [amH,ad7] at s'
    have zr:(z:Rat)≠0:=bW z0
    unfold col
    grind
   have hl:b9 ps (col lead):=t1.trans fun a ha=>by
    rcases adq.mp ha with h | h
    ·exact b9.mem h
    ·rw [adj.mp h]
     exact hq
   exact hc (P.cols (hl.trans O.s2) hz c)
  rcases adq.mp ha with h | h
  ·exact O.ind pZ O3 (fun j=>by have:=sp j;rw [z0] at this;simpa using this) a h
  ·rw [adj.mp h]
   exact z0
end Ty
set_option maxHeartbeats 4000000
namespace Ty
open PySem PySem.Spec PyProof.Rows L2
section
variable {prog:Program}{w:World}{A:Around}{E:Value→Shared→Prop}{s:Shared}
theorem x3 {it d:Addr}{i ep:Nat}{o:Obj}{es:Array DictEntry}{e:DictEntry}{Q:Option Value→Shared→Prop}(hit:s.heap.IsKeyIter it d i es.size ep)(uJ:s.heap.get? d=some o)(JU:o.data=.dict es ep)(hx:es[i]? =some e)
  (hQ:∀h',h'.IsKeyIter it d (i+1) es.size ep→Heap.SameBut it s.heap h' →Q (some e.key) {s with heap:=h' }):
  wpAny (model prog w) A (pyNext (.ref it)) Q E s:=by
 obtain ⟨hp,g,dr,tk,os⟩:=s
 obtain ⟨⟨oc,od,Wr,kz⟩,JV,O4,Lw⟩:=id hit
 have Ly :oc=.type "dict_keyiterator":=O4
 have Lz :Wr=.fields #[.ref d,.int (i:Int) 0,.int (es.size:Int) 0,.int (ep:Int) 0]:=Lw
 subst Ly Lz
 have hT:Shared.TypeIs ⟨hp,g,dr,tk,os⟩ (.ref it) "dict_keyiterator":=⟨_,JV,O4⟩
 unfold pyNext
 refine wpAny_bind (wpAny_attempt (wpAny_callSpecial?_slot (name:=Str.ofString "__next__") hT PySem.F.slot_dict_keyiterator_next
  (wpAny_call_entry PySem.F.slot_dict_keyiterator_next hT PySem.F.entry_dict_keyiterator_next ?_ (PySem.F.args_dict_keyiterator_next_1 _))))
 refine wpAny_bind (wpAny_pure ?_)
 refine wpAny_bind ?_
 refine wpAny_bind ?_
 first | refine wpAny_bind (wpAny_typeNameOfWhole_keyiter hT (wpAny_pure ?_)) | refine wpAny_bind (wpAny_typeNameOf_keyiter hT (wpAny_pure ?_))
 refine wpAny_bind (wpAny_fieldsOf JV Lw ?_)
 have LA:Builtin.Dict_items.ownsTuple "dict_keyiterator"=false:=by decide
 simp only [LA,aem,if_false]
 show wpAny _ _ (if (Value.ref d==Value.none)=true then _ else _) _ _ _
 rw [if_neg (show ¬ ((Value.ref d==Value.none)=true) from ads)]
 refine wpAny_bind (wpAny_pure ?_)
 refine wpAny_bind (wpAny_dictEntries uJ JU ?_)
 rw [if_neg (by simp)]
 refine wpAny_bind (wpAny_pure ?_)
 refine wpAny_bind (wpAny_dictEpoch uJ JU ?_)
 rw [if_neg (by simp)]
 refine wpAny_pure ?_
 simp only [show ¬ ((i:Int) < 0) from by omega,if_false,alG,hx]
 refine wpAny_bind ?_
 first | refine wpAny_bind (wpAny_typeNameOfWhole_keyiter hT (wpAny_pure ?_)) | refine wpAny_bind (wpAny_typeNameOf_keyiter hT (wpAny_pure ?_))
 refine wpAny_bind (wpAny_isOneOf_keyiter hT ?_)
 show wpAny _ _ (setField (.ref it) 1 (rawInt ((i:Int)+1)) >>=_) _ _ ⟨hp,g,dr,tk,os⟩
 refine wpAny_bind (wpAny_setField JV Lw (by simp) ?_)
 have nq:Heap.SameBut it hp (hp.update it (Obj.mapFields fun BV=>BV.setIfInBounds 1 (rawInt ((i:Int)+1)))):=by
  exact Heap.SameBut.update _ _ _
 have Ws:(hp.update it (Obj.mapFields fun BV=>BV.setIfInBounds 1 (rawInt ((i:Int)+1)))).IsKeyIter it d (i+1) es.size ep:=by
  exact ⟨_,Heap.get?_update_self (Obj.mapFields fun BV=>BV.setIfInBounds 1 (rawInt ((i:Int)+1))) JV rfl,rfl,rfl⟩
 generalize (hp.update it (Obj.mapFields fun BV=>BV.setIfInBounds 1 (rawInt ((i:Int)+1))))=h₁ at nq Ws ⊢
 have hT₁:Shared.TypeIs ⟨h₁,g,dr,tk,os⟩ (.ref it) "dict_keyiterator":=by
  obtain ⟨o1,a1,a2,_⟩:=Ws
  exact ⟨_,a1,a2⟩
 refine wpAny_bind (wpAny_holding ?_)
 refine wpAny_bind (wpAny_isOneOf_keyiter hT₁ ?_)
 rw [if_pos (by decide)]
 exact wpAny_pure (wpAny_pure ⟨_,rfl,wpAny_pure (hQ h₁ Ws nq)⟩)
theorem BW {it d:Addr}{i ep:Nat}{o:Obj}{es:Array DictEntry}{Q:Option Value→Shared→Prop}(hA:A.handled=none)(hit:s.heap.IsKeyIter it d i es.size ep)(uJ:s.heap.get? d=some o)(JU:o.data=.dict es ep)(hx:es[i]? =none)
  (hQ:∀h',Heap.ExtBut it s.heap h' →Q none {s with heap:=h' }):
  wpAny (model prog w) A (pyNext (.ref it)) Q E s:=by
 obtain ⟨hp,g,dr,tk,os⟩:=s
 obtain ⟨⟨oc,od,Wr,kz⟩,JV,O4,Lw⟩:=id hit
 have Ly :oc=.type "dict_keyiterator":=O4
 have Lz :Wr=.fields #[.ref d,.int (i:Int) 0,.int (es.size:Int) 0,.int (ep:Int) 0]:=Lw
 subst Ly Lz
 have hT:Shared.TypeIs ⟨hp,g,dr,tk,os⟩ (.ref it) "dict_keyiterator":=⟨_,JV,O4⟩
 unfold pyNext
 refine wpAny_bind (wpAny_attempt (wpAny_callSpecial?_slot (name:=Str.ofString "__next__") hT PySem.F.slot_dict_keyiterator_next
  (wpAny_call_entry PySem.F.slot_dict_keyiterator_next hT PySem.F.entry_dict_keyiterator_next ?_ (PySem.F.args_dict_keyiterator_next_1 _))))
 refine wpAny_bind (wpAny_pure ?_)
 refine wpAny_bind ?_
 refine wpAny_bind ?_
 first | refine wpAny_bind (wpAny_typeNameOfWhole_keyiter hT (wpAny_pure ?_)) | refine wpAny_bind (wpAny_typeNameOf_keyiter hT (wpAny_pure ?_))
 refine wpAny_bind (wpAny_fieldsOf JV Lw ?_)
 have LA:Builtin.Dict_items.ownsTuple "dict_keyiterator"=false:=by decide
 simp only [LA,aem,if_false]
 show wpAny _ _ (if (Value.ref d==Value.none)=true then _ else _) _ _ _
 rw [if_neg (show ¬ ((Value.ref d==Value.none)=true) from ads)]
 refine wpAny_bind (wpAny_pure ?_)
 refine wpAny_bind (wpAny_dictEntries uJ JU ?_)
 rw [if_neg (by simp)]
 refine wpAny_bind (wpAny_pure ?_)
 refine wpAny_bind (wpAny_dictEpoch uJ JU ?_)
 rw [if_neg (by simp)]
 refine wpAny_pure ?_
 simp only [show ¬ ((i:Int) < 0) from by omega,if_false,alG,hx]
 refine wpAny_bind ?_
 first | refine wpAny_bind (wpAny_typeNameOfWhole_keyiter hT (wpAny_pure ?_)) | refine wpAny_bind (wpAny_typeNameOf_keyiter hT (wpAny_pure ?_))
 show wpAny _ _ (setField (.ref it) 0 Value.none >>=_) _ _ ⟨hp,g,dr,tk,os⟩
 refine wpAny_bind (wpAny_setField JV Lw (by simp) ?_)
 have nq:Heap.SameBut it hp (hp.update it (Obj.mapFields fun BV=>BV.setIfInBounds 0 Value.none)):=Heap.SameBut.update _ _ _
 generalize (hp.update it (Obj.mapFields fun BV=>BV.setIfInBounds 0 Value.none))=h₁ at nq ⊢
 unfold newExc
 refine wpAny_bind (wpAny_bind (wpAny_newTuple ?_))
 refine wpAny_bind ?_
 unfold firstArgMember
 refine wpAny_bind (wpAny_pure (wpAny_pure ?_))
 have hv:∀b:Bool,(if b=true then ([]:List Value).headD Value.none else Value.none)=Value.none:=fun b=>by cases b <;> rfl
 rw [hv]
 first
 | refine wpAny_alloc ?_
 | wp_step
 have own:ownMembersOf (Value.type "StopIteration") []= #[]:=by first | rfl | decide+kernel
 rw [own]
 rw [if_neg (by show ¬ (6 > sizeLine+2);decide)]
 show wpAny _ _ (newObjAsIs (Value.type "StopIteration") _) _ _ _
 wp_step
 refine wpAny_bind (wpAny_alloc ?_)
 refine wpAny_pure ?_
 refine wpAny_raiseNew_none (A:=A.in1) hA ?_
 refine wpAny_bind (wpAny_isInstance (T:="StopIteration") (b:=true) ⟨_,Heap.get?_push_size _ rfl,rfl⟩ isSubtype_stop ?_)
 exact wpAny_pure (hQ _ fun c o1 n x=>Heap.get?_push_of_some _ (Heap.get?_push_of_some _ (nq.extBut c o1 n x)))
end
section
variable {X:Cx}
theorem wB {P:Program}{w:World}{H:Hp}{h:Heap}{d:Addr}{o:Obj}{kvs:List (List Key×V)}{uK:Array DictEntry}{ep:Nat}(ok:gQ P w H h)(e:H d=some (.bP o (.dT kvs)))(he:o.data=.dict uK ep):
  h.get? d=some o∧∃xs,KT H kvs xs∧uK.toList=xs.map (entryOfKey (tupleKind (aV P w)))∧uK.size=kvs.length:=by
 obtain ⟨h1,z,hd,xs,rel,o',es,uq,ho,hx,dD,hk,hn⟩:=ok d _ e
 rw [h1] at ho
 cases ho
 rw [he] at dD
 cases dD
 refine ⟨h1,xs,rel,hk,?_⟩
 have l1:=congrArg aee hk
 rw [Wp,aeK] at l1
 rw [l1]
 exact (Paired.length rel).symm
def x4 (d:Addr)(o:Obj)(kvs:List (List Key×V)):It:=
 ⟨fun i H=>H d=some (.bP o (.dT kvs))∧i < kvs.length,
  fun i H v H' =>H' =H∧∃k x b,kvs[i]? =some (k,x)∧v=.ref b∧H b=some (.tup (k.map kV)),
  fun i H=>H d=some (.bP o (.dT kvs))∧kvs.length≤i⟩
theorem uW {P:Program}{w:World}{K:Frag}{tg:Expr}(d it:Addr)(o:Obj)(kvs:List (List Key×V)){uK:Array DictEntry}{ep:Nat}(he:o.data=.dict uK ep):
  Turn P w K tg (x4 d o kvs) [it] it (fun i h=>h.IsKeyIter it d i kvs.length ep) where
 mem:=by simp
 obj:=fun i h st b hb=>by
  have e:b=it:=by simpa using hb
  subst e
  obtain ⟨o,e,c,d⟩:=st
  exact ⟨o,e,fun v z=>by rw [d] at z;cases z⟩
 keep:=fun i h h' st k=>st.at fun o e=>k it (by simp) o e
 item:=by
  intro X hP hw hK hc i pins s σ H E I hf st hg
  subst hP hw hK
  obtain ⟨fz,hi⟩:=hg
  obtain ⟨h1,xs,rel,hk,hsz⟩:=wB I.bh fz he
  have ek:kvs[i]? =some kvs[i]:=gE hi
  obtain ⟨x,ex,e1,hb,ru⟩:=aK rel ek
  rw [← hsz] at st
  have ee:uK[i]? =some (entryOfKey (tupleKind (aV X.prog X.w)) x):=by
   rw [← Array.getElem?_toList,hk,ir,ex]
   rfl
  obtain ⟨f0,f1,f2,f3,f4,f5⟩:=hf it (by simp)
  refine x3 st h1 he ee fun h' mW sb=> ?_
  have I1:L2.Inv X pins σ H {s with heap:=h' }:=I.turned (t' :=s.toks) (fun b o hb e=>(sb.2 b hb).trans e) f0 f1 f3 f4 f5
  rw [hsz] at mW
  obtain ⟨o',e',c',d'⟩:=id mW
  exact ⟨_,rfl,nQ (s:={s with heap:=h' }) e' c' d' (by decide) ⟨.ref x.2.1,H,I1,rfl,⟨rfl,kvs[i].1,kvs[i].2,x.2.1,ek,rfl,hb⟩,mW,fun b hb=>(hf b hb).1⟩⟩
 done:=by
  intro X hP hw hK hc i pins s σ H E I hf st hg
  subst hP hw hK
  obtain ⟨fz,hi⟩:=hg
  obtain ⟨h1,xs,rel,hk,hsz⟩:=wB I.bh fz he
  rw [← hsz] at st
  obtain ⟨f0,f1,f2,f3,f4,f5⟩:=hf it (by simp)
  exact BW (I.ok.hd hc) st h1 he (Array.getElem?_eq_none (by omega)) fun h' eb=>⟨rfl,I.turned (t' :=s.toks) (fun b o hb e=>eb b o hb e) f0 f1 f3 f4 f5⟩
 self:=fun _ _ _ _ _ st h=>wpAny_pyIter_keyiter st h
theorem Inv.HS {pins:List (Addr×Obj)}{σ:L2.St}{H:Hp}{s:Shared}{d:Addr}{kvs:List (List Key×V)}{o:Obj}(I:L2.Inv X pins σ H s)(e:H d=some (.dT kvs))(ho:s.heap.get? d=some o):L2.Inv X pins σ (upd H d (.bP o (.dT kvs))) s:=by
 have nx:∀b u,H b=some u→b≠d→upd H d (.bP o (.dT kvs)) b=some u:=fun b u q n=>by rw [aj n];exact q
 refine I.step (g' :=s.gens) (t' :=s.toks) (d' :=s.drawn) (ch:=[]) (fun _ z=>nomatch z) (fun b o _ _ _ e _=>e) (fun b o _ _ _ e _=>⟨o.slots,e⟩) (fun b o _ _ n=>by rw [aj (fun z=>by rw [z,e] at n;cases n)];exact n) (fun b o _ e=>⟨o,e⟩)
  (fun b xs q=>nx b _ q fun z=>by rw [z,e] at q;cases q) (fun b o' u q=>nx b _ q fun z=>by rw [z,e] at q;cases q) (fun b ps q=>⟨#[],by rw [nx b _ q fun z=>by rw [z,e] at q;cases q];simp⟩) (fun m hm=>hm) (fun b u q=> ?_) I.bare
 have st:∀{u'},bY X.prog X.w H s.heap b u' →bY X.prog X.w (upd H d (.bP o (.dT kvs))) s.heap b u' :=fun {u'} k=>k.m4 (fun _ _ _ k=>k) (fun c k=>nx c _ k fun z=>by rw [z,e] at k;cases k) fun c xs k=>nx c _ k fun z=>by rw [z,e] at k;cases k
 by_cases hb:b=d
 ·subst hb
  rw [ag] at q
  cases q
  exact ⟨ho,st (I.bh b _ e)⟩
 ·rw [aj hb] at q
  exact st (I.bh b u q)
def LB (H0:Hp)(t:TS):TS:=fun D σ H=>t {D with nx:=fun σ' H' =>∃d o kvs,H' d=some (.bP o (.dT kvs))∧(∀o' u',H0 d≠some (.bP o' u'))∧D.nx σ' (upd H' d (.dT kvs))} σ H
theorem BX {st:Stmt}{t:TS}(h:PS X st t):PS X st (LB X.H₀ t):=by
 intro pins s σ H D I q
 refine wpAny_mono (h pins s σ H _ I q) (fun f s' z=> ?_) fun _ _ z=>z
 cases f with
 | next=>
  obtain ⟨σ',H',I',d,o,kvs,e,n,k⟩:=z
  exact ⟨σ',_,Inv.JS I' e n (fun _ z=>nomatch z),k⟩
 | brk=>exact z
 | cont=>exact z
 | ret u=>exact z
theorem x6 {d:Addr}{o:Obj}{kvs:List (List Key×V)}{g:TG}{tb:TS}{D:Ends}{σ:L2.St}{H:Hp}(Pv:Nat→L2.St→Hp→Prop)(h0:Pv 0 σ H)(hl:∀i σ H,i≤kvs.length→Pv i σ H→H d=some (.bP o (.dT kvs)))
  (hs:∀i k x b σ H,kvs[i]? =some (k,x)→H b=some (.tup (k.map kV))→Pv i σ H→g (.ref b) σ H fun σ2 H2=>tb {D with nx:=Pv (i+1),ct:=Pv (i+1),bk:=D.nx} σ2 H2) (hd:∀σ H,Pv kvs.length σ H→D.nx σ H):
  ∃W:Nat→Nat→L2.St→Hp→Prop,(∃m,W 0 m σ H)∧∀i m σ H,W i m σ H→
   ((x4 d o kvs).stop i H∧D.nx σ H)∨((x4 d o kvs).go i H∧∃N:L2.St→Hp→Prop,(∀σ' H',N σ' H' →∃m',m' < m∧W (i+1) m' σ' H')∧∀x H',(x4 d o kvs).vJ i H x H' →g x σ H' fun σ2 H2=>tb {D with nx:=N,ct:=N,bk:=D.nx} σ2 H2):=by
 refine ⟨fun i m σ H=>m=kvs.length - i∧i≤kvs.length∧Pv i σ H,⟨kvs.length,by simp,adL _,h0⟩,?_⟩
 rintro i m σ H ⟨rfl,hi,p⟩
 have q:=hl i σ H hi p
 by_cases g7:i < kvs.length
 ·refine .inr ⟨⟨q,g7⟩,Pv (i+1),fun σ' H' z=>⟨kvs.length - (i+1),by omega,rfl,by omega,z⟩,fun x H' y=> ?_⟩
  obtain ⟨rfl,k,x',b,ek,rfl,hb⟩:=y
  exact hs i k x' b σ _ ek hb p
 ·have e:i=kvs.length:=by omega
  subst e
  exact .inl ⟨⟨q,adf _⟩,hd σ H p⟩
theorem uX {prog:Program}{w:World}{A:Around}{E:Value→Shared→Prop}{s:Shared}{d:Addr}{o:Obj}{es:Array DictEntry}{ep:Nat}{Q:Value→Shared→Prop}(Wt:(d==sysModules)=false)(uJ:s.heap.get? d=some o)(hx:o.ExactDict)(JU:o.data=.dict es ep)
  (hQ:Q (.ref s.heap.objs.size) {s with heap:=s.heap.push {cls:=.type "dict_keyiterator",data:=.fields #[.ref d,.int 0 0,.int (es.size:Int) 0,.int (ep:Int) 0]}}):wpAny (model prog w) A (pyIter (.ref d)) Q E s:=by
 have hT:s.TypeIs (.ref d) "dict":=⟨_,uJ,hx.1⟩
 refine wpAny_pyIter_slot hT F.slot_dict_iter (wpAny_call_entry F.slot_dict_iter hT F.entry_dict_iter ?_ (F.args_dict_iter_1 _))
 unfold Builtin.«dict.__iter__»
 have EB :(d==sysModules)=false:=Wt
 refine wpAny_bind ?_
 unfold Builtin.Dict.dictSlotNone
 repeat (any_goals (first | (assumption) | exact hT | wp_step))
 rw [if_neg (by rw [hx.1];simp)]
 refine wpAny_pure ?_
 refine wpAny_bind ?_
 unfold slotArgs
 repeat (any_goals (first | (assumption) | exact hT | wp_step))
 rw [JU]
 refine wpAny_pure ?_
 refine wpAny_bind (wpAny_dictEpoch uJ JU ?_)
 refine wpAny_bind ?_
 unfold newFields
 repeat (any_goals (first | (assumption) | exact hT | wp_step))
 exact ⟨_,rfl,"dict_keyiterator",_,⟨_,Heap.get?_push_size _ rfl,rfl⟩,F.slot_dict_keyiterator_next.lookup,hQ⟩
inductive wC (R:(It→Hp→Prop))(x:V)(H1:Hp):Prop where
 | mk (d kvs:_) (_:x=.ref d) (_:H1 d=some (.dT kvs)) (_:∀o,R (x4 d o kvs) (upd H1 d (.bP o (.dT kvs)))):wC R x H1
def LC (te:TE):TI:=fun σ H R=>te σ H fun x H1=>wC R x H1
theorem sY {e:Expr}{te:TE}{tg:Expr}(ho:PE X e te):PI X tg e (LC te):=by
 intro pins s σ H R I h
 refine bK (ho pins s σ H _ I h) fun v s1 ⟨x,H1,I1,r1,q1⟩=> ?_
 obtain ⟨d,kvs,rfl,e,q⟩:=q1
 cases r1
 obtain ⟨z,hd,xs,rel,o,EG,ep,rD,hx,dD,hk,hn⟩:=(show bY X.prog X.w H1 s1.heap d (.dT kvs) from I1.bh d _ e)
 have lv:EG.size=kvs.length:=by
  have l1:=congrArg aee hk
  rw [Wp,aeK] at l1
  rw [l1]
  exact (Paired.length rel).symm
 have I2:=Inv.HS I1 e rD
 refine uX hd rD hx dD ?_
 have I3:L2.Inv X pins σ (upd H1 d (.bP o (.dT kvs))) {s1 with heap:=s1.heap.push {cls:=.type "dict_keyiterator",data:=.fields #[.ref d,.int 0 0,.int (EG.size:Int) 0,.int (ep:Int) 0]}}:=I2.kept (t' :=s1.toks) fun b o e=>Heap.get?_push_of_some _ e
 refine ⟨s1.heap.objs.size,[s1.heap.objs.size],_,_,_,rfl,I3,uW d _ o kvs dD,(show Heap.IsKeyIter _ _ d 0 kvs.length ep from ⟨_,Heap.get?_push_size _ rfl,rfl,by rw [lv];rfl⟩),fun b hb=> ?_,q o⟩
 have eb:b=s1.heap.objs.size:=by simpa using hb
 have le:s1.heap.objs.size≤b:=by rw [eb];exact adf _
 exact I2.iq le (I2.bh.fresh le)
end
theorem cT.tR {H:Hp}{a b:Addr}{o:Obj}{kvs:List (List Key×V)}{k:List Key}(e:H a=some (.bP o (.dT kvs)))(eb:H b=some (.tup (k.map kV))):cT H a (.ref b) (bE kvs k):=.inr ⟨kvs,k,b,.inr ⟨o,e⟩,rfl,eb,rfl⟩
theorem uY {D:Addr}{te:TE}{cap:L2.St}{H1:Hp}{Q:VK}{d:Addr}{o:Obj}{kvs:List (List Key×V)}(Rel:Nat→V→Hp→Prop)(nD:H1 D=none)(hn:kvs.length < sizeLine)(hX:H1 d=some (.bP o (.dT kvs)))
  (hR:∀i v H H' ys,H D=some (.lst ys)→aH D H H' →Rel i v H→Rel i v H')
  (he:∀i k y b H (R:VK),kvs[i]? =some (k,y)→H b=some (.tup (k.map kV))→au H1 H→(∃zs,H D=some (.lst zs))→(∀v H6,au H H6→Rel i v H6→R v H6)→te (some (.ref b)::cap) H R)
  (hd:∀zs H,zs.length=kvs.length→(∀i v,zs[i]? =some v→Rel i v H)→au H1 H→H D=some (.lst zs)→Q (.ref D) H):
  nh D (cY 0) jg te (x4 d o kvs) (none::cap) H1 Q:=by
 refine ⟨fun i m σ zs H=>m=kvs.length - i∧i≤kvs.length∧(∃o,σ=o::cap)∧(zs.length=i∧(∀i v,zs[i]? =some v→Rel i v H)∧au H1 H)∧H D=some (.lst zs),⟨kvs.length,by simp,adL _,⟨none,rfl⟩,⟨rfl,fun i v e=>by simp at e,fun b o e=>by rw [aj (ao e nD)];exact e⟩,ag⟩,?_⟩
 rintro i m σ zs H ⟨rfl,hi,⟨o1,rfl⟩,⟨l,r,s⟩,hD⟩
 by_cases g7:i < kvs.length
 ·refine .inr ⟨⟨s _ _ hX,g7⟩,fun v H' y=> ?_⟩
  obtain ⟨rfl,k,x,b0,q1,rfl,hb0⟩:=y
  unfold cY jg
  dsimp only
  rw [if_pos rfl]
  refine he i k x b0 _ _ q1 hb0 s ⟨zs,hD⟩ fun v H6 s6 rv=>⟨s6 _ _ hD,by omega,kvs.length - (i+1),by omega,rfl,by omega,⟨_,rfl⟩,⟨by simp [l],fun j u e=> ?_,fun b o e=> ?_⟩,ag⟩
  ·by_cases c:j < zs.length
   ·rw [adl c] at e
    have ru:=hR j u H' H6 zs hD (aH.of fun b o q=>s6 _ _ q) (r j u e)
    exact hR j u H6 _ zs (s6 _ _ hD) aH.upd ru
   ·rw [adu (by omega)] at e
    have ej:j=i:=by
     by_cases z:j - zs.length=0
     ·omega
     ·rw [ac_ (by simp;omega)] at e
      cases e
    subst ej
    have:v=u:=by
     rw [show j - zs.length=0 by omega] at e
     exact adB e
    subst this
    exact hR j v H6 _ zs (s6 _ _ hD) aH.upd rv
  ·rw [aj (ao e nD)]
   exact s6 _ _ (s _ _ e)
 ·have e:i=kvs.length:=by omega
  subst e
  exact .inl ⟨⟨s _ _ hX,adf _⟩,hd zs H l r s hD⟩
end Ty
set_option maxHeartbeats 4000000
namespace T_k47
open PySem PySem.Spec PyProof.Rows L2 Ty
open Builtin.Int (intBits)
seal L2.PE L2.PS L2.PSs L2.PA
theorem sq {N P:List Str}{sc:Scope}(a:sc.kind=.function:=by exact rfl)(b:sc.isCoroutine=false:=by exact rfl)(c:sc.isGenerator=false:=by exact rfl)(d:N.Nodup:=by decide+kernel)(e:N.take P.length=P:=by exact rfl)(f:∀x∈P,sc.names.lookup x=some .local∨sc.names.lookup x=some .cell:=by decide+kernel)(g:∀y∈sc.names,y.2≠.free:=by decide+kernel):aC N P sc:=⟨a,b,c,d,e,f,g⟩
theorem pY (P:Program)(w:World){X:Cx}:Passes (aS P w) X.vI E0:=rZ aS.pG
theorem pX {P:Program}{w:World}{X:Cx}:Passes (aS P w) X.vI E0:=rZ aS.pG
theorem _root_.L2.bV.mo {j k:Nat}{A:Around}(r:L2.bV k A)(h:j≤k:=by decide):L2.bV j A:=r.mono h
theorem aR {X:Cx}{a:Expr}{ta:TE}{i j p1 p2}(h:PE X a ta):PE X (.Subscript a (.Constant (.int i) j p1) p2) (M1 (GP X.K) ta (tC (.int i))):=bc uD h ah (fun _ _=>rfl)
theorem wD {X:Cx}{a:Expr}{ta:TE}{i j p1 p2}(h:PE X a ta):PE X (.Subscript a (.Constant (.int i) j p1) p2) (M1 (GO X.K) ta (tC (.int i))):=bc a_ h ah (fun _ _=>rfl)
theorem _root_.L2.mX.x8 {K:Frag}{x qual:Str}{st:Stmt}{f:Addr}{fd:FuncData}{ps:List Str}(F:L2.mX K x qual st f fd)
 (h:∀(kV doc pm:Value) (an:Option Addr) (bj ct:Value) (us:List Value),us.length=ps.length→bindArgs (fnOf x qual (aw st) (av st) (af st) .none kV doc pm an bj ct) ⟨us,[]⟩=pure (ps.zip us):=by first | exact (fun _ _ _ _ _ _ us hl=>match us,hl with | [_],_=>rfl) | exact (fun _ _ _ _ _ _ us hl=>match us,hl with | [_,_],_=>rfl) | exact (fun _ _ _ _ _ _ us hl=>match us,hl with | [_,_,_],_=>rfl) | exact (fun _ _ _ _ _ _ us hl=>match us,hl with | [_,_,_,_],_=>rfl) | exact (fun _ _ _ _ _ _ us hl=>match us,hl with | [_,_,_,_,_],_=>rfl)):Binds K fd ps []:=F.binds h
theorem fu {K:Frag}{mg:Str→Option Value}{h:Heap}{x:Str}{st:Stmt}{ps:List Str}{f:Addr}{oc:Value}{od an:Option Addr}{kz:Array (Option Value)}{kV doc pm bj ct:Value}(X:K.In h)(G:h.Ns mainGlobals mg)(l:K.lookup f=some ⟨oc,od,.func (fnOf x x (aw st) (av st) (af st) .none kV doc pm an bj ct),kz⟩)(c:codeIn K bj x=true)(k:keepIn K (.ref f)=true)(a:nsIn K mainGlobals x=some (some (.ref f)))
 (b:∀(kV doc pm:Value) (an:Option Addr) (bj ct:Value) (us:List Value),us.length=ps.length→bindArgs (fnOf x x (aw st) (av st) (af st) .none kV doc pm an bj ct) ⟨us,[]⟩=pure (ps.zip us):=by first | exact (fun _ _ _ _ _ _ us hl=>match us,hl with | [_],_=>rfl) | exact (fun _ _ _ _ _ _ us hl=>match us,hl with | [_,_],_=>rfl) | exact (fun _ _ _ _ _ _ us hl=>match us,hl with | [_,_,_],_=>rfl) | exact (fun _ _ _ _ _ _ us hl=>match us,hl with | [_,_,_,_],_=>rfl) | exact (fun _ _ _ _ _ _ us hl=>match us,hl with | [_,_,_,_,_],_=>rfl) | exact (fun _ _ _ _ _ _ us hl=>match us,hl with | [_,_,_,_,_,_],_=>rfl) | exact (fun _ _ _ _ _ _ us hl=>match us,hl with | [_,_,_,_,_,_,_],_=>rfl)):Def K mg x st ps:=Def.of (cF l c k) ((cF l c k).binds b) (mg_of X G a)
def top (i:Nat):Stmt:=PySem.Challenge.pw_trussyard_k47_whole_rest_by_motions.main.body.getD i (.Pass ⟨0,0,0,0⟩)
abbrev uZ:Stmt:=top 14
abbrev sZ:Stmt:=top 15
abbrev x9:Stmt:=top 16
abbrev x_:Stmt:=top 19
abbrev u0:Stmt:=top 20
abbrev df:Stmt:=top 22
abbrev ya:Stmt:=top 23
abbrev yb:Stmt:=top 24
abbrev yc:Stmt:=top 25
abbrev yd:Stmt:=top 26
abbrev ye:Stmt:=top 27
abbrev yf:Stmt:=top 28
abbrev yg:Stmt:=top 30
abbrev bQ:Stmt:=top 31
abbrev cA:Stmt:=top 32
abbrev yh:Stmt:=top 33
abbrev yi:Stmt:=top 34
abbrev yj:Stmt:=top 35
abbrev yk:Stmt:=top 36
abbrev ym:Stmt:=top 37
abbrev yn:Stmt:=top 38
abbrev yo:Stmt:=top 39
abbrev yp:Stmt:=top 41
abbrev cB:Stmt:=top 51
abbrev yq:Stmt:=top 53
abbrev yr:Stmt:=top 54
abbrev yt:Stmt:=top 55
abbrev yu:Stmt:=top 56
abbrev yv:Stmt:=top 57
abbrev yw:Stmt:=top 58
abbrev u3:Stmt:=top 59
abbrev yx:Stmt:=top 60
abbrev yy:Stmt:=top 61
abbrev yz:Stmt:=top 62
abbrev yA:Stmt:=top 63
abbrev yB:Stmt:=top 64
abbrev yC:Stmt:=top 65
abbrev yD:Stmt:=top 66
abbrev s_by:Stmt:=top 67
abbrev cC:Stmt:=top 68
abbrev cR:Stmt:=top 69
abbrev iG:Stmt:=top 70
abbrev yE:Stmt:=inClass (top 45) 0
abbrev j_:Stmt:=inClass (top 45) 1
abbrev yF:Stmt:=inClass (top 45) 2
abbrev yG:Stmt:=inClass (top 45) 3
abbrev yH:Stmt:=inClass (top 45) 4
abbrev yI:Stmt:=inClass (top 45) 7
abbrev yJ:Stmt:=inClass (top 45) 8
abbrev yK:Stmt:=inClass (top 45) 9
abbrev yL:Stmt:=inClass (top 45) 10
abbrev yM:Stmt:=inClass (top 45) 11
abbrev HU:Stmt:=inClass (top 47) 0
abbrev yN:Stmt:=inClass (top 48) 0
abbrev yO:Stmt:=inClass (top 48) 1
abbrev yP:Stmt:=inClass (top 49) 0
section
variable {P:Program}{w:World}{K:Frag}{mg:Str→Option Value}{base:Heap}{CX:i7}
def Nm (H:Hp)(v:V)(q:Int×Int):Prop:=∃p,v=.ref p∧H p=some (.tup [.int q.1,.int q.2])
structure O5 (k:Nat)(q:Int×Int):Prop where
 pos:0 < q.2
 top:intBits q.1≤k
 bot:intBits q.2≤k
theorem ay {H:Hp}{p:Addr}(h:H p=none)(o:HO):au H (upd H p o):=fun b u q=>by rw [aj (ao q h)];exact q
theorem nw {H H' :Hp}{l:Addr}{o:HO}(n:H l=none)(e:upd H l o=H'):au H H' ∧H' l=some o:=by subst e;exact ⟨ay n o,ag⟩
def gives (H:Hp)(Q:VK)(q:Int×Int):Prop:=∀(p:Addr) (H' :Hp),au H H' →H' p=some (.tup [.int q.1,.int q.2])→Q (.ref p) H'
inductive fw (vs:List V)(H:Hp)(Q:VK)(E_:XK):Prop where
 | mk (a b:Int) (_:vs=[.int a,.int b]) (_:Q (.int (gz a b)) H):fw vs H Q E_
def subQ (x y:Int×Int):Int×Int:=low (x.1*y.2 - y.1*x.2) (x.2*y.2)
theorem HV {x y:Int×Int}{k l:Nat}(hx:O5 k x)(hy:O5 l y):x.2*y.2≠0:=adV (aes hx.pos hy.pos)
theorem gZ {a b:V}:i8 [a,b] 0=some a:=rfl
theorem ig {a b:V}:i8 [a,b] 1=some b:=rfl
theorem Nm.kept {H H' :Hp}{D:Addr}{ys:List V}{v:V}{q:Int×Int}(h:Nm H v q)(hD:H D=some (.lst ys))(k:aH D H H'):Nm H' v q:=by
 obtain ⟨p,e,z⟩:=h
 exact ⟨p,e,k p _ (fun e=>by rw [e,hD] at z;cases z) z⟩
inductive Ln (H:Hp)(v:V)(l:List Int):Prop where
 | mk (p:_) (_:v=.ref p) (_:H p=some (.lst (l.map V.int))):Ln H v l
theorem Ln.same {H H' :Hp}{v:V}{l:List Int}(h:Ln H v l)(s:au H H'):Ln H' v l:=by
 obtain ⟨p,e,k⟩:=h
 exact ⟨p,e,s _ _ k⟩
def mf (H:Hp)(us:List V)(ls:List (List Int)):Prop:=us.length=ls.length∧∀(i:Nat) (u:V) (l:List Int),us[i]? =some u→ls[i]? =some l→Ln H u l
theorem mf.same {H H' :Hp}{us:List V}{ls:List (List Int)}(h:mf H us ls)(s:au H H'):mf H' us ls:=⟨h.1,fun i u l e1 e2=>(h.2 i u l e1 e2).same s⟩
theorem jU {l:List Int}{j:Nat}(h:j < l.length):i8 (l.map V.int) (j:Int)=some (.int (l.getD j 0)):=cU (by rw [ir,gE h,ado,gE h];rfl)
theorem getD_mem {l:List Int}{j:Nat}{x:Int}(e:l[j]? =some x):l.getD j 0=x:=by rw [ado,e];rfl
def Bd (b:Nat)(l:List Int):Prop:=∀j,(l.getD j 0).natAbs≤2^b
theorem Bd.mem {b:Nat}{l:List Int}(h:Bd b l){x:Int}(hx:x∈l):x.natAbs≤2^b:=by
 obtain ⟨i,hi⟩:=adg hx
 rw [← getD_mem hi]
 exact h i
theorem Bd.up {b c:Nat}{l:List Int}(h:Bd b l)(hc:b≤c):Bd c l:=fun j=>lM (h j) hc
theorem wG:aC ["one","other","left"] ["one","other"] (af x9):=sq
theorem O6 (D:Def K mg "greatest_shared" x9 ["one","other"])(iH:mg "abs"=none):Fn P w K mg base CX 1 "greatest_shared" ["one","other"] fw:=by
 refine D.ok wG (fun vs H Q E h=> ?_) (fun f bj A outer s H vs Q E hr h=> ?_)
 ·obtain ⟨a,b,rfl,_⟩:=h
  rfl
 obtain ⟨a,b,rfl,q⟩:=h
 refine ⟨_,(ae (kY PassesOwn.never (aL vN (pv 1) ah (aZ _)) (ae (ax (i:=2) wG.nd rfl (adi rfl) (aA dq (pv 0) (pv 1)))
   (ae (ax (i:=0) wG.nd rfl (adi rfl) (pv 1))
   (ak (ax (i:=1) wG.nd rfl (adi rfl) (pv 2))))))
  (ak (aG (a8 k9 rfl iH AJ (ar (pv 0) aa))))),?_⟩
 refine rL (fun σ H' =>∃(x y:Int) (l:Option V),σ=[some (.int x),some (.int y),l]∧H' =H∧adW x y=adW a b) (fun σ _=>match σ with | [_,some (.int y),_]=>y.natAbs | _=>0) ⟨a,b,none,rfl,rfl,rfl⟩ ?_ ?_
 ·rintro σ H' ⟨x,y,l,rfl,rfl,g⟩
  refine ⟨_,rfl,rfl,_,rfl,?_⟩
  refine bB (fun c=> ?_) (fun c=> ?_)
  ·have hy:y≠0:=by
    intro z
    subst z
    simp at c
   refine ⟨_,rfl,_,rfl,_,_,rfl,rfl,hy,?_⟩
   refine ⟨_,rfl,_,rfl,?_⟩
   exact ⟨⟨_,_,_,rfl,rfl,by rw [rS];exact g⟩,oa hy⟩
  ·have hy:y=0:=by
    have:=ag_.mpr c
    simp at this
    exact this
   subst hy
   refine ⟨_,rfl,x,rfl,?_⟩
   have e:(if x < 0 then -x else x)=gz a b:=by
    rw [ame] at g
    unfold gz
    rw [← g]
    split <;> omega
   rw [e]
   exact q
 ·rintro σ H' Q1 Q2 h ⟨v,e1,e2,k,ek,z⟩
  exact ⟨v,e1,e2,k,ek,h _ _ z⟩
inductive d3 (vs:List V)(H:Hp)(Q:VK)(E_:XK):Prop where
 | mk (t b:Int) (_:vs=[.int t,.int b]) (_:b≠0) (_:gives H Q (low t b)):d3 vs H Q E_
theorem BY:aC ["top","bottom","shared"] ["top","bottom"] (af sZ):=sq
theorem O7 (ht:P.given.tree=none)(D:Def K mg "lowest_terms" sZ ["top","bottom"])(u4:Fn P w K mg base (aS P w) 1 "greatest_shared" ["one","other"] fw):Fn P w K mg base (aS P w) 33 "lowest_terms" ["top","bottom"] d3:=by
 refine D.ok BY (fun vs H Q E h=> ?_) (fun f bj A outer s H vs Q E hr h=> ?_)
 ·obtain ⟨t,b,rfl,_⟩:=h
  rfl
 obtain ⟨t,b,rfl,hb,q⟩:=h
 have O8:∃tt,PSs (j8 (aS P w) P w K mg base ["top","bottom","shared"] "lowest_terms" (af sZ) f bj A outer s H E).vI ((av sZ).drop 2) tt∧∀g:Int,g=sg t b→tt {nx:=fun _ H' =>Q .cp H',rt:=Q} [some (.int t),some (.int b),some (.int g)] H:=by
  refine ⟨_,(ak (aG (aI (ar (aA (eg ht (Ty.bV.py hr (by decide)) rfl rfl rfl rfl rfl) (pv 0) (pv 2)) (ar (aA (eg ht (Ty.bV.py hr (by decide)) rfl rfl rfl rfl rfl) (pv 1) (pv 2)) aa))))),?_⟩
  rintro g rfl
  have c:=lE (t:=t) hb
  refine ⟨_,rfl,_,rfl,_,_,rfl,rfl,c,_,rfl,_,rfl,_,_,rfl,rfl,c,(by show 2≤sizeLine;decide),fun p hp=> ?_⟩
  exact q p _ (ay hp _) ag
 obtain ⟨t2,p2,q2⟩:=O8
 refine ⟨_,(ae (ax (i:=2) BY.nd rfl (adi rfl) (aD u4 hr.mo pX (ar (pv 0) (ar (pv 1) aa)))) (ae (bC (aL nR (pv 1) ah (aZ _)) (ak (ax (i:=2) BY.nd rfl (adi rfl) (Jy zV (pv 2)))) aQ) p2)),?_⟩
 refine ⟨_,rfl,_,rfl,t,b,rfl,?_⟩
 refine ⟨_,rfl,_,_,rfl,rfl,_,rfl,?_⟩
 refine bB (fun c=> ?_) (fun c=> ?_)
 ·refine ⟨_,rfl,_,rfl,q2 _ ?_⟩
  have c' :b < 0:=of_decide_eq_true c
  unfold sg
  rw [if_pos c']
 ·refine q2 _ ?_
  have c' :¬ b < 0:=of_decide_eq_false (ag_.mpr c)
  unfold sg
  rw [if_neg c']
inductive HW (K:Frag)(vs:List V)(H:Hp)(Q:VK)(E_:XK):Prop where
 | mk (a:Addr) (qs:List (Int×Int)) (T B:Nat) (_:vs=[.ref a]) (_:Wi K H a qs) (_:(∀q∈qs,Sm T B q)) (_:T≤20000) (_:B*qs.length≤100000) (_:B≤8000) (_:qs.length≤1000) (_:∀(p l:Addr) (ts:List Int) (b:Int) (H' :Hp),au H H' →H l=none→H' p=some (.tup [.ref l,.int b])→H' l=some (.lst (ts.map V.int))→0 < b→b.natAbs≤2^(B*qs.length)→f7 ts qs b→(∀t∈ts,t.natAbs≤2^(T+B*qs.length))→Q (.ref p) H'):HW K vs H Q E_
theorem wH:aC ["row","bottom","number"] ["row"] (af yi):=sq
theorem O9 (D:Def K mg "whole_row" yi ["row"])(u4:Fn P w K mg base (aS P w) 1 "greatest_shared" ["one","other"] fw):Fn P w K mg base (aS P w) 2 "whole_row" ["row"] (HW K):=by
 refine D.ok wH (fun vs H Q E h=> ?_) (fun f bj A outer s H vs Q E hr h=> ?_)
 ·obtain ⟨a,qs,T,B,rfl,_⟩:=h
  rfl
 obtain ⟨a,qs,T,B,rfl,⟨us,hS,hN⟩,sm,hT,hB,US,hl,q⟩:=h
 refine ⟨_,(ae (ax (i:=1) wH.nd rfl (ad0 rfl) ah)
  (ae (bo PassesOwn.never rfl (bF (pv 0)) (aE (i:=2) wH.nd rfl (adi rfl)) (ak (ax (i:=1) wH.nd rfl (ad0 rfl) (aA bN (aA lH (pv 1) (aD u4 hr.mo pX (ar (pv 1) (ar (aR (pv 2)) aa)))) (aR (pv 2))))))
  (ak (aG (aI (ar (du (tn:=["number"]) (fr:=["bottom"]) (caps:=[1]) rfl ⟨rfl,by decide+kernel,rfl,by decide+kernel,by decide+kernel,rfl,⟨(by first | exact adi rfl | exact ad0 rfl),trivial⟩,⟨(by first | exact adi rfl | exact ad0 rfl),trivial⟩⟩ (bF (pv 0)) (fun _ _ _ _=>(aE (i:=0) (show (["number","bottom"]:List Str).Nodup from by decide+kernel) rfl (adi rfl))) (fun _ _ _ _=>c_) (fun _ _ _ _=>(aA bN (bc (dP (K:=K) rfl) (pv 0) ah (fun _ _=>rfl)) (aA lH (pv 1) (bc (dP (K:=K) rfl) (pv 0) ah (fun _ _=>rfl)))))) (ar (pv 1) aa))))))),?_⟩
 have hlu:=hN.1
 have qat:∀{i:Nat} {u:V},us[i]? =some u→∃q,qs[i]? =some q∧jR K H u q∧Sm T B q:=fun {i u} e=>by
  have hi:i < us.length:=(be.mp e).1
  have e2:qs[i]? =some (qs[i]'(by omega)):=gE (by omega)
  exact ⟨_,e2,hN.2 i u _ e e2,sm _ (aea _)⟩
 refine ⟨_,rfl,a,rfl,⟨_,hS⟩,cv (K:=K) (a:=a) (xs:=us) (fun i σ H' =>∃(b:Int) (o:Option V),σ=[some (.ref a),some (.int b),o]∧H' =H∧0 < b∧b.natAbs≤2^(B*i)∧∀j,j < i→∀q,qs[j]? =some q→q.2 ∣ b) ⟨1,none,rfl,rfl,by decide,by simp,fun j h=>absurd h (ad6 _)⟩ (fun i σ H' _ ⟨b,o,_,e,_⟩=>by rw [e];exact hS) ?_ ?_⟩
 ·rintro i u σ H' hu ⟨b,o,rfl,rfl,hb,hs,hd⟩
  obtain ⟨n,en,⟨p,rfl,hp⟩,sn⟩:=qat hu
  have hi:i < qs.length:=(be.mp en).1
  have nb:n.2.natAbs≤2^B:=sn.bot
  obtain ⟨l1,l2,l3,l4⟩:=AR hb sn.pos
  have gp:=pC (t:=b) (b:=n.2) (by have:=sn.pos;omega)
  have gl:=N' (t:=b) (b:=n.2) (by have:=sn.pos;omega)
  have sz:(b.fdiv (gz b n.2)*n.2).natAbs≤2^(B*(i+1)):=by
   refine adb l4 ?_
   rw [Nat.mul_succ,alq]
   exact ad5 hs nb
  have bi:B*i≤100000:=adb (Nat.mul_le_mul_left B (by omega)) hB
  have g1:gz b n.2 ∣ b:=aew ..
  refine ⟨_,rfl,_,rfl,_,rfl,p,_,_,_,rfl,rfl,hp,ig,b,n.2,rfl,?_⟩
  refine ⟨_,_,rfl,rfl,⟨by omega,adb (gJ (adb gl nb) (adO B)) (by omega)⟩,?_⟩
  refine ⟨_,rfl,p,_,_,_,rfl,rfl,hp,ig,_,_,rfl,rfl,kF (adb (fh (by omega) g1) hs) nb (by omega) (by omega),?_⟩
  refine ⟨_,_,rfl,rfl,l1,sz,fun j hj q' e' => ?_⟩
  rcases adX.mp hj with z | z
  ·exact Int.dvd_trans (hd j z q' e') l2
  ·subst z
   rw [en] at e'
   cases e'
   exact l3
 ·rintro σ H' ⟨b,o,rfl,rfl,hb,hs,hd⟩
  rw [hlu] at hs hd
  refine ⟨_,rfl,a,rfl,⟨_,hS⟩,fun D nD=> ?_⟩
  refine dZ (cap:=[some (.int b)]) (K:=K) (a:=a) (xs:=us) (fun i v _=>∃q,qs[i]? =some q∧v=.int (q.1*b.fdiv q.2)) nD (by rw [hlu];exact adm hl (by decide)) (fun H2 s2=>s2.seq hS) (fun _ _ _ _ _ _ _ h=>h) ?_ ?_
  ·intro i u H2 R hu s2 k
   obtain ⟨n,en,⟨p,rfl,hp⟩,sn⟩:=qat hu
   have Ox:=Ty.au.fK s2 hp
   have dv:=hd i (be.mp en).1 n en
   have n0:n.2≠0:=by have:=sn.pos;omega
   refine ⟨_,rfl,p,_,_,_,rfl,rfl,Ox,gZ,?_⟩
   refine ⟨_,rfl,_,rfl,p,_,_,_,rfl,rfl,Ox,ig,_,_,rfl,rfl,⟨n0,adb (gJ sn.bot (adO B)) (by omega)⟩,?_⟩
   exact ⟨_,_,rfl,rfl,kF sn.top (adb (fh n0 dv) hs) (by omega) (by omega),k _ _ (au.refl _) ⟨n,en,rfl⟩⟩
  ·intro ys H2 hy gx s2 hD
   have ey:ys=(qs.map fun n=>n.1*b.fdiv n.2).map V.int:=by
    refine adT fun i=> ?_
    by_cases hi:i < ys.length
    ·have e1:ys[i]? =some ys[i]:=gE hi
     obtain ⟨n,en,ev⟩:=gx i _ e1
     rw [e1,ev,ir,ir,en]
     rfl
    ·rw [ac_ (by omega),ac_ (by simp;omega)]
   refine ⟨_,rfl,(by show 2≤sizeLine;decide),fun p np=> ?_⟩
   have s3:=ay np (.tup [.ref D,.int b])
   refine q p D (qs.map fun n=>n.1*b.fdiv n.2) b _ (s2.trans s3) nD ag (s3 _ _ (by rw [hD,ey])) hb hs ⟨by simp,fun i t n e1 e2=> ?_⟩ (fun t ht=> ?_)
   ·rw [ir,e2] at e1
    have xw :n.1*b.fdiv n.2=t:=adB e1
    rw [← xw]
    exact xD (sm n (aa_ e2)).pos (hd i (be.mp e2).1 n e2)
   ·obtain ⟨n,hn,rfl⟩:=ab_.mp ht
    obtain ⟨i,hi⟩:=adg hn
    have n0:n.2≠0:=by have:=(sm n hn).pos;omega
    exact pQ (sm n hn).top (adb (fh n0 (hd i (be.mp hi).1 n hi)) hs)
structure Dv (l l' :List Int):Prop where
 len:l'.length=l.length
 UT:∃g:Int,g≠0∧∀j,g*l'.getD j 0=l.getD j 0
def LD (l:List Int):Prop:=O1 l∨∀j,l.getD j 0=0
theorem s_ {l:List Int}{d:Int}(h:∀j,d ∣ l.getD j 0){i:Nat}{x:Int}(e:l[i]? =some x):d ∣ x:=by
 rw [← getD_mem e]
 exact h i
inductive jx (vs:List V)(H:Hp)(Q:VK)(E_:XK):Prop where
 | mk (v:V) (l:List Int) (_:vs=[v]) (_:Ln H v l) (_:l.length≤1000) (_:∀v' l' H',au H H' →Ln H' v' l' →Dv l l' →LD l' →(v' =v∨∃p,v' =.ref p∧H p=none)→Q v' H'):jx vs H Q E_
theorem HX (l:List Int):Dv l l:=⟨rfl,1,by decide,fun j=>Int.one_mul _⟩
theorem wI:aC ["line","shared","whole"] ["line"] (af yo):=sq
theorem O_ (ht:P.given.tree=none)(D:Def K mg "divided" yo ["line"])(u4:Fn P w K mg base (aS P w) 1 "greatest_shared" ["one","other"] fw):Fn P w K mg base (aS P w) 33 "divided" ["line"] jx:=by
 refine D.ok wI (fun vs H Q E h=> ?_) (fun f bj A outer s H vs Q E hr h=> ?_)
 ·obtain ⟨v,l,rfl,_⟩:=h
  rfl
 obtain ⟨v,l,rfl,⟨a,rfl,ha⟩,hn,q⟩:=h
 have same:LD l→Q (.ref a) H:=fun pz=>q _ l H (au.refl H) ⟨a,rfl,ha⟩ (HX l) pz (.inl rfl)
 refine ⟨_,(ae (ax (i:=1) wI.nd rfl (ad0 rfl) ah)
  (ae (bo PassesOwn.never rfl (bF (pv 0)) (aE (i:=2) wI.nd rfl (adi rfl)) (ae (ax (i:=1) wI.nd rfl (ad0 rfl) (aD u4 hr.mo pX (ar (pv 2) (ar (pv 1) aa))))
   (ak (bC (aL cZ (pv 1) ah (aZ _)) (ak (aG (pv 0))) aQ))))
  (ak (aG (rH (aL zX (pv 1) ah (aZ _)) (du (tn:=["whole"]) (fr:=["shared"]) (caps:=[1]) rfl ⟨rfl,by decide+kernel,rfl,by decide+kernel,by decide+kernel,rfl,⟨(by first | exact adi rfl | exact ad0 rfl),trivial⟩,⟨(by first | exact adi rfl | exact ad0 rfl),trivial⟩⟩ (bF (pv 0)) (fun _ _ _ _=>(aE (i:=0) (show (["whole","shared"]:List Str).Nodup from by decide+kernel) rfl (adi rfl))) (fun _ _ _ _=>c_) (fun _ _ _ _=>(aA (eg ht (Ty.bV.py hr (by decide)) rfl rfl rfl rfl rfl) (pv 0) (pv 1)))) (pv 0)))))),?_⟩
 refine ⟨_,rfl,a,rfl,⟨_,aU.of ha⟩,cv (K:=K) (a:=a) (xs:=l.map V.int) (fun i σ H' =>∃(g:Int) (o:Option V),σ=[some (.ref a),some (.int g),o]∧H' =H∧0≤g∧(∀j,j < i→∀x,l[j]? =some x→g ∣ x)∧(∀d:Int,(∀j,j < i→∀x,l[j]? =some x→d ∣ x)→d ∣ g)∧(0 < i→g≠1)) ⟨0,none,rfl,rfl,by decide,(fun j h=>absurd h (ad6 _)),(fun d _=>Int.dvd_zero d),fun h=>absurd h (aek _)⟩ (fun i σ H' _ ⟨g,o,_,e,_⟩=>by rw [e];exact aU.of ha) ?_ ?_⟩
 ·rintro i u σ H' hu ⟨g,o,rfl,rfl,g0,hg,hd,_⟩
  rw [ir] at hu
  obtain ⟨x,ex,rfl⟩:=adk.mp hu
  have d1:gz x g ∣ x:=aew ..
  have d2:gz x g ∣ g:=aeq ..
  have p0:0≤gz x g:=Int.natCast_nonneg _
  refine ⟨_,rfl,_,rfl,x,g,rfl,?_⟩
  refine ⟨_,rfl,rfl,_,rfl,?_⟩
  refine bB (fun z=>⟨_,rfl,same (.inl fun d EB => ?_)⟩) (fun z=> ?_)
  ·have z' :gz x g=1:=by simpa using of_decide_eq_true z
   have h1:d ∣ gz x g:=amJ (s_ EB ex) (hd d fun j _ y ey=>s_ EB ey)
   rw [z'] at h1
   have:=aeC.mpr h1
   simpa using this
  refine ⟨_,_,rfl,rfl,p0,fun j hj y ey=> ?_,fun d h=> ?_,fun _ e=>z (by rw [e];rfl)⟩
  ·rcases adX.mp hj with z | z
   ·exact Int.dvd_trans d2 (hg j z y ey)
   ·subst z
    rw [ex] at ey
    cases ey
    exact d1
  ·exact amJ (h i (adO _) x ex) (hd d fun j hj y ey=>h j (aeh hj) y ey)
 ·rintro σ H' ⟨g,o,rfl,rfl,g0,hg,hd,hg1⟩
  rw [Wp] at hg hd hg1
  refine ⟨_,rfl,_,_,rfl,rfl,_,rfl,?_⟩
  refine bB (fun c=> ?_) (fun c=>⟨_,rfl,same (.inr fun j=> ?_)⟩)
  rotate_left
  ·have c' :¬ (1:Int) < g:=fun z=>c (decide_eq_true z)
   by_cases hj:j < l.length
   ·have gz:g=0:=by
     have:=hg1 (by omega)
     omega
    have ej:l[j]? =some l[j]:=gE hj
    have:=hg j hj _ ej
    rw [gz] at this
    rw [getD_mem ej]
    exact Int.zero_dvd.mp this
   ·rw [ado,ac_ (by omega)]
    rfl
  have g1:(1:Int) < g:=of_decide_eq_true c
  have gn:g≠0:=by omega
  refine ⟨_,rfl,a,rfl,⟨_,aU.of ha⟩,fun D nD=> ?_⟩
  refine dZ (cap:=[some (.int g)]) (K:=K) (a:=a) (xs:=l.map V.int) (fun i v _=>∃x,l[i]? =some x∧v=.int (x.fdiv g)) nD (by rw [Wp];exact adm hn (by decide)) (fun H2 s2=>aU.of (s2 _ _ ha)) (fun _ _ _ _ _ _ _ h=>h) ?_ ?_
  ·intro i u H2 R hu s2 k
   rw [ir] at hu
   obtain ⟨x,ex,rfl⟩:=adk.mp hu
   exact ⟨_,rfl,_,rfl,_,_,rfl,rfl,gn,k _ _ (au.refl _) ⟨x,ex,rfl⟩⟩
  ·intro ys H2 hy gx s2 hD
   rw [Wp] at hy
   have ey:ys=(l.map fun x=>x.fdiv g).map V.int:=by
    refine adT fun i=> ?_
    by_cases hi:i < ys.length
    ·have e1:ys[i]? =some ys[i]:=gE hi
     obtain ⟨x,ex,ev⟩:=gx i _ e1
     rw [e1,ev,ir,ir,ex]
     rfl
    ·rw [ac_ (by omega),ac_ (by simp;omega)]
   have UT:∀j,g*(l.map fun x=>x.fdiv g).getD j 0=l.getD j 0:=fun j=>by
    by_cases hj:j < l.length
    ·have ej:l[j]? =some l[j]:=gE hj
     rw [getD_mem (l:=l.map fun x=>x.fdiv g) (x:=l[j].fdiv g) (by rw [ir,ej];rfl),getD_mem ej]
     exact (bS gn (hg j hj _ ej)).symm
    ·rw [ado,ado,ac_ (by simp;omega),ac_ (by omega)]
     simp
   refine q _ (l.map fun x=>x.fdiv g) H2 s2 ⟨D,rfl,by rw [hD,ey]⟩ ⟨by simp,g,gn,UT⟩ (.inl fun d EB => ?_) (.inr ⟨D,rfl,nD⟩)
   have h1:d*g ∣ g:=hd (d*g) fun j hj x ex=>by
    rw [← getD_mem ex, ← UT j,aer]
    exact Int.mul_dvd_mul_left g (EB j)
   obtain ⟨k,hk⟩:=h1
   have h2:g*(d*k)=g*1:=by
    rw [Int.mul_one]
    rw [← alo,aer g d]
    exact hk.symm
   have h3:=Int.eq_of_mul_eq_mul_left gn h2
   have h4:d ∣ 1:=⟨k,h3.symm⟩
   simpa using aeC.mpr h4
inductive jy (vs:List V)(H:Hp)(Q:VK)(E_:XK):Prop where
 | mk (u v:V) (l m:List Int) (c b1 b2:Nat) (_:vs=[u,v,.int (c:Int)]) (_:Ln H u l) (_:Ln H v m) (_:m.length=l.length) (_:c < l.length) (_:l.length≤1000) (_:m.getD c 0≠0) (_:Bd b1 l) (_:Bd b2 m) (_:b1≤29000000) (_:b2≤29000000) (_:∀v' l' H',au H H' →Ln H' v' l' →mY l m l' c→Bd (b1+b2+1) l' →(l' =l∨LD l')→(v' =u∨∃p,v' =.ref p∧H p=none)→Q v' H'):jy vs H Q E_
theorem HY {a b:Int}(ha:a≠0):a=gz a b*a.fdiv (gz a b)∧b=gz a b*b.fdiv (gz a b)∧gz a b≠0∧a.fdiv (gz a b)≠0∧(a.fdiv (gz a b)).natAbs≤a.natAbs∧(b.fdiv (gz a b)).natAbs≤b.natAbs:=by
 have gn:gz a b≠0:=by
  intro z
  have z' :((adW a b:Nat):Int)=0:=z
  have:adW a b=0:=by omega
  exact ha (Int.gcd_eq_zero_iff.mp this).1
 have d1:gz a b ∣ a:=aew ..
 have d2:gz a b ∣ b:=aeq ..
 have e1:=bS gn d1
 refine ⟨e1,bS gn d2,gn,fun z=> ?_,fh gn d1,fh gn d2⟩
 rw [z,aeP] at e1
 exact ha e1
theorem HZ {l m:List Int}{t u:Int}{ys:List V}(hl:m.length=l.length)(hy:ys.length=l.length)(h:∀(i:Nat) (v:V),ys[i]? =some v→∃x y,l[i]? =some x∧m[i]? =some y∧v=.int (t*x - u*y)):ys=(ad2 (fun x y=>t*x - u*y) l m).map V.int:=by
 refine adT fun i=> ?_
 by_cases hi:i < ys.length
 ·have e1:ys[i]? =some ys[i]:=gE hi
  obtain ⟨x,y,ex,ey,ev⟩:=h i _ e1
  rw [e1,ev,ir,aen,ex,ey]
  rfl
 ·rw [ac_ (by omega),ac_ (by simp;omega)]
theorem BZ {l m:List Int}{t u:Int}(hl:m.length=l.length)(j:Nat):(ad2 (fun x y=>t*x - u*y) l m).getD j 0=t*l.getD j 0 - u*m.getD j 0:=by
 by_cases hj:j < l.length
 ·have e1:l[j]? =some l[j]:=gE hj
  have e2:m[j]? =some (m[j]'(by omega)):=gE (by omega)
  rw [getD_mem e1,getD_mem e2]
  exact getD_mem (by rw [aen,e1,e2])
 ·rw [ado,ado,ado,ac_ (by simp;omega),ac_ (by omega),ac_ (by omega)]
  simp
theorem wJ:aC ["line","lead","column","shared","times","less"] ["line","lead","column"] (af yn):=sq
theorem Pa (ht:P.given.tree=none)(D:Def K mg "cleared" yn ["line","lead","column"])(g6:mg "zip"=none)(u4:Fn P w K mg base (aS P w) 1 "greatest_shared" ["one","other"] fw)(Wu:Fn P w K mg base (aS P w) 33 "divided" ["line"] jx):Fn P w K mg base (aS P w) 34 "cleared" ["line","lead","column"] jy:=by
 refine D.ok wJ (fun vs H Q E h=> ?_) (fun f bj A outer s H vs Q E hr h=> ?_)
 ·obtain ⟨u,v,l,m,c,b1,b2,rfl,_⟩:=h
  rfl
 obtain ⟨u,v,l,m,c,b1,b2,rfl,⟨a,rfl,ha⟩,⟨a',rfl,UU⟩,hl,hc,hn,hm,B1,B2,hb1,hb2,q⟩:=h
 refine ⟨_,(ae (bC (aL cZ (bc a_ (pv 0) (pv 2) (fun _ _=>rfl)) ah (aZ _)) (ak (aG (pv 0))) aQ)
  (ae (ax (i:=3) wJ.nd rfl (adi rfl) (aD u4 hr.mo pX (ar (bc a_ (pv 1) (pv 2) (fun _ _=>rfl)) (ar (bc a_ (pv 0) (pv 2) (fun _ _=>rfl)) aa))))
  (ae (ax (i:=4) wJ.nd rfl (ad0 rfl) (aA (eg ht (Ty.bV.py hr (by decide)) rfl rfl rfl rfl rfl) (bc a_ (pv 1) (pv 2) (fun _ _=>rfl)) (pv 3)))
  (ae (ax (i:=5) wJ.nd rfl (ad0 rfl) (aA (eg ht (Ty.bV.py hr (by decide)) rfl rfl rfl rfl rfl) (bc a_ (pv 0) (pv 2) (fun _ _=>rfl)) (pv 3)))
  (ak (aG (aD Wu hr.mo pX (ar (du (tn:=["whole","other"]) (fr:=["times","less"]) (caps:=[4,5]) rfl ⟨rfl,by decide+kernel,rfl,by decide+kernel,by decide+kernel,rfl,⟨(by first | exact adi rfl | exact ad0 rfl),⟨(by first | exact adi rfl | exact ad0 rfl),trivial⟩⟩,⟨(by first | exact adi rfl | exact ad0 rfl),⟨(by first | exact adi rfl | exact ad0 rfl),trivial⟩⟩⟩ (uG rfl g6 (ar (pv 0) (ar (pv 1) aa))) (fun _ _ _ _=>(pO (K:=K) (n:=2) rfl rfl (aX (aE (i:=0) (show (["whole","other","times","less"]:List Str).Nodup from by decide+kernel) rfl (adi rfl)) (aX (aE (i:=1) (show (["whole","other","times","less"]:List Str).Nodup from by decide+kernel) rfl (adi rfl)) cN)))) (fun _ _ _ _=>c_) (fun _ _ _ _=>(aA c8 (aA bN (pv 2) (pv 0)) (aA bN (pv 3) (pv 1))))) aa)))))))),?_⟩
 have ea:=jU (l:=l) hc
 have em:=jU (l:=m) (j:=c) (by omega)
 refine ⟨_,rfl,_,rfl,a,_,_,_,rfl,rfl,aU.of ha,ea,rfl,_,rfl,?_⟩
 refine bB (fun z=> ?_) (fun z=> ?_)
 ·have z' :l.getD c 0=0:=by simpa using of_decide_eq_true z
  exact ⟨_,rfl,q _ l H (au.refl H) ⟨a,rfl,ha⟩ ⟨rfl,z',1,1,0,by decide,by decide,fun j=>by omega⟩ (B1.up (by omega)) (.inl rfl) (.inl rfl)⟩
 ·obtain ⟨f1,f2,f3,f4,f5,f6⟩:=HY (a:=m.getD c 0) (b:=l.getD c 0) hm
  refine ⟨_,rfl,_,rfl,a',_,_,_,rfl,rfl,aU.of UU,em,_,rfl,_,rfl,a,_,_,_,rfl,rfl,aU.of ha,ea,_,_,rfl,?_⟩
  refine ⟨_,rfl,_,rfl,a',_,_,_,rfl,rfl,aU.of UU,em,_,rfl,_,_,rfl,rfl,f3,?_⟩
  refine ⟨_,rfl,_,rfl,a,_,_,_,rfl,rfl,aU.of ha,ea,_,rfl,_,_,rfl,rfl,f3,?_⟩
  refine ⟨_,rfl,_,rfl,a,a',rfl,⟨_,aU.of ha⟩,⟨_,aU.of UU⟩,fun D1 n1=> ?_⟩
  have st:((m.getD c 0).fdiv (gz (m.getD c 0) (l.getD c 0))).natAbs≤2^b2:=adb f5 (B2 c)
  have su:((l.getD c 0).fdiv (gz (m.getD c 0) (l.getD c 0))).natAbs≤2^b1:=adb f6 (B1 c)
  refine r_ (cap:=[some (.int ((m.getD c 0).fdiv (gz (m.getD c 0) (l.getD c 0)))),some (.int ((l.getD c 0).fdiv (gz (m.getD c 0) (l.getD c 0))))]) (K:=K) (xs:=l.map V.int) (ys:=m.map V.int) (fun i v _=>∃x y,l[i]? =some x∧m[i]? =some y∧v=.int ((m.getD c 0).fdiv (gz (m.getD c 0) (l.getD c 0))*x - (l.getD c 0).fdiv (gz (m.getD c 0) (l.getD c 0))*y)) n1 (by rw [Wp];exact adm hn (by decide)) (by simpa using hl) (fun H2 s2=>aU.of (s2 _ _ ha)) (fun H2 s2=>aU.of (s2 _ _ UU)) (fun _ _ _ _ _ _ _ h=>h) ?_ ?_
  ·intro i x y H2 R ex ey s2 k
   rw [ir] at ex ey
   obtain ⟨x',FN,rfl⟩:=adk.mp ex
   obtain ⟨y',zB,rfl⟩:=adk.mp ey
   refine ⟨_,rfl,_,rfl,_,_,rfl,rfl,kF st (B1.mem (aa_ FN)) (by omega) (by omega),?_⟩
   exact ⟨_,rfl,_,rfl,_,_,rfl,rfl,kF su (B2.mem (aa_ zB)) (by omega) (by omega),_,_,rfl,rfl,k _ _ (au.refl _) ⟨x',y',FN,zB,rfl⟩⟩
  ·intro ys H2 hy gx s2 hD
   rw [Wp] at hy
   have ey:=HZ hl hy gx
   refine ⟨_,_,rfl,⟨D1,rfl,by rw [hD,ey]⟩,by simp;omega,fun v' l' H3 s3 L3 dv pz fr=> ?_⟩
   obtain ⟨g,gn,hg⟩:=dv.UT
   have nj:∀j,g*l'.getD j 0=(m.getD c 0).fdiv (gz (m.getD c 0) (l.getD c 0))*l.getD j 0 - (l.getD c 0).fdiv (gz (m.getD c 0) (l.getD c 0))*m.getD j 0:=fun j=>by rw [hg j,BZ hl]
   refine q v' l' H3 (s2.trans s3) L3 ⟨by rw [dv.len];simp [hl],?_,g,_,_,gn,f4,nj⟩ (fun j=> ?_) (.inr pz) ?_
   ·have e:=nj c
    have z2:(m.getD c 0).fdiv (gz (m.getD c 0) (l.getD c 0))*l.getD c 0 - (l.getD c 0).fdiv (gz (m.getD c 0) (l.getD c 0))*m.getD c 0=0:=by
     generalize gz (m.getD c 0) (l.getD c 0)=G at*
     generalize (m.getD c 0).fdiv G=t at*
     generalize (l.getD c 0).fdiv G=u at*
     rw [f1,f2]
     grind
    rw [z2] at e
    rcases al2.mp e with y | y
    ·exact absurd y gn
    ·exact y
   ·have b:(g*l'.getD j 0).natAbs≤2^(b1+b2+1):=by
     rw [nj j,Int.sub_eq_add_neg]
     refine La (lM (pQ st (B1 j)) (by omega)) ?_
     rw [al8]
     exact pQ su (B2 j)
    exact adb (cH gn) b
   ·rcases fr with z | ⟨p,e,n⟩
    ·exact .inr ⟨D1,z,n1⟩
    ·exact .inr ⟨p,e,s2.free n⟩
inductive p_ (K:Frag)(vs:List V)(H:Hp)(Q:VK)(E_:XK):Prop where
 | mk (a:Addr) (us:List V) (ls:List (List Int:_)) (c:Nat) (_:vs=[.ref a,.int (c:Int)]) (_:aU K H a us) (_:mf H us ls) (_:(∀l∈ls,c < l.length)) (_:(∀(i:Nat) (l:List Int) (H' :Hp),au H H' →ls[i]? =some l→l.getD c 0≠0→Q (.int (i:Int)) H')) (_:((∀l∈ls,l.getD c 0=0)→∀H',au H H' →Q .cp H')):p_ K vs H Q E_
theorem mf.at {H:Hp}{us:List V}{ls:List (List Int)}(h:mf H us ls){i:Nat}{u:V}(e:us[i]? =some u):∃l,ls[i]? =some l∧Ln H u l:=by
 have hi:i < us.length:=(be.mp e).1
 have hl:=h.1
 have e2:ls[i]? =some (ls[i]'(by omega)):=gE (by omega)
 exact ⟨_,e2,h.2 i u _ e e2⟩
theorem mf.at' {H:Hp}{us:List V}{ls:List (List Int)}(h:mf H us ls){i:Nat}{l:List Int}(e:ls[i]? =some l):∃u,us[i]? =some u∧Ln H u l:=by
 have hi:i < ls.length:=(be.mp e).1
 have hl:=h.1
 have e2:us[i]? =some (us[i]'(by omega)):=gE (by omega)
 exact ⟨_,e2,h.2 i _ l e2 e⟩
theorem B_:aC ["lines","column","at","line"] ["lines","column"] (af ym):=sq
theorem Pb (D:Def K mg "first_not_nought" ym ["lines","column"])(cS:mg "enumerate"=none):Fn P w K mg base (aS P w) 1 "first_not_nought" ["lines","column"] (p_ K):=by
 refine D.ok B_ (fun vs H Q E h=> ?_) (fun f bj A outer s H vs Q E hr h=> ?_)
 ·obtain ⟨a,us,ls,c,rfl,_⟩:=h
  rfl
 obtain ⟨a,us,ls,c,rfl,hS,L,hc,q1,q2⟩:=h
 have lu:=L.1
 refine ⟨_,(ae (bo PassesOwn.never rfl (vZ rfl cS (ar (pv 0) aa)) (eW rfl (aX (aE (i:=2) B_.nd rfl (adi rfl)) (aX (aE (i:=3) B_.nd rfl (adi rfl)) cN))) (ak (bC (aL vN (bc a_ (pv 3) (pv 1) (fun _ _=>rfl)) ah (aZ _)) (ak (aG (pv 2))) aQ)))
  (ak (aG kR))),?_⟩
 refine ⟨_,rfl,a,rfl,⟨_,hS⟩,sI (K:=K) (a:=a) (xs:=us) (fun i σ H' =>∃o1 o2:Option V,σ=[some (.ref a),some (.int (c:Int)),o1,o2]∧au H H' ∧∀j,j < i→∀l,ls[j]? =some l→l.getD c 0=0) ⟨none,none,rfl,au.refl H,fun j h=>absurd h (ad6 _)⟩ (fun i σ H' _ ⟨o1,o2,_,s1,_⟩=>s1.seq hS) ?_ ?_⟩
 ·rintro i u σ H' p hu ⟨o1,o2,rfl,s1,z⟩ np
  obtain ⟨l,el,b,rfl,hb⟩:=L.at hu
  have s2:=s1.trans (ay np (.tup [.int (i:Int),.ref b]))
  have hcl:=hc l (aa_ el)
  refine ⟨p,_,rfl,bH.of ag,rfl,_,_,rfl,_,_,rfl,rfl,?_⟩
  refine ⟨_,rfl,_,rfl,b,_,_,_,rfl,rfl,aU.of (s2 _ _ hb),jU hcl,rfl,_,rfl,?_⟩
  refine bB (fun y=> ?_) (fun y=> ?_)
  ·have y' :l.getD c 0≠0:=by simpa using y
   exact ⟨_,rfl,q1 i l _ s2 el y'⟩
  ·have y' :l.getD c 0=0:=by simpa using y
   refine ⟨_,_,rfl,s2,fun j hj l' e' => ?_⟩
   rcases adX.mp hj with w | w
   ·exact z j w l' e'
   ·subst w
    rw [el] at e'
    cases e'
    exact y'
 ·rintro σ H' ⟨o1,o2,rfl,s1,z⟩
  refine q2 (fun l hl=> ?_) H' s1
  obtain ⟨j,hj⟩:=adg hl
  exact z j (by have:=(be.mp hj).1;omega) l hj
structure Red (os:List (List Int))(L c b:Nat)(nd:List (Nat×List Int))(lv:List (List Int)):Prop where
 kc:∀x∈nd,x.2.length=L
 h8:∀l∈lv,l.length=L
 cols:∀x∈nd,x.1 < c
 asc:(nd.map (·.1)).Pairwise (· < ·)
 here:∀x∈nd,x.2.getD x.1 0≠0
 off:∀x∈nd,∀y∈nd,x.1≠y.1→x.2.getD y.1 0=0
 low:∀x∈nd,∀j,j < x.1→x.2.getD j 0=0
 zero:∀l∈lv,∀j,j < c→l.getD j 0=0
 tf:∀x∈nd,js os x.2
 iI:∀l∈lv,js os l
 sol:∀z,((∀x∈nd,ev x.2 z=0)∧(∀l∈lv,ev l z=0)) ↔ ∀o∈os,ev o z=0
 zC:∀x∈nd,Bd b x.2
 CA:∀l∈lv,Bd b l
 cnt:nd.length+lv.length=os.length
theorem Red.start {os:List (List Int)}{L b:Nat}(hL:∀o∈os,o.length=L)(hb:∀o∈os,Bd b o):Red os L 0 b [] os where
 kc:=by simp
 h8:=hL
 cols:=by simp
 asc:=by simp
 here:=by simp
 off:=by simp
 low:=by simp
 zero:=fun _ _ j h=>absurd h (ad6 _)
 tf:=by simp
 iI:=fun l h=>sH h
 sol:=fun z=>by simp
 zC:=by simp
 CA:=hb
 cnt:=by simp
theorem Red.skip {os:List (List Int)}{L c b:Nat}{nd:List (Nat×List Int)}{lv:List (List Int)}(h:Red os L c b nd lv)(hz:∀l∈lv,l.getD c 0=0):Red os L (c+1) b nd lv where
 kc:=h.kc
 h8:=h.h8
 cols:=fun x hx=>aeh (h.cols x hx)
 asc:=h.asc
 here:=h.here
 off:=h.off
 low:=h.low
 zero:=fun l hl j hj=>by
  rcases adX.mp hj with z | z
  ·exact h.zero l hl j z
  ·subst z
   exact hz l hl
 tf:=h.tf
 iI:=h.iI
 sol:=h.sol
 zC:=h.zC
 CA:=h.CA
 cnt:=h.cnt
structure Made (os:List (List Int))(lead:List Int)(c b:Nat)(xs ys:List (List Int)):Prop where
 len:ys.length=xs.length
 to:∀(i:Nat) (x:List Int),xs[i]? =some x→∃y,ys[i]? =some y∧mY x lead y c∧Bd b y
theorem Made.ex {os:List (List Int)}{lead:List Int}{c b:Nat}{xs ys:List (List Int)}(h:Made os lead c b xs ys){y:List Int}(hy:y∈ys):∃x∈xs,mY x lead y c∧Bd b y:=by
 obtain ⟨i,hi⟩:=adg hy
 have hl:=h.len
 have g7:i < ys.length:=(be.mp hi).1
 have e:xs[i]? =some (xs[i]'(by omega)):=gE (by omega)
 obtain ⟨y',e',r⟩:=h.to i _ e
 rw [hi] at e'
 cases e'
 exact ⟨_,aa_ e,r⟩
theorem Made.all {os:List (List Int)}{lead:List Int}{c b:Nat}{xs ys:List (List Int)}(h:Made os lead c b xs ys){x:List Int}(hx:x∈xs):∃y∈ys,mY x lead y c∧Bd b y:=by
 obtain ⟨i,hi⟩:=adg hx
 obtain ⟨y,e,r⟩:=h.to i x hi
 exact ⟨y,aa_ e,r⟩
theorem Red.step {os:List (List Int)}{L c b:Nat}{nd gT :List (Nat×List Int)}{lv uV rest:List (List Int)}{lead:List Int}(h:Red os L c b nd lv)(eA:lead∈lv)(tj:∀l∈rest,l∈lv)(AF:∀l∈lv,l=lead∨l∈rest)(hlen:rest.length+1=lv.length)
  (hc:lead.getD c 0≠0) (ML:Made os lead c (2*b+1) rest uV) (hk:gT.map (·.1)=nd.map (·.1)) (MN:Made os lead c (2*b+1) (nd.map (·.2)) (gT.map (·.2))):Red os L (c+1) (2*b+1) (gT ++[(c,lead)]) uV :=by
 have ll:=h.h8 lead eA
 have lz:=h.zero lead eA
 have Wv :gT.length=nd.length:=by simpa using congrArg aee hk
 have pairs:∀x' ∈gT,∃x∈nd,x.1=x'.1∧mY x.2 lead x'.2 c∧Bd (2*b+1) x'.2:=by
  intro x' rC
  obtain ⟨i,hi⟩:=adg rC
  have g7:i < gT.length:=(be.mp hi).1
  have e:nd[i]? =some (nd[i]'(by omega)):=gE (by omega)
  have e1:(gT.map (·.1))[i]? =(nd.map (·.1))[i]? :=by rw [hk]
  rw [ir,ir,hi,e] at e1
  obtain ⟨y,e2,r⟩:=MN.to i (nd[i]'(by omega)).2 (by rw [ir,e];rfl)
  rw [ir,hi] at e2
  simp at e1 e2
  subst e2
  exact ⟨_,aa_ e,e1.symm,r⟩
 have back:∀x∈nd,∃x' ∈gT,x'.1=x.1∧mY x.2 lead x'.2 c:=by
  intro x hx
  obtain ⟨i,hi⟩:=adg hx
  have g7:i < nd.length:=(be.mp hi).1
  have e:gT[i]? =some (gT[i]'(by omega)):=gE (by omega)
  have e1:(gT.map (·.1))[i]? =(nd.map (·.1))[i]? :=by rw [hk]
  rw [ir,ir,hi,e] at e1
  obtain ⟨y,e2,r⟩:=MN.to i x.2 (by rw [ir,hi];rfl)
  rw [ir,e] at e2
  simp at e1 e2
  exact ⟨_,aa_ e,e1,by rw [e2];exact r.1⟩
 have H_:∀x∈gT ++[(c,lead)],x∈gT ∨x=(c,lead):=fun x hx=>by simpa using hx
 exact {
  kc:=fun x hx=>by
   rcases H_ x hx with z | z
   ·obtain ⟨y,hy,_,k,_⟩:=pairs x z
    rw [k.len]
    exact h.kc y hy
   ·subst z
    exact ll
  h8:=fun l hl=>by
   obtain ⟨x,hx,k,_⟩:=ML.ex hl
   rw [k.len]
   exact h.h8 x (tj x hx)
  cols:=fun x hx=>by
   rcases H_ x hx with z | z
   ·obtain ⟨y,hy,e,_⟩:=pairs x z
    rw [← e]
    exact aeh (h.cols y hy)
   ·subst z
    exact adO _
  asc:=by
   rw [adv,hk,List.pairwise_append]
   refine ⟨h.asc,by simp,fun a ha b' fG => ?_⟩
   obtain ⟨x,hx,rfl⟩:=ab_.mp ha
   have:b' =c:=by simpa using fG
   subst this
   exact h.cols x hx
  here:=fun x hx=>by
   rcases H_ x hx with z | z
   ·obtain ⟨y,hy,e,k,_⟩:=pairs x z
    rw [← e]
    exact k.at (lz _ (h.cols y hy)) (h.here y hy)
   ·subst z
    exact hc
  off:=fun x hx y hy ne=>by
   rcases H_ x hx with z | z <;> rcases H_ y hy with u | u
   ·obtain ⟨x0,UR,e0,k0,_⟩:=pairs x z
    obtain ⟨y0,yQ,e1,_⟩:=pairs y u
    rw [← e1]
    exact k0.zero (h.off x0 UR y0 yQ (by rw [e0,e1];exact ne)) (lz _ (h.cols y0 yQ))
   ·subst u
    obtain ⟨x0,UR,e0,k0,_⟩:=pairs x z
    exact k0.BB
   ·subst z
    obtain ⟨y0,yQ,e1,_⟩:=pairs y u
    rw [← e1]
    exact lz _ (h.cols y0 yQ)
   ·subst z
    subst u
    exact absurd rfl ne
  low:=fun x hx j hj=>by
   rcases H_ x hx with z | z
   ·obtain ⟨y,hy,e,k,_⟩:=pairs x z
    rw [← e] at hj
    exact k.zero (h.low y hy j hj) (lz j (amk hj (h.cols y hy)))
   ·subst z
    exact lz j hj
  zero:=fun l hl j hj=>by
   obtain ⟨x,hx,k,_⟩:=ML.ex hl
   rcases adX.mp hj with z | z
   ·exact k.zero (h.zero x (tj x hx) j z) (lz j z)
   ·subst z
    exact k.BB
  tf:=fun x hx=>by
   rcases H_ x hx with z | z
   ·obtain ⟨y,hy,_,k,_⟩:=pairs x z
    exact k.comb (h.tf y hy) (h.iI lead eA)
   ·subst z
    exact h.iI lead eA
  iI:=fun l hl=>by
   obtain ⟨x,hx,k,_⟩:=ML.ex hl
   exact k.comb (h.iI x (tj x hx)) (h.iI lead eA)
  sol:=fun z=>by
   rw [← h.sol z]
   constructor
   ·rintro ⟨a1,a2⟩
    have az:ev lead z=0:=a1 (c,lead) (by simp)
    refine ⟨fun x hx=> ?_,fun l hl=> ?_⟩
    ·obtain ⟨x',rC,_,k⟩:=back x hx
     exact (k.ev (by rw [ll,h.kc x hx]) az).mp (a1 x' (by simp [rC]))
    ·rcases AF l hl with u | u
     ·rw [u]
      exact az
     ·obtain ⟨y,hy,k,_⟩:=ML.all u
      exact (k.ev (by rw [ll,h.h8 l hl]) az).mp (a2 y hy)
   ·rintro ⟨a1,a2⟩
    have az:=a2 lead eA
    refine ⟨fun x hx=> ?_,fun l hl=> ?_⟩
    ·rcases H_ x hx with u | u
     ·obtain ⟨y,hy,_,k,_⟩:=pairs x u
      exact (k.ev (by rw [ll,h.kc y hy]) az).mpr (a1 y hy)
     ·subst u
      exact az
    ·obtain ⟨x,hx,k,_⟩:=ML.ex hl
     exact (k.ev (by rw [ll,h.h8 x (tj x hx)]) az).mpr (a2 x (tj x hx))
  zC:=fun x hx=>by
   rcases H_ x hx with z | z
   ·obtain ⟨y,hy,_,_,k⟩:=pairs x z
    exact k
   ·subst z
    exact (h.CA lead eA).up (by omega)
  CA:=fun l hl=>by
   obtain ⟨x,hx,_,k⟩:=ML.ex hl
   exact k
  cnt:=by
   have a:=ML.len
   have b:=h.cnt
   rw [adp,Wv]
   simp
   omega}
def jV (H:Hp)(kvs:List (Key×V))(nd:List (Nat×List Int)):Prop:=kvs.length=nd.length∧∀(i:Nat) (kv:Key×V) (x:Nat×List Int),kvs[i]? =some kv→nd[i]? =some x→kv.1=.inl (x.1:Int)∧Ln H kv.2 x.2
theorem jV.same {H H' :Hp}{kvs:List (Key×V)}{nd:List (Nat×List Int)}(h:jV H kvs nd)(s:au H H'):jV H' kvs nd:=⟨h.1,fun i kv x e1 e2=>⟨(h.2 i kv x e1 e2).1,(h.2 i kv x e1 e2).2.same s⟩⟩
theorem Ln.put {H:Hp}{v:V}{l:List Int}{d:Addr}{kvs:List (Key×V)}{o:HO}(h:Ln H v l)(e:H d=some (.dK kvs)):Ln (upd H d o) v l:=by
 obtain ⟨p,e1,k⟩:=h
 exact ⟨p,e1,by rw [aj (fun z=>by rw [z,e] at k;cases k)];exact k⟩
theorem mf.put {H:Hp}{us:List V}{ls:List (List Int)}{d:Addr}{kvs:List (Key×V)}{o:HO}(h:mf H us ls)(e:H d=some (.dK kvs)):mf (upd H d o) us ls:=⟨h.1,fun i u l e1 e2=>(h.2 i u l e1 e2).put e⟩
theorem jV.put {H:Hp}{kvs Pc:List (Key×V)}{nd:List (Nat×List Int)}{d:Addr}{o:HO}(h:jV H kvs nd)(e:H d=some (.dK Pc)):jV (upd H d o) kvs nd:=⟨h.1,fun i kv x e1 e2=>⟨(h.2 i kv x e1 e2).1,(h.2 i kv x e1 e2).2.put e⟩⟩
theorem fB {H H' :Hp}{d:Addr}{o:HO}(s:au H H')(n:H d=none):au H (upd H' d o):=fun b o' e=>by
 rw [aj (fun z=>by rw [z,n] at e;cases e)]
 exact s _ _ e
theorem jV.at {H:Hp}{kvs:List (Key×V)}{nd:List (Nat×List Int)}(h:jV H kvs nd){i:Nat}{x:Nat×List Int}(e:nd[i]? =some x):∃v,kvs[i]? =some (.inl (x.1:Int),v)∧Ln H v x.2:=by
 have hi:i < nd.length:=(be.mp e).1
 have hl:=h.1
 have e2:kvs[i]? =some (kvs[i]'(by omega)):=gE (by omega)
 obtain ⟨a,b⟩:=h.2 i _ x e2 e
 exact ⟨(kvs[i]'(by omega)).2,by rw [e2, ← a],b⟩
theorem jV.keys {H:Hp}{kvs:List (Key×V)}{nd:List (Nat×List Int)}(h:jV H kvs nd):kvs.map (·.1)=nd.map (fun x=>(alw (x.1:Int):Key)):=by
 refine adT fun i=> ?_
 have hl:=h.1
 rw [ir,ir]
 by_cases hi:i < nd.length
 ·have e:nd[i]? =some nd[i]:=gE hi
  obtain ⟨v,e2,_⟩:=h.at e
  rw [e,e2]
  rfl
 ·rw [ac_ (by omega),ac_ (by omega)]
  rfl
theorem iJ {k:Key}{v:V}:∀{kvs:List (Key×V)} {i:Nat},(kvs.map (·.1)).Nodup→kvs[i]? =some (k,v)→bE kvs k=some v
 | [],_,_,e=>by simp at e
 | p::r,0,_,e=>by
  cases e
  exact bf (p:=(k,v)) rfl
 | p::r,i+1,n,e=>by
  rw [ada,adH] at n
  have e' :r[i]? =some (k,v):=by simpa using e
  have ne:¬ p.1=k:=fun z=>n.1 (by rw [z];exact ab_.mpr ⟨(k,v),aa_ e',rfl⟩)
  rw [a9 ne]
  exact iJ n.2 e'
theorem kI {k:Key}:∀{kvs:List (Key×V)},k∉kvs.map (·.1)→bE kvs k=none
 | [],_=>rfl
 | p::r,h=>by
  have h' :k≠p.1∧k∉r.map (·.1):=by simpa using h
  rw [a9 (fun z=>h'.1 z.symm)]
  exact kI h'.2
theorem map_put {k:Key}{v v' :V}:∀{kvs:List (Key×V)} {i:Nat},(kvs.map (·.1)).Nodup→kvs[i]? =some (k,v)→kvs.map (fun kv=>if kv.1=k then (kv.1,v') else kv)=kvs.set i (k,v')
 | [],_,_,e=>by simp at e
 | p::r,0,n,e=>by
  rw [ada,adH] at n
  cases e
  have hr:r.map (fun kv=>if kv.1=k then (kv.1,v') else kv)=r:=by
   refine (ady (fun q hq=> ?_)).trans (List.map_id r)
   have ne:¬ q.1=k:=fun z=>n.1 (by show k∈_;rw [← z];exact ab_.mpr ⟨q,hq,rfl⟩)
   rw [if_neg ne]
   rfl
  rw [ada,hr,if_pos rfl,List.set_cons_zero]
 | p::r,i+1,n,e=>by
  rw [ada,adH] at n
  have e' :r[i]? =some (k,v):=by simpa using e
  have ne:¬ p.1=k:=fun z=>n.1 (by rw [z];exact ab_.mpr ⟨(k,v),aa_ e',rfl⟩)
  rw [ada,if_neg ne,map_put n.2 e',List.set_cons_succ]
theorem Ik {k:Key}{v v' :V}{kvs:List (Key×V)}{i:Nat}(n:(kvs.map (·.1)).Nodup)(e:kvs[i]? =some (k,v)):putK kvs k v' =kvs.set i (k,v'):=by
 unfold putK
 rw [fj,iJ n e]
 exact map_put n e
theorem jV.set {H:Hp}{kvs:List (Key×V)}{nd:List (Nat×List Int)}(h:jV H kvs nd){i c:Nat}{v:V}{l:List Int}(hv:Ln H v l):jV H (kvs.set i (.inl (c:Int),v)) (nd.set i (c,l)):=by
 have hl:=h.1
 refine ⟨by simp [hl],fun j kv x e1 e2=> ?_⟩
 rw [adM] at e1 e2
 by_cases z:i=j
 ·subst z
  rw [if_pos rfl] at e1 e2
  by_cases hi:i < kvs.length
  ·rw [if_pos hi] at e1
   rw [if_pos (by omega)] at e2
   cases e1
   cases e2
   exact ⟨rfl,hv⟩
  ·rw [if_neg hi] at e1
   cases e1
 ·rw [if_neg z] at e1 e2
  exact h.2 j kv x e1 e2
theorem jV.snoc {H:Hp}{kvs:List (Key×V)}{nd:List (Nat×List Int)}(h:jV H kvs nd){c:Nat}{v:V}{l:List Int}(hv:Ln H v l):jV H (kvs++[(.inl (c:Int),v)]) (nd++[(c,l)]):=by
 have hl:=h.1
 refine ⟨by simp [hl],fun j kv x e1 e2=> ?_⟩
 by_cases z:j < kvs.length
 ·rw [adl z] at e1
  rw [adl (by omega)] at e2
  exact h.2 j kv x e1 e2
 ·rw [adu (by omega)] at e1 e2
  rw [← hl] at e2
  by_cases y:j - kvs.length=0
  ·rw [y] at e1 e2
   cases e1
   cases e2
   exact ⟨rfl,hv⟩
  ·rw [ac_ (by simp;omega)] at e1
   cases e1
theorem keys_nodup:∀{nd:List (Nat×List Int)},(nd.map (·.1)).Pairwise (· < ·)→(nd.map (fun x=>(alw (x.1:Int):Key))).Nodup
 | [],_=>by simp
 | x::r,h=>by
  rw [ada,List.pairwise_cons] at h
  rw [ada,adH]
  refine ⟨fun z=> ?_,keys_nodup h.2⟩
  obtain ⟨y,hy,e⟩:=ab_.mp z
  have e' :(y.1:Int)=x.1:=alp e
  have:=h.1 y.1 (ab_.mpr ⟨y,hy,rfl⟩)
  omega
def bb (b k:Nat):Nat:=(k+1)*(b+11)
theorem qa (b:Nat){k m:Nat}(h:k≤m):bb b k≤bb b m:=adR _ (by omega)
theorem qb (b k:Nat):b≤bb b k:=by
 unfold bb
 rw [aeN,al_]
 omega
theorem Red.Ww {os:List (List Int)}{L c b:Nat}{nd:List (Nat×List Int)}{lv:List (List Int)}(R:Red os L c b nd lv):zw nd:=⟨R.asc.imp fun h e=>by omega,R.here,R.off⟩
def Pr (os:List (List Int))(l:List Int):Prop:=l∈os∨LD l
theorem Red.small {os:List (List Int)}{L c b b0 k:Nat}{nd:List (Nat×List Int)}{lv ps qs:List (List Int)}(R:Red os L c b nd lv)(O:zA os nd lv ps qs)(hb:∀o∈os,Bd b0 o)(hk:nd.length≤k)(hk2:k≤1000)(pN:∀x∈nd,Pr os x.2)(pL:∀l∈lv,Pr os l):Red os L c (bb b0 k) nd lv:=by
 have le:∀{n:Nat},n≤(nd.length+1)*((2*(nd.length+1)*2^b0)^nd.length*2^b0)→n≤2^bb b0 k:=fun {n} h=>adb h (adb (Lv (by omega)) (adA (by decide) (adR _ (by omega))))
 have z:∀{n:Nat},n=0→n≤2^bb b0 k:=fun {n} h=>by rw [h];exact adL _
 refine {R with zC:=fun x hx j=> ?_,CA:=fun l hl j=> ?_}
 ·rcases pN x hx with h | h | h
  ·exact adb (hb _ h j) (adA (by decide) (qb _ _))
  ·exact le (O.need R.Ww hx hb h j)
  ·exact z (by rw [h j];rfl)
 ·rcases pL l hl with h | h | h
  ·exact adb (hb _ h j) (adA (by decide) (qb _ _))
  ·obtain ⟨i,ei⟩:=adg hl
   exact le (O.left R.Ww ei (fun x hx=>R.zero l hl x.1 (R.cols x hx)) hb h j)
  ·exact z (by rw [h j];rfl)
theorem qc {xs:List V}{i:Nat}(h:i≤xs.length):fF xs none (some (i:Int))=xs.take i:=by
 unfold fF
 rw [HT.kA,HT.rP,alu h]
 rfl
theorem oA {xs:List V}{i:Nat}(h:i≤xs.length):fF xs (some (i:Int)) none=xs.drop i:=by
 unfold fF
 rw [HT.kA,HT.rP,alu h]
 exact af_ (by simp)
theorem Red.up {os:List (List Int)}{L c b b' :Nat}{nd:List (Nat×List Int)}{lv:List (List Int)}(h:Red os L c b nd lv)(hb:b≤b'):Red os L c b' nd lv:={h with zC:=fun x hx=>(h.zC x hx).up hb,CA:=fun x hx=>(h.CA x hx).up hb}
theorem mf.erase {H:Hp}{us:List V}{ls:List (List Int)}(h:mf H us ls)(j:Nat):mf H (us.eraseIdx j) (ls.eraseIdx j):=by
 have hl:=h.1
 refine ⟨by rw [aet,aet,hl],fun i u l e1 e2=> ?_⟩
 rw [aez] at e1 e2
 by_cases z:i < j
 ·rw [if_pos z] at e1 e2
  exact h.2 _ _ _ e1 e2
 ·rw [if_neg z] at e1 e2
  exact h.2 _ _ _ e1 e2
theorem gM {α β:Type}{P:Nat→α→β→Prop}:∀(xs:List α),(∀i x,xs[i]? =some x→∃y,P i x y)→∃ys:List β,ys.length=xs.length∧∀i x y,xs[i]? =some x→ys[i]? =some y→P i x y
 | [],_=>⟨[],rfl,fun i x y e=>by simp at e⟩
 | x::xs,h=>by
  obtain ⟨y,hy⟩:=h 0 x rfl
  obtain ⟨ys,hl,hp⟩:=gM (P:=fun i=>P (i+1)) xs (fun i x e=>h (i+1) x (by simpa using e))
  refine ⟨y::ys,by simp [hl],fun i x' y' e1 e2=> ?_⟩
  cases i with
  | zero=>
   cases e1
   cases e2
   exact hy
  | succ i=>exact hp i x' y' (by simpa using e1) (by simpa using e2)
inductive gN (K:Frag)(vs:List V)(H:Hp)(Q:VK)(E_:XK):Prop where
 | mk (a:Addr) (us:List V) (os:List (List Int:_)) (L m b:Nat) (_:vs=[.ref a,.int (m:Int)]) (_:aU K H a us) (_:mf H us os) (_:(∀o∈os,o.length=L)) (_:m≤L) (_:L≤1000) (_:os.length≤1000) (_:(∀o∈os,Bd b o)) (_:bb b (min m os.length)≤29000000) (_:∀(p d a' :Addr) (kvs:List (Key×V)) (kJ :List V) (nd:List (Nat×List Int)) (lv:List (List Int)) (H' :Hp),au H H' →H d=none→H p=none→H' p=some (.tup [.ref d,.ref a'])→H' d=some (.dK kvs)→aU K H' a' kJ →jV H' kvs nd→mf H' kJ lv→Red os L m (bb b (min m os.length)) nd lv→Q (.ref p) H'):gN K vs H Q E_
theorem jW:aC ["lines","many","needed","left","column","at","lead","place"] ["lines","many"] (af yk):=sq
theorem Pd (D:Def K mg "reduced" yk ["lines","many"])(bO:mg "range"=none)(cn:mg "list"=none)(Wx:Fn P w K mg base (aS P w) 1 "first_not_nought" ["lines","column"] (p_ K))(Pe:Fn P w K mg base (aS P w) 34 "cleared" ["line","lead","column"] jy):Fn P w K mg base (aS P w) 35 "reduced" ["lines","many"] (gN K):=by
 refine D.ok jW (fun vs H Q E h=> ?_) (fun f bj A outer s H vs Q E hr h=> ?_)
 ·obtain ⟨a,us,os,L,m,b,rfl,_⟩:=h
  rfl
 obtain ⟨a,us,os,L,m,b,rfl,hS,hL,hlen,hm,JW,ho,hB,hb,q⟩:=h
 refine ⟨_,(ae (ax (i:=2) jW.nd rfl (adi rfl) dC)
  (ae (ax (i:=3) jW.nd rfl (adi rfl) (pv 0))
  (ae (bo PassesOwn.never rfl (dS rfl bO (ar (pv 1) aa)) (aE (i:=4) jW.nd rfl (ad0 rfl)) (ae (ax (i:=5) jW.nd rfl (adi rfl) (aD Wx hr.mo pX (ar (pv 3) (ar (pv 4) aa))))
   (ae (bC (aL zY (pv 5) kR (aZ _)) (ak rJ) aQ)
   (ae (ax (i:=6) jW.nd rfl (ad0 rfl) (bc a_ (pv 3) (pv 5) (fun _ _=>rfl)))
   (ae (pI (i:=3) jW.nd rfl (adi rfl) (tn:=["line"]) (fr:=["lead","column"]) (caps:=[6,4]) rfl ⟨rfl,by decide+kernel,rfl,by decide+kernel,by decide+kernel,rfl,⟨(by first | exact adi rfl | exact ad0 rfl),⟨(by first | exact adi rfl | exact ad0 rfl),trivial⟩⟩,⟨(by first | exact adi rfl | exact ad0 rfl),⟨(by first | exact adi rfl | exact ad0 rfl),trivial⟩⟩⟩ (bF (aA g_ (d6 gI (pv 3) gH (eQ (pv 5))) (d6 gI (pv 3) (eQ (aA bx (pv 5) ah)) gH))) (fun _ _ _ _=>(aE (i:=0) (show (["line","lead","column"]:List Str).Nodup from by decide+kernel) rfl (adi rfl))) (fun _ _ _ _=>c_) (fun _ _ _ _=>(aD Pe hr.mo (r8 (by first | assumption | exact aS.pG) rfl) (ar (pv 0) (ar (pv 1) (ar (pv 2) aa))))))
   (ae (bo PassesOwn.never rfl (bF (cz (hW rfl) rfl cn jd (ar (pv 2) aa))) (aE (i:=7) jW.nd rfl (adi rfl)) (ak (cV (cf hr) (pv 2) (pv 7) (aD Pe hr.mo pX (ar (fJ (cf hr) (pv 2) (pv 7) (fun _ _=>rfl)) (ar (pv 6) (ar (pv 4) aa)))) rfl)))
   (ak (cV (cf hr) (pv 2) (pv 4) (pv 6) rfl))))))))
  (ak (aG (aI (ar (pv 2) (ar (pv 3) aa)))))))),?_⟩
 refine fun d CB=> ?_
 have s0:au H (upd H d (.dK [])):=ay CB _
 refine ⟨_,rfl,_,rfl,_,rfl,by omega,by omega,?_⟩
 refine dW (lo:=0) (n:=m) (fun i σ H' =>∃(al:Addr) (mh:List V) (kvs:List (Key×V)) (nd:List (Nat×List Int)) (lv:List (List Int)) (o4 o5 o6 o7:Option V),σ=[some (.ref a),some (.int (m:Int)),some (.ref d),some (.ref al),o4,o5,o6,o7]∧au H H' ∧H' d=some (.dK kvs)∧aU K H' al mh∧mf H' mh lv∧jV H' kvs nd∧nd.length≤i∧Red os L i (bb b (min m os.length)) nd lv∧(∃ps qs,zA os nd lv ps qs)∧(∀x∈nd,Pr os x.2)∧∀l∈lv,Pr os l)
  ⟨a,us,[],[],os,none,none,none,none,rfl,s0,ag,s0.seq hS,hL.same s0,⟨rfl,by simp⟩,adf _,(Red.start hlen hB).up (qb _ _),⟨[],os,zA.start os⟩,(by simp),fun l hl=>.inl hl⟩ ?_ ?_
 ·rintro i σ H1 hi ⟨al,mh,kvs,nd,lv,o4,o5,o6,o7,rfl,s1,hd,Il,yR,hN,hni,R,⟨ps,qs,O⟩,pN,pL⟩
  refine ⟨_,rfl,_,rfl,al,mh,lv,i,by rw [aed];rfl,Il,yR,fun l hl=>by rw [R.h8 l hl];omega,fun j lead H2 s2 ej hj=> ?_,fun hz H2 s2=> ?_⟩
  ·have hjl:j < lv.length:=(be.mp ej).1
   have hul:=yR.1
   have cnt:=R.cnt
   have UW:=hb
   have hd2:=s2 _ _ hd
   have OZ:=s2.seq Il
   have JX:=yR.same s2
   have Wy:=hN.same s2
   obtain ⟨u,eu,hu⟩:=JX.at' ej
   have eA:lead∈lv:=aa_ ej
   refine ⟨_,rfl,rfl,_,rfl,?_⟩
   refine bB (fun z=>by simp at z) (fun _=> ?_)
   refine ⟨_,rfl,_,rfl,al,_,_,_,rfl,rfl,OZ,cU eu,?_⟩
   refine ⟨_,rfl,_,rfl,_,rfl,al,mh,rfl,OZ,fun p1 n1=> ?_⟩
   have t1:=ay n1 (.lst (fF mh none (some (j:Int))))
   refine ⟨_,rfl,_,rfl,_,_,rfl,rfl,_,rfl,al,mh,rfl,t1.seq OZ,fun p2 n2=> ?_⟩
   have t2:=ay n2 (.lst (fF mh (some ((j:Int)+1)) none))
   have Pf:fF mh none (some (j:Int))++fF mh (some ((j:Int)+1)) none=mh.eraseIdx j:=by
    rw [qc (by omega),show ((j:Int)+1)=((j+1:Nat):Int) from by omega,oA (by omega),List.eraseIdx_eq_take_drop_succ]
   have Wz:(fF mh none (some (j:Int))).length+(fF mh (some ((j:Int)+1)) none).length≤sizeLine:=by
    rw [← adp,Pf]
    exact adb (adb (alS ..) (show mh.length≤1000 by omega)) (by decide)
   refine ⟨p1,p2,_,_,rfl,rfl,t2 _ _ ag,ag,Wz,fun p3 n3=> ?_⟩
   have t3:=ay n3 (.lst (fF mh none (some (j:Int))++fF mh (some ((j:Int)+1)) none))
   refine ⟨p3,rfl,⟨_,aU.of ag⟩,fun D nD=> ?_⟩
   have tt:=(t1.trans t2).trans t3
   have hE:=(JX.same tt).erase j
   have UX:=hu.same tt
   have er:(mh.eraseIdx j).length≤1000:=adb (alS ..) (show mh.length≤1000 by omega)
   refine hV (cap:=[some u,some (.int ((0:Int)+i))]) (K:=K) (a:=p3) (xs:=mh.eraseIdx j) (fun k v H=>∃x y p,(lv.eraseIdx j)[k]? =some x∧v=.ref p∧p≠D∧H p=some (.lst (y.map V.int))∧mY x lead y i∧Bd (2*bb b (min m os.length)+1) y∧(y=x∨LD y)) nD (adm er (by decide)) (fun H3 s3=>aU.of (s3 _ _ (by rw [ag,Pf]))) ?_ ?_ ?_
   ·rintro k v H3 H4 ys hD3 ks ⟨x,y,p,e1,e2,e3,e4,e5⟩
    exact ⟨x,y,p,e1,e2,e3,ks _ _ e3 e4,e5⟩
   ·rintro k x H3 RR ex s3 ⟨WA,WC⟩ kk
    obtain ⟨l,el,hl⟩:=hE.at ex
    have xI:l∈lv:=aev (aa_ el)
    have hll:=R.h8 l xI
    have WD:=R.h8 lead eA
    refine ⟨_,rfl,_,rfl,_,rfl,x,u,l,lead,i,bb b (min m os.length),bb b (min m os.length),by rw [aed];rfl,hl.same s3,UX.same s3,by rw [hll,WD],by omega,by omega,hj,R.CA l xI,R.CA lead eA,UW,UW,fun v' l' H4 s4 L4 cl bd pz fr=> ?_⟩
    obtain ⟨p,e1,e2⟩:=L4
    refine kk v' H4 s4 ⟨l,l',p,el,e1,?_,e2,cl,by rw [Nat.two_mul];exact bd,pz⟩
    rcases fr with z | ⟨p',z,n⟩
    ·obtain ⟨px',z1,z2⟩:=hl
     rw [z1,e1] at z
     cases z
     exact ao z2 nD
    ·rw [e1] at z
     cases z
     exact fun y=>by rw [y,WC] at n;cases n
   ·intro ys H3 hy gx s3 hD
    obtain ⟨uV,Wv,hp⟩:=gM (P:=fun k v y=>∃x p,(lv.eraseIdx j)[k]? =some x∧v=.ref p∧p≠D∧H3 p=some (.lst (y.map V.int))∧mY x lead y i∧Bd (2*bb b (min m os.length)+1) y∧(y=x∨LD y)) ys (fun k v e=>by
     obtain ⟨x,y,p,r⟩:=gx k v e
     exact ⟨y,x,p,r⟩)
    have hLn:mf H3 ys uV :=⟨Wv.symm,fun k v y e1 e2=>by
     obtain ⟨x,p,_,e,_,r,_⟩:=hp k v y e1 e2
     exact ⟨p,e,r⟩⟩
    have les:(mh.eraseIdx j).length=(lv.eraseIdx j).length:=hE.1
    have ML:Made os lead i (2*bb b (min m os.length)+1) (lv.eraseIdx j) uV :=⟨by omega,fun k x e=>by
     have hk:k < (lv.eraseIdx j).length:=(be.mp e).1
     have e1:ys[k]? =some (ys[k]'(by omega)):=gE (by omega)
     have e2:uV[k]? =some (uV[k]'(by omega)):=gE (by omega)
     obtain ⟨x',p,r1,_,_,_,r2,r3,_⟩:=hp k _ _ e1 e2
     rw [e] at r1
     cases r1
     exact ⟨_,e2,r2,r3⟩⟩
    have PL:∀l∈uV,Pr os l:=fun l hl=>by
     obtain ⟨k,ek⟩:=adg hl
     have hk:k < uV.length:=(be.mp ek).1
     have e1:ys[k]? =some (ys[k]'(by omega)):=gE (by omega)
     obtain ⟨x',p,r1,_,_,_,_,_,r4⟩:=hp k _ _ e1 ek
     rcases r4 with z | z
     ·rw [z]
      exact pL x' (aev (aa_ r1))
     ·exact .inr z
    have HR:=tt.trans s3
    have WE:=HR _ _ hd2
    have hN3:=Wy.same HR
    have hu4:=UX.same s3
    refine ⟨_,rfl,d,kvs,rfl,Rd.of WE,fun l3 n3=> ?_⟩
    have t4:=ay n3 (.lst (kvs.map fun kv=>kV kv.1))
    refine ⟨l3,rfl,⟨_,aU.of ag⟩,?_⟩
    have dl:d≠l3:=ao WE n3
    refine cv (K:=K) (a:=l3) (xs:=kvs.map fun kv=>kV kv.1) (fun t σ H' =>∃(o7:Option V) (ke :List (Key×V)) (gT :List (Nat×List Int)),σ=[some (.ref a),some (.int (m:Int)),some (.ref d),some (.ref D),some (.int ((0:Int)+i)),some (.int (j:Int)),some u,o7]∧au H H' ∧H' d=some (.dK ke)∧H' l3=some (.lst (kvs.map fun kv=>kV kv.1))∧H' D=some (.lst ys)∧mf H' ys uV ∧Ln H' u lead∧jV H' ke gT ∧gT.map (·.1)=nd.map (·.1)∧
      ∀(k:Nat) (x:Nat×List Int),nd[k]? =some x→∃y,gT[k]? =some (x.1,y)∧(t≤k→y=x.2)∧(k < t→(mY x.2 lead y i∧Bd (2*bb b (min m os.length)+1) y)∧(y=x.2∨LD y)))
     ⟨_,kvs,nd,rfl,((s1.trans s2).trans HR).trans t4,t4 _ _ WE,ag,t4 _ _ hD,hLn.same t4,hu4.same t4,hN3.same t4,rfl,fun k x e=>⟨x.2,e,fun _=>rfl,fun z=>absurd z (ad6 _)⟩⟩ (fun t σ H' _ h=>by
      obtain ⟨_,_,_,_,_,_,h,_⟩:=h
      exact aU.of h) ?_ ?_
    ·rintro t u7 σ H4 hu7 ⟨o7,ke,gT,rfl,s4,yS,hl4,Pg,WG,UY,EI,LF,Nc⟩
     rw [ir] at hu7
     obtain ⟨kv,qd,rfl⟩:=adk.mp hu7
     have htl:t < kvs.length:=(be.mp qd).1
     have hnl:=hN.1
     have ex:nd[t]? =some (nd[t]'(by omega)):=gE (by omega)
     obtain ⟨x,hx⟩:∃x,nd[t]? =some x:=⟨_,ex⟩
     obtain ⟨kx,hxm⟩:kv.1=.inl (x.1:Int)∧x∈nd:=⟨(hN3.2 t kv x qd hx).1,aa_ hx⟩
     obtain ⟨y,ey,y1,_⟩:=Nc t x hx
     have y2:=y1 (adf _)
     subst y2
     obtain ⟨v,ev,hv⟩:=EI.at ey
     have nk:(ke.map (·.1)).Nodup:=by
      rw [EI.keys]
      exact keys_nodup (by rw [LF];exact R.asc)
     have WH:=iJ nk ev
     have hxl:=R.kc x hxm
     have WD:=R.h8 lead eA
     have dg:cT H4 d (kV kv.1) (some v):=by
      rw [kx, ← WH]
      exact cT.k yS
     refine ⟨_,rfl,_,rfl,d,v,rfl,dg,_,rfl,_,rfl,v,u,x.2,lead,i,bb b (min m os.length),bb b (min m os.length),by rw [aed];rfl,hv,UY,by rw [hxl,WD],by omega,by omega,hj,R.zC x hxm,R.CA lead eA,UW,UW,fun v' l' H5 s5 L5 cl bd pz fr=> ?_⟩
     have LG:=s5 _ _ yS
     have l4' :=EI.1
     have WI :gT.length=nd.length:=by simpa using congrArg aee LF
     refine ⟨_,rfl,_,rfl,d,_,rfl,gf.k LG (adm (show ke.length≤1000 by omega) (by decide)),?_⟩
     rw [kx,Ik nk ev]
     have dn:d≠D:=fun z=>by rw [z,Pg] at yS;cases yS
     refine ⟨_,ke.set t (.inl (x.1:Int),v'),gT.set t (x.1,l'),rfl,fB (s4.trans s5) CB,ag,by rw [aj (adG dl)];exact s5 _ _ hl4,by rw [aj (adG dn)];exact s5 _ _ Pg,(WG.same s5).put LG,(UY.same s5).put LG,((EI.same s5).set L5).put LG,?_,fun k x' ek=> ?_⟩
     ·rw [List.map_set,LF]
      refine adT fun k=> ?_
      rw [adM]
      by_cases z:t=k
      ·subst z
       rw [if_pos rfl,if_pos (by simp;omega),ir,hx]
       rfl
      ·rw [if_neg z]
     ·obtain ⟨y',zB,a1,a2⟩:=Nc k x' ek
      by_cases z:t=k
      ·subst z
       rw [hx] at ek
       cases ek
       refine ⟨l',by rw [adM,if_pos rfl,if_pos (by omega)],fun w=>by omega,fun _=>⟨⟨cl,by rw [Nat.two_mul];exact bd⟩,pz⟩⟩
      ·exact ⟨y',by rw [adM,if_neg z];exact zB,fun w=>a1 (by omega),fun w=>a2 (by omega)⟩
    ·rintro σ H4 ⟨o7,ke,gT,rfl,s4,yS,hl4,Pg,WG,UY,EI,LF,Nc⟩
     have l4' :=EI.1
     have WI :gT.length=nd.length:=by simpa using congrArg aee LF
     have hnl:=hN.1
     rw [Wp] at Nc
     have MN:Made os lead i (2*bb b (min m os.length)+1) (nd.map (·.2)) (gT.map (·.2)):=⟨by simp [WI],fun k x e=>by
      rw [ir] at e
      obtain ⟨x0,e0,rfl⟩:=adk.mp e
      have hk:k < nd.length:=(be.mp e0).1
      obtain ⟨y,ey,_,a2⟩:=Nc k x0 e0
      exact ⟨y,by rw [ir,ey];rfl,(a2 (by omega)).1⟩⟩
     have WJ:bE ke (.inl ((0:Int)+i))=none:=kI (fun z=>by
      rw [EI.keys] at z
      obtain ⟨x',rC,e⟩:=ab_.mp z
      have e1:(x'.1:Int)=0+i:=alp e
      have:x'.1∈nd.map (·.1):=by rw [← LF];exact ab_.mpr ⟨x',rC,rfl⟩
      obtain ⟨x,hx,e2⟩:=ab_.mp this
      have:=R.cols x hx
      omega)
     refine ⟨_,rfl,_,rfl,_,rfl,d,_,rfl,gf.k (k:=.inl ((0:Int)+i)) yS (adm (show ke.length≤1000 by omega) (by decide)),?_⟩
     rw [cw u WJ]
     have dn:d≠D:=fun z=>by rw [z,Pg] at yS;cases yS
     have WK:∀l∈lv.eraseIdx j,l∈lv:=fun l h=>aev h
     have WL:∀l∈lv,l=lead∨l∈lv.eraseIdx j:=fun l h=>by
      obtain ⟨k,ek⟩:=adg h
      rcases Nat.lt_trichotomy k j with z | z | z
      ·exact .inr (aa_ (i:=k) (by rw [aez,if_pos z];exact ek))
      ·subst z
       rw [ej] at ek
       cases ek
       exact .inl rfl
      ·exact .inr (aa_ (i:=k - 1) (by rw [aez,if_neg (by omega),show k - 1+1=k by omega];exact ek))
     have WM:(lv.eraseIdx j).length+1=lv.length:=by rw [aet,if_pos hjl];omega
     have R2:=R.step eA WK WL WM hj ML LF MN
     obtain ⟨Wo,Nb,O2⟩:=O.step R.Ww ej (fun x hx=>R.zero lead eA x.1 (R.cols x hx)) hj ML.len (fun k x e=>by
      obtain ⟨y,ey,k1,_⟩:=ML.to k x e
      exact ⟨y,ey,k1⟩) WI fun k x e=>by
      obtain ⟨y,ey,k1,_⟩:=MN.to k x e
      exact ⟨y,ey,k1⟩
     have PN:∀x∈gT ++[(i,lead)],Pr os x.2:=fun x hx=>by
      rcases adq.mp hx with z | z
      ·obtain ⟨k,ek⟩:=adg z
       have hk:k < gT.length:=(be.mp ek).1
       obtain ⟨x0,e0⟩:∃x0,nd[k]? =some x0:=⟨_,gE (by omega)⟩
       obtain ⟨y,ey,_,a2⟩:=Nc k x0 e0
       rw [ek] at ey
       cases ey
       rcases (a2 (by omega)).2 with u | u
       ·show Pr os y
        rw [u]
        exact pN x0 (aa_ e0)
       ·exact .inr u
      ·rw [adj.mp z]
       exact pL lead eA
     have Ph:=R2.cnt
     have R3:=R2.small O2 hB (k:=min m os.length) (by rw [adp] at Ph ⊢;simp at Ph ⊢;omega) (by omega) PN PL
     refine ⟨D,ys,_,gT ++[(i,lead)],uV,_,_,_,_,rfl,fB s4 CB,ag,aU.of (by rw [aj (adG dn)];exact Pg),WG.put yS,(by rw [aed];exact (EI.snoc UY).put yS),by simp;omega,R3,⟨Wo,Nb,O2⟩,PN,PL⟩
  ·refine ⟨_,rfl,rfl,_,rfl,?_⟩
   refine bB (fun _=> ?_) (fun z=>by simp at z)
   exact ⟨al,mh,kvs,nd,lv,_,_,_,_,rfl,s1.trans s2,s2 _ _ hd,s2.seq Il,yR.same s2,hN.same s2,by omega,R.skip hz,⟨ps,qs,O⟩,pN,pL⟩
 ·rintro σ H1 ⟨al,mh,kvs,nd,lv,o4,o5,o6,o7,rfl,s1,hd,Il,yR,hN,hni,R,⟨ps,qs,O⟩,pN,pL⟩
  refine ⟨_,rfl,_,rfl,(by show 2≤sizeLine;decide),fun p np=> ?_⟩
  have sp:=ay np (.tup [.ref d,.ref al])
  have cnt:=R.cnt
  exact q p d al kvs mh nd lv _ (s1.trans sp) CB (s1.free np) ag (sp _ _ hd) (sp.seq Il) (hN.same sp) (yR.same sp) R
theorem qe {t b:Int}{T B:Nat}(hb:b≠0)(h1:t.natAbs≤2^T)(h2:b.natAbs≤2^B):Sm T B (low t b):=⟨iA hb,kD hb,adb (lF hb) h1,adb (lG hb) h2⟩
theorem iK {l:List Int}{j:Nat}(h:l.length≤j):l.getD j 0=0:=by
 rw [ado,ac_ h]
 rfl
def tq (m t:Nat)(nd:List (Nat×List Int))(qs:List (Int×Int)):Prop:=qs.length=m∧(∀i,i < t→∀x,nd[i]? =some x→qs[x.1]? =some (low (x.2.getD m 0) (x.2.getD x.1 0)))∧∀j,j < m→(∀i,i < t→∀x,nd[i]? =some x→x.1≠j)→qs[j]? =some (0,1)
theorem tq.sm {os:List (List Int)}{m b:Nat}{nd:List (Nat×List Int)}{lv:List (List Int)}{qs:List (Int×Int)}(R:Red os (m+1) m b nd lv)(F:tq m nd.length nd qs):∀q∈qs,Sm b b q:=by
 intro q hq
 obtain ⟨j,hj⟩:=adg hq
 have WN:j < m:=by have:=(be.mp hj).1;rw [← F.1];exact this
 by_cases c:∃(i:Nat) (x:Nat×List Int),nd[i]? =some x∧x.1=j
 ·obtain ⟨i,x,e,rfl⟩:=c
  have hi:i < nd.length:=(be.mp e).1
  have h1:=F.2.1 i hi x e
  rw [hj] at h1
  cases h1
  have hm:=aa_ e
  exact qe (R.here x hm) (R.zC x hm m) (R.zC x hm x.1)
 ·have h1:=F.2.2 j WN (fun i _ x e z=>c ⟨i,x,e,z⟩)
  rw [hj] at h1
  cases h1
  exact ⟨by decide,by decide,adL _,aeb⟩
theorem tq.sol {os:List (List Int)}{m b:Nat}{nd:List (Nat×List Int)}{lv:List (List Int)}{qs:List (Int×Int)}(R:Red os (m+1) m b nd lv)(F:tq m nd.length nd qs)(hz:∀l∈lv,l.getD m 0=0):∀o∈os,ev o (jQ (qs.map vl))=0:=by
 have ql:=F.1
 have zl:∀j q,qs[j]? =some q→jQ (qs.map vl) j=vl q:=fun j q e=>by
  have hj:j < qs.length:=(be.mp e).1
  unfold jQ
  rw [if_pos (by rw [Wp];exact hj),ado,ir,e]
  rfl
 have zm:jQ (qs.map vl) m= -1:=by
  unfold jQ
  rw [if_neg (by rw [Wp];omega)]
 refine (R.sol _).mp ⟨fun x hx=> ?_,fun l hl=> ?_⟩
 ·obtain ⟨i,e⟩:=adg hx
  have hi:i < nd.length:=(be.mp e).1
  have hc:=R.cols x hx
  have hh:=R.here x hx
  have h1:=F.2.1 i hi x e
  have zc:=zl _ _ h1
  rw [jh hh] at zc
  have other:∀j,j≠x.1→j≠m→((x.2.getD j 0:Int):Rat)*jQ (qs.map vl) j=0:=by
   intro j n1 n2
   by_cases hj:j < m
   ·by_cases c:∃(i:Nat) (x:Nat×List Int),nd[i]? =some x∧x.1=j
    ·obtain ⟨i',y,e',rfl⟩:=c
     rw [R.off x hx y (aa_ e') (adG n1)]
     simp
    ·have h2:=F.2.2 j hj (fun i _ x e z=>c ⟨i,x,e,z⟩)
     rw [zl _ _ h2]
     unfold vl
     simp
     grind
   ·rw [iK (by rw [R.kc x hx];omega)]
    simp
  have sp:jQ (qs.map vl)=fun i=>(if i=m then 0 else jQ (qs.map vl) i)+(if i=m then -1 else 0):=by
   funext i
   by_cases z:i=m
   ·rw [if_pos z,if_pos z,z,zm]
    grind
   ·rw [if_neg z,if_neg z]
    grind
  rw [sp,uM]
  have a1:=jr x.2 (fun i=>if i=m then 0 else jQ (qs.map vl) i) x.1 (fun j hj=>by
   by_cases z:j=m
   ·simp [z]
   ·rw [if_neg z]
    exact other j hj z)
  have a2:=jr x.2 (fun i=>if i=m then (-1:Rat) else 0) m (fun j hj=>by rw [if_neg hj];simp)
  rw [a1,a2]
  rw [if_neg (by omega),if_pos rfl,zc]
  have hh' :=bW hh
  grind
 ·refine kH l _ (fun j=> ?_)
  have:l.getD j 0=0:=by
   by_cases h1:j < m
   ·exact R.zero l hl j h1
   ·by_cases h2:j=m
    ·rw [h2]
     exact hz l hl
    ·exact iK (by rw [R.h8 l hl];omega)
  rw [this]
  simp
theorem tq.put {m t b:Nat}{os:List (List Int)}{nd:List (Nat×List Int)}{lv:List (List Int)}{qs:List (Int×Int)}{x:Nat×List Int}(R:Red os (m+1) m b nd lv)(F:tq m t nd qs)(e:nd[t]? =some x):tq m (t+1) nd (qs.set x.1 (low (x.2.getD m 0) (x.2.getD x.1 0))):=by
 have ql:=F.1
 have hx:=R.cols x (aa_ e)
 have WO:∀i y,i < t→nd[i]? =some y→y.1≠x.1:=fun i y hi ey=>by
  have a:=alE.mp R.asc i t (by rw [Wp];exact (be.mp ey).1) (by rw [Wp];exact (be.mp e).1) hi
  simp only [amA] at a
  have e1:=(be.mp ey).2
  have e2:=(be.mp e).2
  rw [e1,e2] at a
  omega
 refine ⟨by simp [ql],fun i hi y ey=> ?_,fun j hj h=> ?_⟩
 ·rcases adX.mp hi with z | z
  ·rw [adM,if_neg (adG (WO i y z ey))]
   exact F.2.1 i z y ey
  ·subst z
   rw [e] at ey
   cases ey
   rw [adM,if_pos rfl,if_pos (by omega)]
 ·rw [adM,if_neg (h t (adO _) x e)]
  exact F.2.2 j hj (fun i hi y ey=>h i (aeh hi) y ey)
theorem u5 {n j:Nat}(h:j < n):EE n (j:Int)=some j:=by
 unfold EE
 simp
 omega
theorem bH.putL {K:Frag}{H:Hp}{a d:Addr}{xs ys:List V}{o:HO}(h:bH K H a xs)(e:H d=some (.lst ys)):bH K (upd H d o) a xs:=by
 rcases h with (h | ⟨o',h⟩) | h
 ·exact .inl (.inl (by rw [aj (fun z=>by rw [z,e] at h;cases h)];exact h))
 ·exact .inl (.inr ⟨o',by rw [aj (fun z=>by rw [z,e] at h;cases h)];exact h⟩)
 ·exact .inr h
inductive h_ (K:Frag)(vs:List V)(H:Hp)(Q:VK)(E_:XK):Prop where
 | mk (a:Addr) (us:List V) (os:List (List Int:_)) (m b:Nat) (_:vs=[.ref a,.int (m:Int)]) (_:aU K H a us) (_:mf H us os) (_:(∀o∈os,o.length=m+1)) (_:m≤900) (_:os.length≤900) (_:(∀o∈os,Bd b o)) (_:bb b (min m os.length)≤29000000) (_:(∀(l:List Int) (H' :Hp),au H H' →l.length=m+1→js os l→(∀j,j < m→l.getD j 0=0)→l.getD m 0≠0→Q .cp H')) (_:(∀(x:Addr) (kJ :List V) (qs:List (Int×Int)) (H' :Hp),au H H' →H x=none→H' x=some (.lst kJ)→bT K H' kJ qs→qs.length=m→(∀q∈qs,Sm (bb b (min m os.length)) (bb b (min m os.length)) q)→(∀o∈os,ev o (jQ (qs.map vl))=0)→Q (.ref x) H')):h_ K vs H Q E_
theorem tu:aC ["lines","many","told","x","column","line"] ["lines","many"] (af yj):=sq
theorem Pj {aN:Addr}(hN:∀H:Hp,bH K H aN [.int 0,.int 1])(qf:mg "NOUGHT"=some (.ref aN))(D:Def K mg "solution_of" yj ["lines","many"])(CC:mg "any"=none)(LH:Fn P w K mg base (aS P w) 35 "reduced" ["lines","many"] (gN K))(u6:Fn P w K mg base (aS P w) 33 "lowest_terms" ["top","bottom"] d3):Fn P w K mg base (aS P w) 36 "solution_of" ["lines","many"] (h_ K):=by
 refine D.ok tu (fun vs H Q E h=> ?_) (fun f bj A outer s H vs Q E hr h=> ?_)
 ·obtain ⟨a,us,os,m,b,rfl,_⟩:=h
  rfl
 obtain ⟨a,us,os,m,b,rfl,hS,hL,hlen,hm,ho,hB,hb,q1,q2⟩:=h
 refine ⟨_,(ae (ax (i:=2) tu.nd rfl (adi rfl) (aD LH hr.mo pX (ar (pv 0) (ar (pv 1) aa))))
  (ae (bC (zK (a8 (xK rfl) rfl CC OJ (ar (du (tn:=["line"]) (fr:=["many"]) (caps:=[1]) rfl ⟨rfl,by decide+kernel,rfl,by decide+kernel,by decide+kernel,rfl,⟨(by first | exact adi rfl | exact ad0 rfl),trivial⟩,⟨(by first | exact adi rfl | exact ad0 rfl),trivial⟩⟩ (bF (aR (pv 2))) (fun _ _ _ _=>(aE (i:=0) (show (["line","many"]:List Str).Nodup from by decide+kernel) rfl (adi rfl))) (fun _ _ _ _=>c_) (fun _ _ _ _=>(oU vN (bc (r9 (K:=K) rfl) (pv 0) (pv 1) (fun _ _=>rfl)) ah (aZ _)))) aa))) (ak (aG kR)) aQ)
  (ae (ax (i:=3) tu.nd rfl (adi rfl) (aA uF (bG (ar (eL (v:=.ref aN) rfl qf rfl) aa)) (pv 1)))
  (ae (bo PassesOwn.never rfl (iD (aR (pv 2))) (eW rfl (aX (aE (i:=4) tu.nd rfl (adi rfl)) (aX (aE (i:=5) tu.nd rfl (adi rfl)) cN))) (ak (oR (aD u6 hr.mo pX (ar (bc a_ (pv 5) (pv 1) (fun _ _=>rfl)) (ar (bc a_ (pv 5) (pv 4) (fun _ _=>rfl)) aa))) (oQ (pv 3) (pv 4) set_list))))
  (ak (aG (pv 3))))))),?_⟩
 refine ⟨_,rfl,_,rfl,a,us,os,m+1,m,b,rfl,hS,hL,hlen,by omega,by omega,by omega,hB,hb,fun p d a' kvs kJ nd lv H1 s1 CB np hp hd Il LI JW R=> ?_⟩
 have lu:=JW.1
 have cnt:=R.cnt
 refine ⟨_,rfl,p,_,_,_,rfl,rfl,bH.of hp,ig,a',rfl,⟨_,Il⟩,fun D1 n1=> ?_⟩
 refine dZ (cap:=[some (.int (m:Int))]) (K:=K) (a:=a') (xs:=kJ) (fun k v _=>∃l,lv[k]? =some l∧v=.bl (decide (l.getD m 0≠0))) n1 (adm (show kJ.length≤1000 by omega) (by decide)) (fun H2 s2=>s2.seq Il) (fun _ _ _ _ _ _ _ h=>h) ?_ ?_
 ·intro k x H2 RR ex s2 kk
  obtain ⟨l,el,b',rfl,fG⟩:=JW.at ex
  have hll:=R.h8 l (aa_ el)
  refine ⟨_,rfl,_,rfl,b',_,_,_,rfl,rfl,aU.of (s2 _ _ fG),jU (by omega),rfl,?_⟩
  refine kk _ _ (au.refl _) ⟨l,el,?_⟩
  simp
 ·intro ys H2 hy gx s2 hD
  have ey:ys=(lv.map fun l=>decide (l.getD m 0≠0)).map V.bl:=by
   refine adT fun i=> ?_
   by_cases hi:i < ys.length
   ·have e1:ys[i]? =some ys[i]:=gE hi
    obtain ⟨l,el,e⟩:=gx i _ e1
    rw [e1,e,ir,ir,el]
    rfl
   ·rw [ac_ (by omega),ac_ (by simp;omega)]
  subst ey
  refine ⟨D1,_,rfl,aU.of hD,_,rfl,?_⟩
  have zD:=s1.trans s2
  refine bB (fun c=> ?_) (fun c=> ?_)
  ·obtain ⟨b',fG,hb1⟩:=aex.mp c
   obtain ⟨l,hl,rfl⟩:=ab_.mp fG
   have hn:l.getD m 0≠0:=of_decide_eq_true hb1
   exact q1 l H2 zD (R.h8 l hl) (R.iI l hl) (R.zero l hl) hn
  ·have hz:∀l∈lv,l.getD m 0=0:=fun l hl=>by
    by_cases z:l.getD m 0=0
    ·exact z
    ·exact absurd (aex.mpr ⟨true,ab_.mpr ⟨l,hl,decide_eq_true z⟩,rfl⟩) c
   refine ⟨(by show 1≤sizeLine;decide),fun p3 n3=> ?_⟩
   have s3:=ay n3 (.lst [V.ref aN])
   refine ⟨_,rfl,p3,_,_,rfl,rfl,ag,by omega,by omega,adb (show 1*(m:Int).toNat≤1000 by omega) (by decide),fun x n4=> ?_⟩
   have s4:=ay n4 (.lst (adn (m:Int).toNat [V.ref aN]).flatten)
   have s14:=(zD.trans s3).trans s4
   have nx:H x=none:=(zD.trans s3).free n4
   have er:(adn (m:Int).toNat [V.ref aN]).flatten=adn m (V.ref aN):=by simp
   have hp4:=s4 _ _ (s3 _ _ (s2 _ _ hp))
   have yS:=s4 _ _ (s3 _ _ (s2 _ _ hd))
   have EI:=((LI.same s2).same s3).same s4
   have dx:d≠x:=ao (s3 _ _ (s2 _ _ hd)) n4
   refine ⟨_,rfl,p,_,_,_,rfl,rfl,bH.of hp4,gZ,d,kvs,rfl,yS,fun o=> ?_⟩
   refine fm (d:=d) (o:=o) (kvs:=kvs) (fun t σ H' =>∃(o4 o5:Option V) (oB:List V) (qs:List (Int×Int)),σ=[some (.ref a),some (.int (m:Int)),some (.ref p),some (.ref x),o4,o5]∧au H H' ∧H' d=some (.bP o (.dK kvs))∧H' x=some (.lst oB)∧bT K H' oB qs∧jV H' kvs nd∧tq m t nd qs)
    ⟨none,none,adn m (V.ref aN),adn m (0,1),rfl,fB s14 CB,ag,by rw [aj (adG dx),ag,er],⟨by simp,fun i u q' e1 e2=> ?_⟩,EI.put yS,⟨by simp,fun i hi=>absurd hi (ad6 _),fun j hj _=>by rw [adS,if_pos hj]⟩⟩ (fun t σ H' _ h=>by
     obtain ⟨_,_,_,_,_,_,h,_⟩:=h
     exact h) ?_ ?_
   ·rw [adS] at e1 e2
    by_cases z:i < m
    ·rw [if_pos z] at e1 e2
     cases e1
     cases e2
     exact ⟨aN,rfl,hN _⟩
    ·rw [if_neg z] at e1
     cases e1
   ·rintro t k v σ H5 p7 qd ⟨o4,o5,oB,qs,rfl,s5,LG,WQ,Im,u9,F⟩ n7
    have ht:t < kvs.length:=(be.mp qd).1
    have hl5:=u9.1
    obtain ⟨c,ec⟩:∃c,nd[t]? =some c:=⟨_,gE (by omega)⟩
    obtain ⟨k1,k2⟩:=u9.2 t _ c qd ec
    have WR :k=.inl (c.1:Int):=k1
    subst WR
    obtain ⟨b',eb,fG⟩:=k2
    have LJ :v=.ref b' :=eb
    subst LJ
    have LK:=aa_ ec
    have hcl:=R.kc c LK
    have UG:=R.cols c LK
    have s7:=ay n7 (.tup [kV (.inl (c.1:Int)),.ref b'])
    have Pk:=s7 _ _ fG
    refine ⟨p7,_,rfl,bH.of ag,rfl,_,_,rfl,_,_,rfl,rfl,?_⟩
    refine ⟨_,rfl,_,rfl,b',_,_,_,rfl,rfl,aU.of Pk,jU (by omega),_,rfl,_,rfl,b',_,_,_,rfl,rfl,aU.of Pk,jU (by omega),?_⟩
    refine ⟨_,_,rfl,R.here c LK,fun p8 H8 s8 e8=> ?_⟩
    have u_:=s7.trans s8
    have Pl:=u_ _ _ WQ
    have l2:=Im.1
    have xn:∀{b0:Addr} {o0:HO},H b0=some o0→b0≠x:=fun e=>ao e nx
    have WS:=u_ _ _ LG
    refine ⟨_,rfl,_,rfl,x,oB,_,c.1,rfl,rfl,Pl,u5 (by rw [l2,F.1];exact UG),?_⟩
    refine ⟨_,_,oB.set c.1 (.ref p8),qs.set c.1 (low (c.2.getD m 0) (c.2.getD c.1 0)),rfl,fB (s5.trans u_) nx,by rw [aj dx];exact WS,ag,?_,?_,F.put R ec⟩
    ·have base:bT K H8 (oB.set c.1 (.ref p8)) (qs.set c.1 (low (c.2.getD m 0) (c.2.getD c.1 0))):=(Im.same u_).set ⟨p8,rfl,bH.of e8⟩
     refine ⟨base.1,fun i u q' e1 e2=> ?_⟩
     obtain ⟨p9,e9,h9⟩:=base.2 i u q' e1 e2
     exact ⟨p9,e9,bH.putL h9 Pl⟩
    ·have base:=u9.same u_
     refine ⟨base.1,fun i kv y e1 e2=>⟨(base.2 i kv y e1 e2).1,?_⟩⟩
     obtain ⟨p9,e9,h9⟩:=LI.2 i kv y e1 e2 |>.2
     refine ⟨p9,e9,?_⟩
     have px9:p9≠x:=fun z=>by
      have:=(s3 _ _ (s2 _ _ h9))
      rw [z,n4] at this
      cases this
     rw [aj px9]
     obtain ⟨p10,zE,WT⟩:=(base.2 i kv y e1 e2).2
     rw [e9] at zE
     cases zE
     exact WT
   ·rintro σ H5 ⟨o4,o5,oB,qs,rfl,s5,LG,WQ,Im,u9,F⟩
    have hl5:=u9.1
    rw [hl5] at F
    exact ⟨_,rfl,q2 x oB qs H5 s5 nx WQ Im F.1 (F.sm R) (F.sol R hz)⟩
def ia (H:Hp)(r:Addr)(ls:List Addr)(bL:List (List V)):Prop:=H r=some (.lst (ls.map V.ref))∧ls.length=bL.length∧∀(i:Nat) (l:Addr) (vs:List V),ls[i]? =some l→bL[i]? =some vs→H l=some (.lst vs)
theorem ia.same {H H' :Hp}{r:Addr}{ls:List Addr}{bL:List (List V)}(h:ia H r ls bL)(s:au H H'):ia H' r ls bL:=⟨s _ _ h.1,h.2.1,fun i l vs e1 e2=>s _ _ (h.2.2 i l vs e1 e2)⟩
def Shape (T B m:Nat)(cy:List (List (Int×Int))):Prop:=∀qs∈cy,qs.length=m∧∀q∈qs,Sm T B q
def gy (K:Frag)(H:Hp)(bL:List (List V))(cy:List (List (Int×Int))):Prop:=bL.length=cy.length∧∀(i:Nat) (vs:List V) (qs:List (Int×Int)),bL[i]? =some vs→cy[i]? =some qs→bT K H vs qs
theorem gy.same {H H' :Hp}{bL:List (List V)}{cy:List (List (Int×Int))}(h:gy K H bL cy)(s:au H H'):gy K H' bL cy:=⟨h.1,fun i vs qs e1 e2=>(h.2 i vs qs e1 e2).same s⟩
theorem CD {α:Type}{xs:List α}{x y:α}{j:Nat}(e:(xs++[x])[j]? =some y):(j < xs.length∧xs[j]? =some y)∨(j=xs.length∧x=y):=by
 by_cases c:j < xs.length
 ·rw [adl c] at e
  exact .inl ⟨c,e⟩
 ·rw [adu (by omega)] at e
  by_cases z:j - xs.length=0
  ·rw [z] at e
   exact .inr ⟨by omega,adB e⟩
  ·rw [ac_ (by simp;omega)] at e
   cases e
theorem ia.snoc {H:Hp}{r D:Addr}{ls:List Addr}{bL:List (List V)}{us:List V}(h:ia H r ls bL)(nr:r∉ls)(hD:H D=some (.lst us))(nD:D≠r):ia (upd H r (.lst (ls.map V.ref++[.ref D]))) r (ls++[D]) (bL++[us]):=by
 obtain ⟨m1,m2,m3⟩:=h
 refine ⟨by rw [ag,adv];rfl,by simp [m2],fun j l vs e1 e2=> ?_⟩
 rcases CD e1 with ⟨c1,d1⟩ | ⟨c1,d1⟩ <;> rcases CD e2 with ⟨c2,d2⟩ | ⟨c2,d2⟩
 ·have ne:l≠r:=fun z=>nr (by rw [← z];exact aa_ d1)
  rw [aj ne]
  exact m3 j l vs d1 d2
 ·omega
 ·omega
 ·subst d1 d2
  rw [aj nD]
  exact hD
theorem ia.row {H:Hp}{r:Addr}{ls:List Addr}{bL:List (List V)}(h:ia H r ls bL){i:Nat}{vs:List V}(e:bL[i]? =some vs):∃l,ls[i]? =some l∧H l=some (.lst vs):=by
 have hi:i < bL.length:=(be.mp e).1
 have l1:=h.2.1
 have e1:ls[i]? =some (ls[i]'(by omega)):=gE (by omega)
 exact ⟨_,e1,h.2.2 i _ _ e1 e⟩
def yT (bL:List (List V))(j:Nat):List V:=bL.map fun vs=>vs.getD j .cp
def iL (bL:List (List V))(m:Nat):List (List V):=(adY m).map fun j=>yT bL j
inductive mi (vs:List V)(H:Hp)(Q:VK)(E_:XK):Prop where
 | mk (r:Addr) (ls:List Addr) (bL:List (List V:_)) (m:Int) (_:vs=[.ref r,.int m]) (_:ia H r ls bL) (_:0≤m) (_:m≤1000) (_:ls.length≤1000) (_:(∀vs∈bL,m≤(vs.length:Int))) (_:∀c cs H',au H H' →ia H' c cs (iL bL m.toNat)→Q (.ref c) H'):mi vs H Q E_
theorem CG:aC ["rows","many","columns","column"] ["rows","many"] (af yh):=sq
theorem Pm (D:Def K mg "turned" yh ["rows","many"])(bO:mg "range"=none):Fn P w K mg base (aS P w) 1 "turned" ["rows","many"] mi:=by
 refine D.ok CG (fun vs H Q E h=> ?_) (fun f bj A outer s H vs Q E hr h=> ?_)
 ·obtain ⟨r,ls,bL,m,rfl,_⟩:=h
  rfl
 obtain ⟨r,ls,bL,m,rfl,M,m0,m1,hn,hv,q⟩:=h
 refine ⟨_,(ae (ax (i:=2) CG.nd rfl (adi rfl) (bG aa))
  (ae (bo PassesOwn.never rfl (dS rfl bO (ar (pv 1) aa)) (aE (i:=3) CG.nd rfl (ad0 rfl)) (ak (bX (lh PySem.F.plainAttrs_list PySem.F.slot_list_append PySem.F.type_list_append dX (pv 2) (ar (du (tn:=["row"]) (fr:=["column"]) (caps:=[3]) rfl ⟨rfl,by decide+kernel,rfl,by decide+kernel,by decide+kernel,rfl,⟨(by first | exact adi rfl | exact ad0 rfl),trivial⟩,⟨(by first | exact adi rfl | exact ad0 rfl),trivial⟩⟩ (bF (pv 0)) (fun _ _ _ _=>(aE (i:=0) (show (["row","column"]:List Str).Nodup from by decide+kernel) rfl (adi rfl))) (fun _ _ _ _=>c_) (fun _ _ _ _=>(bc (r9 (K:=K) rfl) (pv 0) (pv 1) (fun _ _=>rfl)))) aa)))))
  (ak (aG (pv 2))))),?_⟩
 have l1:=M.2.1
 refine ⟨(by show 0≤sizeLine;decide),fun c nc=> ?_⟩
 refine ⟨_,rfl,_,rfl,by omega,by omega,?_⟩
 refine dW (lo:=0) (n:=m.toNat) (fun i σ H' =>∃(o:Option V) (cs:List Addr),σ=[some (.ref r),some (.int m),some (.ref c),o]∧au H H' ∧ia H' c cs (iL bL i)∧c∉cs) ⟨none,[],rfl,ay nc _,⟨ag,rfl,fun i l vs e=>by simp at e⟩,by simp⟩ ?_ ?_
 ·rintro i σ H' hi ⟨o,cs,rfl,s1,C,WU⟩
  have M' :=M.same s1
  refine ⟨_,rfl,.inl ⟨rfl,_,aU.of C.1⟩,?_⟩
  refine ⟨_,rfl,r,rfl,⟨_,aU.of M'.1⟩,fun D nD=> ?_⟩
  refine dZ (cap:=[some (.int ((0:Int)+i))]) (K:=K) (a:=r) (xs:=ls.map V.ref) (fun k v _=>∃vs,bL[k]? =some vs∧v=vs.getD i .cp) nD (by rw [Wp];exact adm hn (by decide)) (fun H2 s2=>aU.of (s2 _ _ M'.1)) (fun _ _ _ _ _ _ _ h=>h) ?_ ?_
  ·intro k u H2 R hu s2 kk
   rw [ir] at hu
   obtain ⟨l,el,rfl⟩:=adk.mp hu
   have hk:k < ls.length:=(be.mp el).1
   have ev:bL[k]? =some (bL[k]'(by omega)):=gE (by omega)
   have hl:=M'.2.2 k l _ el ev
   have OH :i < (bL[k]'(by omega)).length:=by
    have:=hv _ (aa_ ev)
    omega
   have ea:i8 (bL[k]'(by omega)) ((0:Int)+(i:Int))=some ((bL[k]'(by omega)).getD i .cp):=by
    rw [aed]
    exact cU (by rw [gE OH,ado,gE OH];rfl)
   exact ⟨_,rfl,_,rfl,l,_,_,_,rfl,rfl,aU.of (s2 _ _ hl),ea,kk _ _ (au.refl _) ⟨_,ev,rfl⟩⟩
  ·intro ys H2 hy gx s2 hD
   rw [Wp] at hy
   have ey:ys=yT bL i:=by
    refine adT fun k=> ?_
    unfold yT
    by_cases hk:k < ys.length
    ·have e1:ys[k]? =some ys[k]:=gE hk
     obtain ⟨vs,ev,e2⟩:=gx k _ e1
     rw [e1,e2,ir,ev]
     rfl
    ·rw [ac_ (by omega),ac_ (by simp;omega)]
   subst ey
   have lc:cs.length=i:=by have:=C.2.1;simpa [iL] using this
   have nDc:D≠c:=fun z=>by rw [z,C.1] at nD;cases nD
   have fc:∀b o,H b=some o→b≠c:=fun b o e=>ao e nc
   refine ⟨c,_,_,rfl,rfl,s2 _ _ C.1,by rw [Wp,lc];exact adm (show i≤1000 by omega) (by decide),?_⟩
   refine ⟨_,cs++[D],rfl,fun b o e=> ?_,?_,fun z=> ?_⟩
   ·rw [aj (fc b o e)]
    exact s2 _ _ (s1 _ _ e)
   ·have e:iL bL (i+1)=iL bL i++[yT bL i]:=by simp [iL,al4]
    rw [e]
    exact (C.same s2).snoc WU hD nDc
   ·rcases adq.mp z with y | y
    ·exact WU y
    ·exact nDc (adj.mp y).symm
 ·rintro σ H' ⟨o,cs,rfl,s1,C,WU⟩
  exact ⟨_,rfl,q c cs H' s1 C⟩
def CH (cy:List (List (Int×Int)))(j:Nat):List (Int×Int):=cy.map fun qs=>qs.getD j (0,1)
theorem Bd.of {b:Nat}{l:List Int}(h:∀t∈l,t.natAbs≤2^b):Bd b l:=fun j=>by
 by_cases hj:j < l.length
 ·have e:l[j]? =some l[j]:=gE hj
  rw [getD_mem e]
  exact h _ (aea hj)
 ·rw [iK (by omega)]
  exact adL _
abbrev Wl:=List Int×Int×Addr×Addr
def UZ (T B m:Nat)(qs:List (Int×Int))(d:Int×Int)(w:Wl):Prop:=f7 w.1 (qs++[d]) w.2.1∧0 < w.2.1∧w.2.1.natAbs≤2^(B*(m+1))∧∀t∈w.1,t.natAbs≤2^(T+B*(m+1))
theorem CI {zF:List (List Int)}{j n:Nat}(h:∀l∈zF,l.length=n)(hj:j < n):yT (zF.map fun l=>l.map V.int) j=(zF.map fun l=>l.getD j 0).map V.int:=by
 unfold yT
 rw [adC,adC]
 refine ady fun l hl=> ?_
 have hlen:=h l hl
 have e:l[j]? =some (l[j]'(by omega)):=gE (by omega)
 show (l.map V.int).getD j .cp=.int (l.getD j 0)
 rw [getD_mem e,ado,ir,e]
 rfl
theorem mj (j:Nat):∀{ws:List Wl} {ss ys:List (Int×Int)} {cs:List (Int×Int)},ss.length=ws.length→ys.length=ws.length→cs.length=ws.length→
  (∀(i:Nat) (w:Wl) (s y:Int×Int),ws[i]? =some w→ss[i]? =some s→ys[i]? =some y→vl y=vl s*w.2.1)→(∀(i:Nat) (w:Wl) (c:Int×Int),ws[i]? =some w→cs[i]? =some c→((w.1.getD j 0:Int):Rat)=vl c*w.2.1)→fH ys cs=cW (ss.map vl) (ws.map (·.1)) j
 | [],[],[],[],_,_,_,_,_=>by simp [fH,cW]
 | w::ws,s::ss,y::ys,c::cs,h1,h2,h3,h4,h5=>by
  have ih:=mj j (ws:=ws) (ss:=ss) (ys:=ys) (cs:=cs) (by simpa using h1) (by simpa using h2) (by simpa using h3) (fun i w s y e1 e2 e3=>h4 (i+1) w s y (by simpa using e1) (by simpa using e2) (by simpa using e3)) (fun i w c e1 e2=>h5 (i+1) w c (by simpa using e1) (by simpa using e2))
  have a:=h4 0 w s y rfl rfl rfl
  have b:=h5 0 w c rfl rfl
  have ed:fH (y::ys) (c::cs)=vl y*vl c+fH ys cs:=by simp [fH]
  simp only [ada,cW]
  rw [ed,ih,a,b]
  grind
 | [],_::_,_,_,h,_,_,_,_=>by simp at h
 | [],[],_::_,_,_,h,_,_,_=>by simp at h
 | [],[],[],_::_,_,_,h,_,_=>by simp at h
 | _::_,[],_,_,h,_,_,_,_=>by simp at h
 | _::_,_::_,[],_,_,h,_,_,_=>by simp at h
 | _::_,_::_,_::_,[],_,_,h,_,_=>by simp at h
def uh (m:Nat)(zF:List (List Int)):List (List Int):=(adY m).map (fun j=>(zF.map fun l=>l.getD j 0)++[0])++[(zF.map fun l=>l.getD m 0)++[1]]
theorem qg {m:Nat}{zF:List (List Int)}{o:List Int}(h:o∈uh m zF):∃k,k < m+1∧o=(zF.map fun l=>l.getD k 0)++[if k=m then 1 else 0]∧True:=by
 unfold uh at h
 rcases adq.mp h with z | z
 ·obtain ⟨j,hj,rfl⟩:=ab_.mp z
  have OS :j < m:=ad1.mp hj
  exact ⟨j,by omega,by rw [if_neg (by omega)],trivial⟩
 ·exact ⟨m,by omega,by rw [if_pos rfl];exact adj.mp z,trivial⟩
theorem LL {m k:Nat}{zF:List (List Int)}(h:k < m+1):(zF.map fun l=>l.getD k 0)++[if k=m then 1 else 0]∈uh m zF:=by
 unfold uh
 by_cases z:k=m
 ·subst z
  rw [if_pos rfl]
  simp
 ·rw [if_neg z]
  exact adq.mpr (.inl (ab_.mpr ⟨k,ad1.mpr (by omega),rfl⟩))
theorem vb {m n:Nat}{l0 l1:List Int}{ws:List Wl}(hlen:∀l∈ws.map (·.1),l.length=m+1)(hn:ws.length=n)(c0:js (ws.map (·.1)) l0)(h0:∀j,j < m→l0.getD j 0=0)(h0m:l0.getD m 0≠0)(c1:js (uh m (ws.map (·.1))) l1)(l1l:l1.length=n+1)(h1:∀j,j < n→l1.getD j 0=0)(hp:∀o∈uh m (ws.map (·.1)),o.length=n+1):l1.getD n 0=0:=by
 obtain ⟨y0,ly,ey⟩:=c0
 have amR :=bW h0m
 have ly' :(y0.map fun a=>a*(1 / ((l0.getD m 0:Int):Rat))).length=(ws.map (·.1)).length:=by simp [ly]
 have all:∀o∈uh m (ws.map (·.1)),ev o (jQ (y0.map fun a=>a*(1 / ((l0.getD m 0:Int):Rat))))=0:=by
  intro o ho
  obtain ⟨k,hk,rfl,_⟩:=qg ho
  rw [uN k _ (ws.map (·.1)) _ ly',lY, ← ey k]
  by_cases z:k=m
  ·subst z
   rw [if_pos rfl]
   have e' :((1:Int):Rat)=1:=by simp
   rw [e']
   grind
  ·rw [if_neg z,h0 k (by omega)]
   simp
   grind
 have e:=HI (n:=n+1) c1 (by omega) (fun o ho=>by rw [hp o ho];exact adf _) all
 rw [jr l1 _ n (fun j hj=>by
  by_cases z:j < n
  ·rw [h1 j z]
   simp
  ·rw [iK (by omega)]
   simp)] at e
 have zn:jQ (y0.map fun a=>a*(1 / ((l0.getD m 0:Int):Rat))) n= -1:=by
  unfold jQ
  rw [if_neg (by rw [ly',Wp];omega)]
 rw [zn] at e
 have:((l1.getD n 0:Int):Rat)=0:=by grind
 exact_mod_cast this
theorem yU {ts:List Int}{qs:List (Int×Int)}{d:Int×Int}{b:Int}{j:Nat}(h:f7 ts (qs++[d]) b)(hj:j < qs.length):((ts.getD j 0:Int):Rat)=vl (qs.getD j (0,1))*b:=by
 have l:=h.1
 rw [adp] at l
 simp at l
 have e1:ts[j]? =some (ts[j]'(by omega)):=gE (by omega)
 have e2:qs[j]? =some qs[j]:=gE hj
 have:=h.2 j _ _ e1 (by rw [adl hj];exact e2)
 rw [getD_mem e1,ado,e2]
 exact this
theorem vc {ts:List Int}{qs:List (Int×Int)}{d:Int×Int}{b:Int}{m:Nat}(h:f7 ts (qs++[d]) b)(hm:qs.length=m):((ts.getD m 0:Int):Rat)=vl d*b:=by
 have l:=h.1
 rw [adp] at l
 simp at l
 have e1:ts[m]? =some (ts[m]'(by omega)):=gE (by omega)
 have:=h.2 m _ d e1 (by rw [adu (by omega),hm];simp)
 rw [getD_mem e1]
 exact this
inductive qh (K:Frag)(vs:List V)(H:Hp)(Q:VK)(E_:XK):Prop where
 | mk (r dl:Addr) (m:Nat) (ls:List Addr) (bL:List (List V:_)) (cy:List (List (Int×Int))) (Pn:List V) (ds:List (Int×Int)) (T B Z:Nat) (_:vs=[.ref r,.ref dl,.int (m:Int)]) (_:ia H r ls bL) (_:gy K H bL cy) (_:H dl=some (.lst Pn)) (_:bT K H Pn ds) (_:ds.length=cy.length) (_:Shape T B m cy) (_:(∀d∈ds,Sm T B d)) (_:m≤100) (_:cy.length≤100) (_:T≤20000) (_:B*(m+1)≤100000) (_:B≤8000) (_:bb (T+B*(m+1)) (min (m+1) cy.length)≤Z) (_:Z≤29000000) (_:(∀(p x:Addr) (us:List V) (xs:List (Int×Int)) (H' :Hp),au H H' →H' p=some (.tup [.str "solved",.ref x])→H' x=some (.lst us)→bT K H' us xs→xs.length=m→(∀q∈xs,Sm Z Z q)→(∀(i:Nat) (qs:List (Int×Int)) (d:Int×Int),cy[i]? =some qs→ds[i]? =some d→fH qs xs=vl d)→Q (.ref p) H')) (_:(∀(p y:Addr) (us:List V) (ys:List (Int×Int)) (H' :Hp),au H H' →H' p=some (.tup [.str "paper",.ref y])→H' y=some (.lst us)→bT K H' us ys→ys.length=cy.length→(∀q∈ys,Sm (Z+B*(m+1)) Z q)→(∀j,j < m→fH ys (CH cy j)=0)→fH ys ds=1→Q (.ref p) H')):qh K vs H Q E_
theorem mq:aC ["rows","due","many","wholes","lines","x","columns","papers","shares"] ["rows","due","many"] (af yg):=sq
theorem Po (D:Def K mg "solve_rows" yg ["rows","due","many"])(g6:mg "zip"=none)(bw:mg "len"=none)(LM:Fn P w K mg base (aS P w) 2 "whole_row" ["row"] (HW K))(Pp:Fn P w K mg base (aS P w) 36 "solution_of" ["lines","many"] (h_ K))(WV:Fn P w K mg base (aS P w) 1 "turned" ["rows","many"] mi)(u6:Fn P w K mg base (aS P w) 33 "lowest_terms" ["top","bottom"] d3):
  Fn P w K mg base (aS P w) 37 "solve_rows" ["rows","due","many"] (qh K):=by
 refine D.ok mq (fun vs H Q E h=> ?_) (fun f bj A outer s H vs Q E hr h=> ?_)
 ·obtain ⟨r,dl,m,ls,bL,cy,Pn,ds,T,B,Z,rfl,_⟩:=h
  rfl
 obtain ⟨r,dl,m,ls,bL,cy,Pn,ds,T,B,Z,rfl,M,NN,hdl,ND,hds,sh,sd,hm,hn,hT,hB,US,hZ,WW,q1,q2⟩:=h
 refine ⟨_,(ae (pI (i:=3) mq.nd rfl (adi rfl) (tn:=["row","number"]) (fr:=[]) (caps:=[]) rfl ⟨rfl,by decide+kernel,rfl,by decide+kernel,by decide+kernel,rfl,trivial,trivial⟩ (uG rfl g6 (ar (pv 0) (ar (pv 1) aa))) (fun _ _ _ _=>(pO (K:=K) (n:=2) rfl rfl (aX (aE (i:=0) (show (["row","number"]:List Str).Nodup from by decide+kernel) rfl (adi rfl)) (aX (aE (i:=1) (show (["row","number"]:List Str).Nodup from by decide+kernel) rfl (adi rfl)) cN)))) (fun _ _ _ _=>c_) (fun _ _ _ _=>(aD LM hr.mo (r8 (by first | assumption | exact aS.pG) rfl) (ar (aA g_ (pv 0) (bG (ar (pv 1) aa))) aa))))
  (ae (pI (i:=4) mq.nd rfl (adi rfl) (tn:=["whole"]) (fr:=[]) (caps:=[]) rfl ⟨rfl,by decide+kernel,rfl,by decide+kernel,by decide+kernel,rfl,trivial,trivial⟩ (bF (pv 3)) (fun _ _ _ _=>(aE (i:=0) (show (["whole"]:List Str).Nodup from by decide+kernel) rfl (adi rfl))) (fun _ _ _ _=>c_) (fun _ _ _ _=>(bc (dP (K:=K) rfl) (pv 0) ah (fun _ _=>rfl))))
  (ae (ax (i:=5) mq.nd rfl (adi rfl) (aD Pp hr.mo pX (ar (pv 4) (ar (pv 2) aa))))
  (ae (bC (aL F' (pv 5) kR (aZ _)) (ak (aG (aI (ar dH (ar (pv 5) aa))))) aQ)
  (ae (ax (i:=6) mq.nd rfl (adi rfl) (aD WV hr.mo pX (ar (pv 4) (ar (aA bx (pv 2) ah) aa))))
  (ae (ax (i:=7) mq.nd rfl (adi rfl) (aA g_ (du (tn:=["column"]) (fr:=[]) (caps:=[]) rfl ⟨rfl,by decide+kernel,rfl,by decide+kernel,by decide+kernel,rfl,trivial,trivial⟩ (bF (d6 gI (pv 6) gH (eQ (pv 2)))) (fun _ _ _ _=>(aE (i:=0) (show (["column"]:List Str).Nodup from by decide+kernel) rfl (adi rfl))) (fun _ _ _ _=>c_) (fun _ _ _ _=>(aA g_ (pv 0) (bG (ar ah aa))))) (bG (ar (aA g_ (bc a_ (pv 6) (pv 2) (fun _ _=>rfl)) (bG (ar ah aa))) aa))))
  (ae (ax (i:=8) mq.nd rfl (adi rfl) (aD Pp hr.mo pX (ar (pv 7) (ar (a8 aY rfl bw dA (ar (pv 4) aa)) aa))))
  (ak (aG (aI (ar dH (ar (du (tn:=["share","whole"]) (fr:=[]) (caps:=[]) rfl ⟨rfl,by decide+kernel,rfl,by decide+kernel,by decide+kernel,rfl,trivial,trivial⟩ (uG rfl g6 (ar (pv 8) (ar (pv 3) aa))) (fun _ _ _ _=>(pO (K:=K) (n:=2) rfl rfl (aX (aE (i:=0) (show (["share","whole"]:List Str).Nodup from by decide+kernel) rfl (adi rfl)) (aX (aE (i:=1) (show (["share","whole"]:List Str).Nodup from by decide+kernel) rfl (adi rfl)) cN)))) (fun _ _ _ _=>c_) (fun _ _ _ _=>(aD u6 hr.mo (r8 (by first | assumption | exact aS.pG) rfl) (ar (aA gK (bc (dP (K:=K) rfl) (pv 0) ah (fun _ _=>rfl)) (bc (dP (K:=K) rfl) (pv 1) ah (fun _ _=>rfl))) (ar (bc (dP (K:=K) rfl) (pv 0) ah (fun _ _=>rfl)) aa))))) aa)))))))))))),?_⟩
 have l1:=M.2.1
 have l2:=NN.1
 have l3:=ND.1
 refine ⟨_,rfl,_,rfl,r,dl,rfl,⟨_,aU.of M.1⟩,⟨_,aU.of hdl⟩,fun D1 n1=> ?_⟩
 refine xN (cap:=[]) (K:=K) (xs:=ls.map V.ref) (ys:=Pn) (fun i v H=>∃w:Wl,v=.ref w.2.2.2∧w.2.2.1≠D1∧H w.2.2.2=some (.tup [.ref w.2.2.1,.int w.2.1])∧H w.2.2.1=some (.lst (w.1.map V.int))∧∀qs d,cy[i]? =some qs→ds[i]? =some d→UZ T B m qs d w) n1 (by rw [Wp];exact adm (show ls.length≤1000 by omega) (by decide)) (by rw [Wp];omega) (fun H2 s2=>aU.of (s2 _ _ M.1)) (fun H2 s2=>aU.of (s2 _ _ hdl)) ?_ ?_ ?_
 ·rintro i v H2 H3 ys hD ks ⟨w,e1,e2,e3,e4,e5⟩
  exact ⟨w,e1,e2,ks _ _ (fun z=>by rw [z,hD] at e3;cases e3) e3,ks _ _ e2 e4,e5⟩
 ·rintro i x y H2 RR ex ey s2 ⟨WA,WX⟩ kk
  rw [ir] at ex
  obtain ⟨l,el,rfl⟩:=adk.mp ex
  have hi:i < ls.length:=(be.mp el).1
  obtain ⟨qs,eq⟩:∃qs,cy[i]? =some qs:=⟨_,gE (by omega)⟩
  obtain ⟨vs,ev⟩:∃vs,bL[i]? =some vs:=⟨_,gE (by omega)⟩
  have hl:=M.2.2 i l vs el ev
  have hq:=NN.2 i vs qs ev eq
  obtain ⟨d,ed,nd⟩:=ND.at ey
  obtain ⟨lq,sq⟩:=sh qs (aa_ eq)
  have lvs:=hq.1
  refine ⟨_,rfl,_,rfl,(by show 1≤sizeLine;decide),fun p1 np1=> ?_⟩
  have t1:=ay np1 (.lst [y])
  refine ⟨l,p1,vs,_,rfl,rfl,t1 _ _ (s2 _ _ hl),ag,adb (show vs.length+1≤1000 by omega) (by decide),fun p2 np2=> ?_⟩
  have t2:=ay np2 (.lst (vs++[y]))
  have U0:=t1.trans t2
  refine ⟨p2,qs++[d],T,B,rfl,⟨_,aU.of ag,(bT.snoc ((hq.same s2).same U0) ((nd.same s2).same U0))⟩,fun q' ja => ?_,hT,by rw [adp,lq];exact hB,US,by rw [adp,lq];show m+1≤1000;omega,fun p3 Pq ts b H3 s3 nl WY WZ hb Pu wh Pw=> ?_⟩
  ·rcases adq.mp ja with z | z
   ·exact sq q' z
   ·rw [adj.mp z]
    exact sd d (aa_ ed)
  ·refine kk _ _ (U0.trans s3) ⟨(ts,b,Pq,p3),rfl,fun z=> ?_,WY,WZ,fun Nb d' e1 e2=> ?_⟩
   ·have:=U0 _ _ WX
    rw [show Pq =D1 from z,this] at nl
    cases nl
   ·rw [eq] at e1
    rw [ed] at e2
    cases e1
    cases e2
    rw [adp,lq] at Pu Pw
    exact ⟨wh,hb,Pu,Pw⟩
 ·intro zs H2 hz gx s2 Px
  rw [Wp] at hz
  obtain ⟨ws,lw,hw⟩:=gM (P:=fun i v (w:Wl)=>v=.ref w.2.2.2∧w.2.2.1≠D1∧H2 w.2.2.2=some (.tup [.ref w.2.2.1,.int w.2.1])∧H2 w.2.2.1=some (.lst (w.1.map V.int))∧∀qs d,cy[i]? =some qs→ds[i]? =some d→UZ T B m qs d w) zs gx
  have ez:zs=ws.map (fun w=>V.ref w.2.2.2):=by
   refine adT fun i=> ?_
   rw [ir]
   by_cases hi:i < zs.length
   ·have e1:zs[i]? =some zs[i]:=gE hi
    have e2:ws[i]? =some (ws[i]'(by omega)):=gE (by omega)
    have h:=(hw i _ _ e1 e2).1
    rw [e1,e2,h]
    rfl
   ·rw [ac_ (by omega),ac_ (by omega)]
    rfl
  subst ez
  have Io:ws.length=cy.length:=by omega
  have Nd:∀(i:Nat) (w:Wl),ws[i]? =some w→H2 w.2.2.2=some (.tup [.ref w.2.2.1,.int w.2.1])∧H2 w.2.2.1=some (.lst (w.1.map V.int))∧∀qs d,cy[i]? =some qs→ds[i]? =some d→UZ T B m qs d w:=fun i w e=>(hw i _ w (by rw [ir,e];rfl) e).2.2
  have wp:∀(i:Nat) (w:Wl),ws[i]? =some w→∃qs d,cy[i]? =some qs∧ds[i]? =some d∧UZ T B m qs d w:=fun i w e=>by
   have hi:i < ws.length:=(be.mp e).1
   obtain ⟨qs,eq⟩:∃qs,cy[i]? =some qs:=⟨_,gE (by omega)⟩
   obtain ⟨d,ed⟩:∃d,ds[i]? =some d:=⟨_,gE (by omega)⟩
   exact ⟨qs,d,eq,ed,(Nd i w e).2.2 qs d eq ed⟩
  have yV:∀l∈ws.map (·.1),l.length=m+1:=fun l hl=>by
   obtain ⟨w,LN,rfl⟩:=ab_.mp hl
   obtain ⟨i,e⟩:=adg LN
   obtain ⟨qs,d,eq,_,wh,_⟩:=wp i w e
   have:=wh.1
   rw [adp,(sh qs (aa_ eq)).1] at this
   exact this
  have U1:∀l∈ws.map (·.1),Bd (T+B*(m+1)) l:=fun l hl=>by
   obtain ⟨w,LN,rfl⟩:=ab_.mp hl
   obtain ⟨i,e⟩:=adg LN
   obtain ⟨qs,d,eq,_,_,_,_,h⟩:=wp i w e
   exact Bd.of h
  have Py:(ws.map (·.1)).length=cy.length:=by rw [Wp];exact Io
  refine ⟨_,rfl,D1,rfl,⟨_,aU.of Px⟩,fun D2 n2=> ?_⟩
  refine dZ (cap:=[]) (K:=K) (a:=D1) (xs:=ws.map (fun w=>V.ref w.2.2.2)) (fun k v _=>∃w,ws[k]? =some w∧v=.ref w.2.2.1) n2 (by rw [Wp];exact adm (show ws.length≤1000 by omega) (by decide)) (fun H3 s3=>aU.of (s3 _ _ Px)) (fun _ _ _ _ _ _ _ h=>h) ?_ ?_
  ·intro k x H3 RR ex s3 kk
   rw [ir] at ex
   obtain ⟨w,ew,rfl⟩:=adk.mp ex
   exact ⟨_,rfl,w.2.2.2,_,_,_,rfl,rfl,bH.of (s3 _ _ (Nd k w ew).1),gZ,kk _ _ (au.refl _) ⟨w,ew,rfl⟩⟩
  intro ys H3 hy Pz s3 W0
  have ey:ys=(ws.map (fun w=>w.2.2.1)).map V.ref:=by
   refine adT fun i=> ?_
   rw [Wp] at hy
   by_cases hi:i < ys.length
   ·have e1:ys[i]? =some ys[i]:=gE hi
    obtain ⟨w,e2,e3⟩:=Pz i _ e1
    rw [e1,e3,ir,ir,e2]
    rfl
   ·rw [ac_ (by omega),ac_ (by simp;omega)]
  subst ey
  have W5:mf H3 ((ws.map (fun w=>w.2.2.1)).map V.ref) (ws.map (·.1)):=⟨by simp,fun i u l e1 e2=>by
   rw [ir,ir] at e1
   rw [ir] at e2
   cases e:ws[i]? with
   | none=>rw [e] at e2;cases e2
   | some w=>
    rw [e] at e1 e2
    cases e1
    cases e2
    exact ⟨w.2.2.1,rfl,s3 _ _ (Nd i w e).2.1⟩⟩
  have hMm:ia H3 D2 (ws.map (fun w=>w.2.2.1)) ((ws.map (·.1)).map fun l=>l.map V.int):=⟨W0,by simp,fun i l vs e1 e2=>by
   rw [ir] at e1
   rw [ir,ir] at e2
   cases e:ws[i]? with
   | none=>rw [e] at e2;cases e2
   | some w=>
    rw [e] at e1 e2
    cases e1
    cases e2
    exact s3 _ _ (Nd i w e).2.1⟩
  have mn:bb (T+B*(m+1)) (min m (ws.map (·.1)).length)≤Z:=adb (qa _ (by rw [Py];omega)) hZ
  have W7:=s2.trans s3
  refine ⟨_,rfl,_,rfl,D2,_,ws.map (·.1),m,T+B*(m+1),rfl,aU.of W0,W5,yV,by omega,by omega,U1,adb mn WW,fun l0 H4 s4 l0l cm l00 l0m=> ?_,fun x kJ xs H4 s4 nx hx nxs lxs sxs sol=> ?_⟩
  ·refine ⟨_,rfl,rfl,_,rfl,?_⟩
   refine bB (fun z=>by simp at z) (fun _=> ?_)
   have M4:=hMm.same s4
   refine ⟨_,rfl,_,rfl,_,_,rfl,rfl,D2,ws.map (fun w=>w.2.2.1),_,(m:Int)+1,rfl,M4,by omega,by omega,by rw [Wp];omega,fun vs hvs=> ?_,fun c cs H5 s5 M5=> ?_⟩
   ·obtain ⟨l,hl,rfl⟩:=ab_.mp hvs
    rw [Wp,yV l hl]
    omega
   have lcs:cs.length=m+1:=by
    have:=M5.2.1
    unfold iL at this
    simp at this
    omega
   have col:∀k,k < m+1→∃l,cs[k]? =some l∧H5 l=some (.lst (((ws.map (·.1)).map fun l=>l.getD k 0).map V.int)):=fun k hk=>by
    have e:(iL ((ws.map (·.1)).map fun l=>l.map V.int) ((m:Int)+1).toNat)[k]? =some (((ws.map (·.1)).map fun l=>l.getD k 0).map V.int):=by
     rw [← CI yV hk]
     unfold iL
     rw [ir,ama (by omega)]
     rfl
    exact M5.row e
   refine ⟨_,rfl,_,rfl,_,rfl,c,_,rfl,aU.of M5.1,fun p6 n6=> ?_⟩
   have t6:=ay n6 (.lst (fF (cs.map V.ref) none (some (m:Int))))
   refine ⟨p6,rfl,⟨_,aU.of ag⟩,fun D6 nD6=> ?_⟩
   have lcl:((ws.map (·.1)).map fun l=>l.getD 0 0).length≤100:=by simp;omega
   refine hV (cap:=[]) (K:=K) (a:=p6) (xs:=(cs.map V.ref).take m) (fun k v H=>∃p,v=.ref p∧p≠D6∧H p=some (.lst ((List.map (fun l:List Int=>l.getD k 0) (ws.map (fun w:Wl=>w.1))++[(0:Int)]).map V.int))) nD6 (adm (show ((cs.map V.ref).take m).length≤1000 by simp;omega) (by decide)) (fun H7 s7=>aU.of (s7 _ _ (by rw [ag,qc (by simp;omega)]))) ?_ ?_ ?_
   ·rintro k v H7 H8 ys hD ks ⟨p,e1,e2,e3⟩
    exact ⟨p,e1,e2,ks _ _ e2 e3⟩
   ·rintro k x H7 RR ex s7 ⟨WA,yQ⟩ kk
    have hk:k < m:=by have:=(be.mp ex).1;simp at this;omega
    obtain ⟨l,el,hl⟩:=col k (by omega)
    rw [List.getElem?_take,if_pos hk,ir,el] at ex
    cases ex
    refine ⟨_,rfl,(by show 1≤sizeLine;decide),fun pz nz=> ?_⟩
    have tz:=ay nz (.lst [.int 0])
    refine ⟨l,pz,_,_,rfl,rfl,tz _ _ (s7 _ _ (t6 _ _ hl)),ag,adb (show _≤1000 by simp;omega) (by decide),fun pn nn=> ?_⟩
    have tn:=ay nn (.lst (((ws.map (·.1)).map fun l=>l.getD k 0).map V.int++[.int 0]))
    refine kk _ _ (tz.trans tn) ⟨pn,rfl,fun z=> ?_,by rw [ag,adv];rfl⟩
    have:=tz _ _ yQ
    rw [z,this] at nn
    cases nn
   intro EJ H7 hy6 PD s7 hD6
   have ly6:EJ.length=m:=by rw [hy6];simp;omega
   have W9:=t6.trans s7
   obtain ⟨lm,elm,W_⟩:=col m (by omega)
   refine ⟨_,rfl,_,rfl,c,_,_,_,rfl,rfl,aU.of (W9 _ _ M5.1),cU (by rw [ir,elm];rfl),(by show 1≤sizeLine;decide),fun pz nz=> ?_⟩
   have tz:=ay nz (.lst [.int 1])
   refine ⟨lm,pz,_,_,rfl,rfl,tz _ _ (W9 _ _ W_),ag,adb (show _≤1000 by simp;omega) (by decide),fun pn nn=> ?_⟩
   have tn:=ay nn (.lst (((ws.map (·.1)).map fun l=>l.getD m 0).map V.int++[.int 1]))
   refine ⟨(by show 1≤sizeLine;decide),fun pL nL=> ?_⟩
   have tL:=ay nL (.lst [V.ref pn])
   have tzL:=(tz.trans tn).trans tL
   refine ⟨D6,pL,EJ,_,rfl,rfl,tzL _ _ hD6,ag,adb (show EJ.length+1≤1000 by omega) (by decide),fun pP nP=> ?_⟩
   have tP:=ay nP (.lst (EJ++[V.ref pn]))
   have s7P:=tzL.trans tP
   have hpn:=tP _ _ (tL _ _ (ag (H:=upd H7 pz (.lst [.int 1])) (a:=pn) (o:=.lst (((ws.map (·.1)).map fun l=>l.getD m 0).map V.int++[.int 1]))))
   have eP:upd (upd (upd (upd H7 pz (.lst [.int 1])) pn (.lst (((ws.map (·.1)).map fun l=>l.getD m 0).map V.int++[.int 1]))) pL (.lst [V.ref pn])) pP (.lst (EJ++[V.ref pn])) pP=some (.lst (EJ++[V.ref pn])):=ag
   have Xa:∀(k:Nat) (v:V),EJ[k]? =some v→Ln H7 v (((ws.map (·.1)).map fun l=>l.getD k 0)++[0]):=fun k v e=>by
    obtain ⟨p,e1,_,e3⟩:=PD k v e
    exact ⟨p,e1,e3⟩
   have s5P:=W9.trans s7P
   generalize upd (upd (upd (upd H7 pz (.lst [.int 1])) pn (.lst (((ws.map (·.1)).map fun l=>l.getD m 0).map V.int++[.int 1]))) pL (.lst [V.ref pn])) pP (.lst (EJ++[V.ref pn]))=H9 at*
   have Xb:mf H9 (EJ++[V.ref pn]) (uh m (ws.map (·.1))):=by
    refine ⟨by simp [uh,ly6],fun k u l e1 e2=> ?_⟩
    unfold uh at e2
    by_cases hk:k < m
    ·rw [adl (by omega)] at e1
     rw [adl (by simpa using hk),ir,ama hk] at e2
     cases e2
     exact (Xa k u e1).same s7P
    ·rw [adu (by omega)] at e1
     rw [adu (by simp;omega)] at e2
     by_cases hkm:k=m
     ·subst hkm
      rw [show k - EJ.length=0 by omega] at e1
      rw [show k - ((adY k).map fun j=>((ws.map (·.1)).map fun l=>l.getD j 0)++[0]).length=0 by simp] at e2
      cases e1
      cases e2
      exact ⟨pn,rfl,by rw [hpn,adv];rfl⟩
     ·rw [ac_ (by simp;omega)] at e1
      cases e1
   have ppl:∀o∈uh m (ws.map (·.1)),o.length=cy.length+1:=fun o ho=>by
    rcases qg ho with ⟨k,hk,e⟩
    rw [e.1]
    simp [Io]
   have ppb:∀o∈uh m (ws.map (·.1)),Bd (T+B*(m+1)) o:=fun o ho=>by
    rcases qg ho with ⟨k,hk,e,hc⟩
    rw [e]
    refine Bd.of fun t ht=> ?_
    rcases adq.mp ht with z | z
    ·obtain ⟨l,hl,rfl⟩:=ab_.mp z
     exact U1 l hl k
    ·rw [adj.mp z]
     refine adb ?_ (aeb (n:=T+B*(m+1)))
     split <;> decide
   have Xc:(uh m (ws.map (·.1))).length=m+1:=by simp [uh]
   have U2:bb (T+B*(m+1)) (min cy.length (uh m (ws.map (·.1))).length)≤Z:=adb (qa _ (by rw [Xc];omega)) hZ
   have LO:=(s4.trans s5).trans s5P
   refine ⟨_,rfl,_,rfl,D2,_,rfl,.inl (aU.of (LO _ _ W0)),pP,_,uh m (ws.map (·.1)),cy.length,T+B*(m+1),by simp [Io],aU.of eP,Xb,ppl,by omega,by omega,ppb,adb U2 WW,fun l1 K7 xx l1l cm1 qi l1m=> ?_,fun x2 oB ss K7 xx nx2 hx2 nss Nf Xd Xe=> ?_⟩
   ·exact absurd (vb yV Io cm l00 l0m cm1 l1l qi ppl) l1m
   have csm:∀k,k < m+1→cW (ss.map vl) (ws.map (·.1)) k=if k=m then 1 else 0:=fun k hk=>by
    have e:=Xe _ (LL hk)
    rw [uN k _ (ws.map (·.1)) (ss.map vl) (by simp [Io,Nf])] at e
    by_cases z:k=m
    ·rw [if_pos z] at e ⊢
     have e' :((1:Int):Rat)=1:=by simp
     rw [e'] at e
     grind
    ·rw [if_neg z] at e ⊢
     have e' :((0:Int):Rat)=0:=by simp
     rw [e'] at e
     grind
   have LP:=LO.trans xx
   have PH:=LP _ _ (s3 _ _ Px)
   have ana:=nss.1
   refine ⟨_,rfl,_,rfl,x2,D1,rfl,⟨_,aU.of hx2⟩,⟨_,aU.of PH⟩,fun D9 n9=> ?_⟩
   refine r_ (cap:=[]) (K:=K) (xs:=oB) (ys:=ws.map (fun w=>V.ref w.2.2.2)) (fun k v H=>∃w q,ws[k]? =some w∧ss[k]? =some q∧Nm H v (low (q.1*w.2.1) q.2)) n9 (adm (show oB.length≤1000 by omega) (by decide)) (by rw [Wp];omega) (fun K8 vV=>aU.of (vV _ _ hx2)) (fun K8 vV=>aU.of (vV _ _ PH)) ?_ ?_ ?_
   ·rintro k v K8 H12 ys hD ks ⟨w,q,e1,e2,e3⟩
    exact ⟨w,q,e1,e2,e3.kept hD ks⟩
   ·intro k x y K8 RR ex ey vV kk
    obtain ⟨q,LQ,ps,rfl,hps⟩:=nss.at ex
    rw [ir] at ey
    obtain ⟨w,ew,rfl⟩:=adk.mp ey
    obtain ⟨qs,d,eqs,PJ,wh,wb,Xf,_⟩:=wp k w ew
    have sq:=Xd q (aa_ LQ)
    have Xg:=vV _ _ (LP _ _ (s3 _ _ (Nd k w ew).1))
    have PK:=Ty.au.fK vV hps
    refine ⟨_,rfl,ps,_,_,_,rfl,rfl,PK,gZ,_,rfl,w.2.2.2,_,_,_,rfl,rfl,bH.of Xg,ig,_,_,rfl,rfl,fo (lM sq.top U2) Xf (by omega),_,rfl,ps,_,_,_,rfl,rfl,PK,ig,?_⟩
    exact ⟨_,_,rfl,by have:=sq.pos;omega,fun p8 H8 s8 e8=>kk _ _ s8 ⟨w,q,ew,LQ,p8,rfl,e8⟩⟩
   intro us9 K8 h9 PM vV hD9
   refine ⟨(by show 2≤sizeLine;decide),fun U3 Xh=> ?_⟩
   have zD:=ay Xh (.tup [.str "paper",.ref D9])
   have Xi:∀(k:Nat) (w:Wl) (q:Int×Int),ws[k]? =some w→ss[k]? =some q→(ad2 (fun (w:Wl) (q:Int×Int)=>low (q.1*w.2.1) q.2) ws ss)[k]? =some (low (q.1*w.2.1) q.2):=fun k w q e1 e2=>by rw [aen,e1,e2]
   have CJ:(ad2 (fun (w:Wl) (q:Int×Int)=>low (q.1*w.2.1) q.2) ws ss).length=cy.length:=by simp [Io,Nf]
   have vly:∀(k:Nat) (w:Wl) (q y:Int×Int),ws[k]? =some w→ss[k]? =some q→(ad2 (fun (w:Wl) (q:Int×Int)=>low (q.1*w.2.1) q.2) ws ss)[k]? =some y→vl y=vl q*w.2.1:=fun k w q y e1 e2 e3=>by
    rw [Xi k w q e1 e2] at e3
    cases e3
    have sq:=Xd q (aa_ e2)
    rw [jh (by have:=sq.pos;omega)]
    unfold vl
    push_cast
    grind
   refine q2 U3 D9 us9 (ad2 (fun (w:Wl) (q:Int×Int)=>low (q.1*w.2.1) q.2) ws ss) _ (((W7.trans LP).trans vV).trans zD) ag (zD _ _ hD9) ⟨by rw [h9,CJ];omega,fun k u y e1 e2=> ?_⟩ CJ (fun y hy=> ?_) (fun j hj=> ?_) ?_
   ·obtain ⟨w,q,ew,LQ,p,e,hp⟩:=PM k u e1
    rw [Xi k w q ew LQ] at e2
    cases e2
    exact ⟨p,e,bH.of (zD _ _ hp)⟩
   ·obtain ⟨k,hk⟩:=adg hy
    have hkl:k < cy.length:=by rw [← CJ];exact (be.mp hk).1
    obtain ⟨w,ew⟩:∃w,ws[k]? =some w:=⟨_,gE (by omega)⟩
    obtain ⟨q,LQ⟩:∃q,ss[k]? =some q:=⟨_,gE (by omega)⟩
    rw [Xi k w q ew LQ] at hk
    cases hk
    obtain ⟨qs,d,eqs,PJ,wh,wb,Xf,_⟩:=wp k w ew
    have sq:=Xd q (aa_ LQ)
    exact qe (by have:=sq.pos;omega) (pQ (lM sq.top U2) Xf) (lM sq.bot U2)
   ·rw [mj j (ws:=ws) (ss:=ss) (by omega) (by rw [CJ,Io]) (by simp [CH,Io]) vly ?_,csm j (by omega),if_neg (by omega)]
    intro k w cq ew ec
    obtain ⟨qs,d,eqs,PJ,wh,_⟩:=wp k w ew
    unfold CH at ec
    rw [ir,eqs] at ec
    cases ec
    exact yU wh (by rw [(sh qs (aa_ eqs)).1];exact hj)
   ·rw [mj m (ws:=ws) (ss:=ss) (by omega) (by rw [CJ,Io]) (by omega) vly ?_,csm m (by omega),if_pos rfl]
    intro k w cq ew ec
    obtain ⟨qs,d,eqs,PJ,wh,_⟩:=wp k w ew
    rw [ec] at PJ
    cases PJ
    exact vc wh (sh qs (aa_ eqs)).1
  ·refine ⟨_,rfl,rfl,_,rfl,?_⟩
   refine bB (fun _=> ?_) (fun z=>by simp at z)
   refine ⟨_,rfl,(by show 2≤sizeLine;decide),fun p5 n5=> ?_⟩
   have s5:=ay n5 (.tup [.str "solved",.ref x])
   refine q1 p5 x kJ xs _ ((W7.trans s4).trans s5) ag (s5 _ _ hx) (nxs.same s5) lxs (fun q hq=>(sxs q hq).up mn mn) (fun i qs d eq ed=> ?_)
   have hi:i < cy.length:=(be.mp eq).1
   obtain ⟨w,ew⟩:∃w,ws[i]? =some w:=⟨_,gE (by omega)⟩
   obtain ⟨wh,wb,_⟩:=(Nd i w ew).2.2 qs d eq ed
   have e0:=sol w.1 (ab_.mpr ⟨w,aa_ ew,rfl⟩)
   rw [sJ wh (by rw [lxs,(sh qs (aa_ eq)).1])] at e0
   have wb' :=bW (b:=w.2.1) (by omega)
   grind
inductive vd (K:Frag)(f:Int×Int→Int×Int→Int×Int)(vs:List V)(H:Hp)(Q:VK)(E_:XK):Prop where
 | mk (u v:V) (x y:Int×Int) (_:vs=[u,v]) (_:jR K H u x) (_:jR K H v y) (_:O5 100000 x) (_:O5 100000 y) (_:gives H Q (f x y)):vd K f vs H Q E_
theorem PQ:aC ["one","other"] ["one","other"] (af uZ):=sq
theorem PU (hM:rY CX)(D:Def K mg "difference_of" uZ ["one","other"])(u6:Fn P w K mg base CX 33 "lowest_terms" ["top","bottom"] d3):Fn P w K mg base CX 34 "difference_of" ["one","other"] (vd K subQ):=by
 refine D.ok PQ (fun vs H Q E h=> ?_) (fun f bj A outer s H vs Q E hr h=> ?_)
 ·obtain ⟨u,v,x,y,rfl,_⟩:=h
  rfl
 obtain ⟨u,v,x,y,rfl,⟨p1,rfl,h1⟩,⟨p2,rfl,h2⟩,k1,k2,q⟩:=h
 have px:=rZ (X:=j8 CX P w K mg base ["one","other"] "difference_of" (af uZ) f bj A outer s H E) hM
 refine ⟨_,(ak (aG (aD u6 hr.mo px (ar (aA c8 (aA bN (aR (pv 0)) (aR (pv 1))) (aA bN (aR (pv 1)) (aR (pv 0)))) (ar (aA bN (aR (pv 0)) (aR (pv 1))) aa))))),?_⟩
 have b1:=k1.top
 have b2:=k1.bot
 have b3:=k2.top
 have b4:=k2.bot
 have c:∀{i j:Int},intBits i≤100000→intBits j≤100000→rW i j:=fun a b=>⟨adb a (by decide),adb b (by decide)⟩
 refine ⟨_,rfl,p1,_,_,_,rfl,rfl,h1,gZ,_,rfl,p2,_,_,_,rfl,rfl,h2,ig,_,_,rfl,rfl,c b1 b4,?_⟩
 refine ⟨_,rfl,p2,_,_,_,rfl,rfl,h2,gZ,_,rfl,p1,_,_,_,rfl,rfl,h1,ig,_,_,rfl,rfl,c b3 b2,?_⟩
 refine ⟨_,_,rfl,rfl,?_⟩
 refine ⟨_,rfl,p1,_,_,_,rfl,rfl,h1,ig,_,rfl,p2,_,_,_,rfl,rfl,h2,ig,_,_,rfl,rfl,c b2 b4,?_⟩
 exact ⟨_,_,rfl,HV k1 k2,q⟩
inductive ve (K:Frag)(f:Rat→Rat→Rat)(vs:List V)(H:Hp)(Q:VK)(E_:XK):Prop where
 | mk (u v:V) (x y:Rat) (_:vs=[u,v]) (_:fe K H u x) (_:fe K H v y) (_:Sz 100000 x) (_:Sz 100000 y) (_:gives H Q (qr (f x y))):ve K f vs H Q E_
theorem CK {k:Nat}{r:Rat}(h:Sz k r):O5 k (qr r):=⟨b7 r,h.top,h.bot⟩
theorem LR {k:Nat}{x:Str}{ps:List Str}(F:Fn P w K mg base CX k x ps (vd K subQ)):Fn P w K mg base CX k x ps (ve K fun a b=>a - b):=by
 obtain ⟨f,fd,G,r⟩:=F.ex
 refine ⟨f,fd,G.imp fun vs H Q E h=> ?_,r⟩
 obtain ⟨u,v,a,b,e,h1,h2,k1,k2,q⟩:=h
 refine ⟨u,v,qr a,qr b,e,h1,h2,CK k1,CK k2,?_⟩
 unfold subQ
 rw [BK]
 exact q
def CL (K:Frag)(H:Hp)(Q:VK)(p:Rat×Rat):Prop:=∀(v:V) (H' :Hp),au H H' →d0 K H' v p→Q v H'
inductive vf (K:Frag)(f:Rat→Rat→Rat)(vs:List V)(H:Hp)(Q:VK)(E_:XK):Prop where
 | mk (u v:V) (x y:Rat×Rat) (_:vs=[u,v]) (_:d0 K H u x) (_:d0 K H v y) (_:Sz 100000 x.1) (_:Sz 100000 x.2) (_:Sz 100000 y.1) (_:Sz 100000 y.2) (_:CL K H Q (f x.1 y.1,f x.2 y.2)):vf K f vs H Q E_
theorem PV:aC ["one","other"] ["one","other"] (af u0):=sq
theorem PX (hM:rY CX)(D:Def K mg "pair_difference" u0 ["one","other"])(PY:Fn P w K mg base CX 34 "difference_of" ["one","other"] (ve K fun a b=>a - b)):Fn P w K mg base CX 35 "pair_difference" ["one","other"] (vf K fun a b=>a - b):=by
 refine D.ok PV (fun vs H Q E h=> ?_) (fun f bj A outer s H vs Q E hr h=> ?_)
 ·obtain ⟨u,v,x,y,rfl,_⟩:=h
  rfl
 obtain ⟨u,v,x,y,rfl,⟨p1,a1,a2,rfl,h1,n1,n2⟩,⟨p2,b1,b2,rfl,h2,m1,m2⟩,k1,k2,l1,l2,q⟩:=h
 have px:=rZ (X:=(j8 (aS P w) P w K mg base ["one","other"] "pair_difference" (af u0) f bj A outer s H E)) hM
 refine ⟨_,(ak (aG (aI (ar (aD PY hr.mo px (ar (aR (pv 0)) (ar (aR (pv 1)) aa))) (ar (aD PY hr.mo px (ar (aR (pv 0)) (ar (aR (pv 1)) aa))) aa))))),?_⟩
 refine ⟨_,rfl,p1,_,_,_,rfl,rfl,h1,gZ,_,rfl,p2,_,_,_,rfl,rfl,h2,gZ,a1,b1,_,_,rfl,n1,m1,k1,l1,fun c1 H1 s1 e1=> ?_⟩
 refine ⟨_,rfl,p1,_,_,_,rfl,rfl,Ty.au.fK s1 h1,ig,_,rfl,p2,_,_,_,rfl,rfl,Ty.au.fK s1 h2,ig,a2,b2,_,_,rfl,n2.same s1,m2.same s1,k2,l2,fun c2 H2 s2 e2=> ?_⟩
 refine ⟨(by show 2≤sizeLine;decide),fun c3 n3=> ?_⟩
 have s3:=ay n3 (.tup [.ref c1,.ref c2])
 exact q (.ref c3) _ (fun b o z=>s3 _ _ (s2 _ _ (s1 _ _ z))) ⟨c3,_,_,rfl,bH.of ag,⟨c1,rfl,bH.of (s3 _ _ (s2 _ _ e1))⟩,⟨c2,rfl,bH.of (s3 _ _ e2)⟩⟩
inductive qj (K:Frag)(C:Addr)(vs:List V)(H:Hp)(Q:VK)(E_:XK):Prop where
 | mk (a dx:Addr) (_:vs=[.ref a]) (_:H a=some (.ins C dx [])) (_:∀(pP pW pB:Addr) (H' :Hp),aH a H H' →H pP=none→H pW=none→H pB=none→eK K H' C a dx pP pW pB [] [] [] [] []→Q .cp H'):qj K C vs H Q E_
theorem Ip {x:V}:eY "pin_places" x []=([("pin_places",x)]:List (Str×V)):=rfl
theorem Iq {x y:V}:eY "pin_ways" y [("pin_places",x)]=([("pin_places",x),("pin_ways",y)]:List (Str×V)):=by
 simp only [eY]
 rw [if_neg (by decide)]
theorem Ir {x y z:V}:eY "bar_ends" z [("pin_places",x),("pin_ways",y)]=([("pin_places",x),("pin_ways",y),("bar_ends",z)]:List (Str×V)):=by
 simp only [eY]
 rw [if_neg (by decide),if_neg (by decide)]
theorem PZ:aC ["self"] ["self"] (af yE):=sq
theorem P0 {f:Addr}{fd:FuncData}{C:Addr}(F:mX K "__init__" "Frame.__init__" yE f fd)(fc:BJ K C):ck P w K mg base (aS P w) 1 f fd ["self"] (qj K C):=by
 refine cO F PZ (fun vs H Q E h=> ?_) (fun bj A outer s H vs Q E hr h=> ?_)
 ·obtain ⟨a,dx,rfl,_⟩:=h
  rfl
 obtain ⟨a,dx,rfl,ha,q⟩:=h
 refine ⟨_,(ae (oY (pv 0) dC rfl)
  (ae (oY (pv 0) dC rfl)
  (ak (oY (pv 0) dC rfl)))),?_⟩
 intro pP nP
 have aP:a≠pP:=ao ha nP
 refine ⟨_,rfl,a,C,dx,_,rfl,(by rw [aj aP];exact ha),fc.cls,fc.pl,(by show 0 < 1000;decide),?_⟩
 rw [Ip]
 generalize e1:upd (upd H pP (.dK [])) a (.ins C dx [("pin_places",.ref pP)])=H1
 have o1:H1 a=some (.ins C dx [("pin_places",.ref pP)]):=by rw [← e1,ag]
 have p1:H1 pP=some (.dK []):=by rw [← e1,aj (adG aP),ag]
 have k1:∀b o,b≠a→H b=some o→H1 b=some o:=fun b o n e=>by rw [← e1,aj n,aj (ao e nP)];exact e
 intro pW nW
 have aW:a≠pW:=ao o1 nW
 refine ⟨_,rfl,a,C,dx,_,rfl,(by rw [aj aW];exact o1),fc.cls,fc.wy,(by show 1 < 1000;decide),?_⟩
 rw [Iq]
 generalize e2:upd (upd H1 pW (.dK [])) a (.ins C dx [("pin_places",.ref pP),("pin_ways",.ref pW)])=H2
 have PW:pP≠pW:=ao p1 nW
 have o2:H2 a=some (.ins C dx [("pin_places",.ref pP),("pin_ways",.ref pW)]):=by rw [← e2,ag]
 have w2:H2 pW=some (.dK []):=by rw [← e2,aj (adG aW),ag]
 have k2:∀b o,b≠a→H1 b=some o→H2 b=some o:=fun b o n e=>by rw [← e2,aj n,aj (ao e nW)];exact e
 intro pB nB
 have aB:a≠pB:=ao o2 nB
 have p2:=k2 _ _ (adG aP) p1
 refine ⟨_,rfl,a,C,dx,_,rfl,(by rw [aj aB];exact o2),fc.cls,fc.br,(by show 2 < 1000;decide),?_⟩
 rw [Ir]
 have PB:pP≠pB:=ao p2 nB
 have WB:pW≠pB:=ao w2 nB
 have k3:∀b o,b≠a→H2 b=some o→(upd (upd H2 pB (.dK [])) a (.ins C dx [("pin_places",.ref pP),("pin_ways",.ref pW),("bar_ends",.ref pB)])) b=some o:=fun b o n e=>by rw [aj n,aj (ao e nB)];exact e
 have f1:∀b,b≠a→H1 b=none→H b=none:=fun b n e=>by
  cases z:H b with
  | none=>rfl
  | some o=>rw [k1 b o n z] at e;cases e
 have f2:∀b,b≠a→H2 b=none→H b=none:=fun b n e=>by
  cases z:H b with
  | none=>rfl
  | some o=>rw [k2 b o n (k1 b o n z)] at e;cases e
 refine q pP pW pB _ (fun b o n e=>k3 b o n (k2 b o n (k1 b o n e))) nP (f1 _ (adG aW) nW) (f2 _ (adG aB) nB) ⟨ag,k3 _ _ (adG aP) p2,k3 _ _ (adG aW) w2,?_,PW,PB,WB,.nil,.nil⟩
 rw [aj (adG aB),ag]
inductive mw (K:Frag)(C:Addr)(vs:List V)(H:Hp)(Q:VK)(E_:XK):Prop where
 | mk (a dx pP pW pB:Addr) (ps:List (Str×Pt)) (bs:List (Str×Str×Str)) (kP kW kB:List (Key×V)) (_:vs=[.ref a]) (_:eK K H C a dx pP pW pB ps bs kP kW kB) (_:∀(l:Addr) (H' :Hp),au H H' →H l=none→H' l=some (.lst ((bs.map (·.1)).map V.str))→Q (.ref l) H'):mw K C vs H Q E_
theorem P1:aC ["self"] ["self"] (af yJ):=sq
theorem P2 {f:Addr}{fd:FuncData}{C:Addr}(F:mX K "bars" "Frame.bars" yJ f fd)(fc:BJ K C)(cn:mg "list"=none):ck P w K mg base (aS P w) 1 f fd ["self"] (mw K C):=by
 refine cO F P1 (fun vs H Q E h=> ?_) (fun bj A outer s H vs Q E hr h=> ?_)
 ·obtain ⟨a,dx,pP,pW,pB,ps,bs,kP,kW,kB,rfl,_⟩:=h
  rfl
 obtain ⟨a,dx,pP,pW,pB,ps,bs,kP,kW,kB,rfl,R,q⟩:=h
 refine ⟨_,(ak (aG (cz (hW rfl) rfl cn jd (ar (cE (pv 0) rfl) aa)))),?_⟩
 refine ⟨_,rfl,a,C,dx,_,_,rfl,R.obj,fc.cls,fc.br,rfl,pB,kB,rfl,.inl R.br,fun l nl=> ?_⟩
 refine q l _ (ay nl _) nl ?_
 rw [ag]
 have e:kB.map (fun kv=>kV kv.1)=(bs.map (·.1)).map V.str:=by
  have z:kB.map (fun kv=>kV kv.1)=(kB.map (·.1)).map kV:=by rw [adC];rfl
  rw [z,R.v_,adC]
  rfl
 rw [e]
inductive e_ (K:Frag)(C:Addr)(vs:List V)(H:Hp)(Q:VK)(E_:XK):Prop where
 | mk (a dx pP pW pB:Addr) (ps:List (Str×Pt)) (bs:List (Str×Str×Str)) (kP kW kB:List (Key×V)) (_:vs=[.ref a]) (_:eK K H C a dx pP pW pB ps bs kP kW kB) (_:∀(l:Addr) (H' :Hp),au H H' →H l=none→H' l=some (.lst ((ps.map (·.1)).map V.str))→Q (.ref l) H'):e_ K C vs H Q E_
theorem P4:aC ["self"] ["self"] (af yI):=sq
theorem P5 {f:Addr}{fd:FuncData}{C:Addr}(F:mX K "pins" "Frame.pins" yI f fd)(fc:BJ K C)(cn:mg "list"=none):ck P w K mg base (aS P w) 1 f fd ["self"] (e_ K C):=by
 refine cO F P4 (fun vs H Q E h=> ?_) (fun bj A outer s H vs Q E hr h=> ?_)
 ·obtain ⟨a,dx,pP,pW,pB,ps,bs,kP,kW,kB,rfl,_⟩:=h
  rfl
 obtain ⟨a,dx,pP,pW,pB,ps,bs,kP,kW,kB,rfl,R,q⟩:=h
 refine ⟨_,(ak (aG (cz (hW rfl) rfl cn jd (ar (cE (pv 0) rfl) aa)))),?_⟩
 refine ⟨_,rfl,a,C,dx,_,_,rfl,R.obj,fc.cls,fc.pl,rfl,pP,kP,rfl,.inl R.pl,fun l nl=> ?_⟩
 refine q l _ (ay nl _) nl ?_
 rw [ag]
 have e:kP.map (fun kv=>kV kv.1)=(ps.map (·.1)).map V.str:=by
  have z:kP.map (fun kv=>kV kv.1)=(kP.map (·.1)).map kV:=by rw [adC];rfl
  rw [z,R.wc,adC]
  rfl
 rw [e]
inductive dh (K:Frag)(C:Addr)(vs:List V)(H:Hp)(Q:VK)(E_:XK):Prop where
 | mk (a dx pP pW pB:Addr) (ps:List (Str×Pt)) (bs:List (Str×Str×Str)) (kP kW kB:List (Key×V)) (x:Str) (_:vs=[.ref a,.str x]) (_:eK K H C a dx pP pW pB ps bs kP kW kB) (_:x∈ps.map (·.1)) (_:Q .cp H):dh K C vs H Q E_
theorem P6:aC ["self","pin"] ["self","pin"] (af yH):=sq
theorem P7 {f:Addr}{fd:FuncData}{C:Addr}(F:mX K "check_pin" "Frame.check_pin" yH f fd)(fc:BJ K C):ck P w K mg base (aS P w) 1 f fd ["self","pin"] (dh K C):=by
 refine cO F P6 (fun vs H Q E h=> ?_) (fun bj A outer s H vs Q E hr h=> ?_)
 ·obtain ⟨a,dx,pP,pW,pB,ps,bs,kP,kW,kB,x,rfl,_⟩:=h
  rfl
 obtain ⟨a,dx,pP,pW,pB,ps,bs,kP,kW,kB,x,rfl,R,hx,q⟩:=h
 refine ⟨_,(ak (bC (kX (jk (cf hr) (pv 1) (cE (pv 0) rfl))) (ak (cG)) aQ)),?_⟩
 refine ⟨_,rfl,_,rfl,a,C,dx,_,_,rfl,R.obj,fc.cls,fc.pl,rfl,pP,_,rfl,cT.k (k:=.inr x) R.pl,_,rfl,?_⟩
 rw [R.pin x,decide_eq_true hx]
 exact q
inductive kK (K:Frag)(C:Addr)(vs:List V)(H:Hp)(Q:VK)(E_:XK):Prop where
 | mk (a dx pP pW pB:Addr) (ps:List (Str×Pt)) (bs:List (Str×Str×Str)) (kP kW kB:List (Key×V)) (x:Str) (p:Pt) (_:vs=[.ref a,.str x]) (_:eK K H C a dx pP pW pB ps bs kP kW kB) (_:(ps.map (·.1)).Nodup) (_:(x,p)∈ps) (_:∀v,Spot K H v p→Q v H):kK K C vs H Q E_
theorem P8:aC ["self","pin"] ["self","pin"] (af yK):=sq
theorem P9 {f:Addr}{fd:FuncData}{C:Addr}(F:mX K "place" "Frame.place" yK f fd)(fc:BJ K C)(MC:bq P w K mg base (aS P w) 1 C "check_pin" ["self","pin"] (dh K C)):ck P w K mg base (aS P w) 2 f fd ["self","pin"] (kK K C):=by
 refine cO F P8 (fun vs H Q E h=> ?_) (fun bj A outer s H vs Q E hr h=> ?_)
 ·obtain ⟨a,dx,pP,pW,pB,ps,bs,kP,kW,kB,x,p,rfl,_⟩:=h
  rfl
 obtain ⟨a,dx,pP,pW,pB,ps,bs,kP,kW,kB,x,p,rfl,R,nd,hx,q⟩:=h
 refine ⟨_,(ae (bX (dc (k:=1) (pv 0) hr.mo (pY P w) (ar (pv 1) aa)))
  (ak (aG (fJ (cf hr) (cE (pv 0) rfl) (pv 1) (fun _ _=>rfl))))),?_⟩
 refine ⟨_,rfl,a,C,dx,_,_,_,rfl,R.obj,rfl,MC,_,rfl,a,dx,pP,pW,pB,ps,bs,kP,kW,kB,x,rfl,R,ab_.mpr ⟨_,hx,rfl⟩,?_⟩
 obtain ⟨v,ev,hv⟩:=R.place nd hx
 exact ⟨_,rfl,a,C,dx,_,_,rfl,R.obj,fc.cls,fc.pl,rfl,_,rfl,pP,v,rfl,(by rw [← ev];exact cT.k (k:=.inr x) R.pl),q v hv⟩
inductive qk (K:Frag)(C:Addr)(vs:List V)(H:Hp)(Q:VK)(E_:XK):Prop where
 | mk (a dx pP pW pB:Addr) (ps:List (Str×Pt)) (bs:List (Str×Str×Str)) (kP kW kB:List (Key×V)) (x one other:Str) (_:vs=[.ref a,.str x]) (_:eK K H C a dx pP pW pB ps bs kP kW kB) (_:(bs.map (·.1)).Nodup) (_:(x,one,other)∈bs) (_:∀p,Rd H p (.tup [.str one,.str other])→Q (.ref p) H):qk K C vs H Q E_
theorem P_:aC ["self","bar"] ["self","bar"] (af yM):=sq
theorem Qa {f:Addr}{fd:FuncData}{C:Addr}(F:mX K "ends" "Frame.ends" yM f fd)(fc:BJ K C):ck P w K mg base (aS P w) 1 f fd ["self","bar"] (qk K C):=by
 refine cO F P_ (fun vs H Q E h=> ?_) (fun bj A outer s H vs Q E hr h=> ?_)
 ·obtain ⟨a,dx,pP,pW,pB,ps,bs,kP,kW,kB,x,one,other,rfl,_⟩:=h
  rfl
 obtain ⟨a,dx,pP,pW,pB,ps,bs,kP,kW,kB,x,one,other,rfl,R,nd,hx,q⟩:=h
 refine ⟨_,(ae (bC (kX (jk (cf hr) (pv 1) (cE (pv 0) rfl))) (ak (cG)) aQ)
  (ak (aG (fJ (cf hr) (cE (pv 0) rfl) (pv 1) (fun _ _=>rfl))))),?_⟩
 have hm:x∈bs.map (·.1):=ab_.mpr ⟨_,hx,rfl⟩
 refine ⟨_,rfl,_,rfl,a,C,dx,_,_,rfl,R.obj,fc.cls,fc.br,rfl,pB,_,rfl,cT.k (k:=.inr x) R.br,_,rfl,?_⟩
 rw [R.bar x,decide_eq_true hm]
 obtain ⟨p,ev,hv⟩:=R.ends nd hx
 exact ⟨_,rfl,a,C,dx,_,_,rfl,R.obj,fc.cls,fc.br,rfl,_,rfl,pB,.ref p,rfl,(by rw [← ev];exact cT.k (k:=.inr x) R.br),q p hv⟩
inductive mz (K:Frag)(C:Addr)(vs:List V)(H:Hp)(Q:VK)(E_:XK):Prop where
 | mk (a dx pP pW pB:Addr) (ps:List (Str×Pt)) (bs:List (Str×Str×Str)) (kP kW kB:List (Key×V)) (pw:List (Str×List (Rat×Rat))) (x:Str) (ws:List (Rat×Rat)) (_:vs=[.ref a,.str x]) (_:eK K H C a dx pP pW pB ps bs kP kW kB) (_:ug K H pw kW) (_:(pw.map (·.1)).Nodup) (_:(x,ws)∈pw) (_:x∈ps.map (·.1)) (_:∀(l:Addr) (us:List V) (H' :Hp),au H H' →H l=none→H' l=some (.lst us)→gS K H' us ws→Q (.ref l) H'):mz K C vs H Q E_
theorem Qb:aC ["self","pin"] ["self","pin"] (af yL):=sq
theorem Qc {f:Addr}{fd:FuncData}{C:Addr}(F:mX K "ways" "Frame.ways" yL f fd)(fc:BJ K C)(cn:mg "list"=none)(MC:bq P w K mg base (aS P w) 1 C "check_pin" ["self","pin"] (dh K C)):ck P w K mg base (aS P w) 2 f fd ["self","pin"] (mz K C):=by
 refine cO F Qb (fun vs H Q E h=> ?_) (fun bj A outer s H vs Q E hr h=> ?_)
 ·obtain ⟨a,dx,pP,pW,pB,ps,bs,kP,kW,kB,pw,x,ws,rfl,_⟩:=h
  rfl
 obtain ⟨a,dx,pP,pW,pB,ps,bs,kP,kW,kB,pw,x,ws,rfl,R,W,nd,hx,hp,q⟩:=h
 refine ⟨_,(ae (bX (dc (k:=1) (pv 0) hr.mo (pY P w) (ar (pv 1) aa)))
  (ak (aG (cz lK rfl cn jd (ar (fJ (cf hr) (cE (pv 0) rfl) (pv 1) (fun _ _=>rfl)) aa))))),?_⟩
 refine ⟨_,rfl,a,C,dx,_,_,_,rfl,R.obj,rfl,MC,_,rfl,a,dx,pP,pW,pB,ps,bs,kP,kW,kB,x,rfl,R,hp,?_⟩
 obtain ⟨v,ev,l,us,el,hl,pt⟩:=fM W nd hx
 have el' :v=.ref l:=el
 subst el'
 refine ⟨_,rfl,a,C,dx,_,_,rfl,R.obj,fc.cls,fc.wy,rfl,_,rfl,pW,.ref l,rfl,(by rw [← ev];exact cT.k (k:=.inr x) R.wy),?_⟩
 exact ⟨l,us,rfl,aU.of hl,fun l2 n2=>q l2 us _ (ay n2 _) n2 ag (pt.same (ay n2 _))⟩
def LS (K:Frag)(H:Hp)(Q:VK)(ws:List (Rat×Rat)):Prop:=∀(l:Addr) (us:List V) (H' :Hp),au H H' →H l=none→H' l=some (.lst us)→gS K H' us ws→Q (.ref l) H'
theorem qm {x:Rat}(h:(qr x).1=0):x=0:=by
 have:=eh x
 unfold vl at this
 rw [h] at this
 have z:=sQ (r:=x)
 have e:((0:Int):Rat)=0:=by rfl
 rw [e] at this
 grind
inductive qp (K:Frag)(C:Addr)(vs:List V)(H:Hp)(Q:VK)(E_:XK):Prop where
 | mk (a dx:Addr) (ux uy:V) (x y:Rat) (_:vs=[.ref a,ux,uy]) (_:H a=some (.ins C dx [])) (_:fe K H ux x) (_:fe K H uy y) (_:¬ (x=0∧y=0)) (_:∀p,H p=none→Q .cp (upd (upd H p (.tup [ux,uy])) a (.ins C dx [("way",.ref p)]))):qp K C vs H Q E_
theorem Qd:aC ["self","x","y"] ["self","x","y"] (af yN):=sq
theorem Qe {f:Addr}{fd:FuncData}{C:Addr}(F:mX K "__init__" "Roller.__init__" yN f fd)(cl:ud K C)(nw:d5 K C "way"):ck P w K mg base (aS P w) 1 f fd ["self","x","y"] (qp K C):=by
 refine cO F Qd (fun vs H Q E h=> ?_) (fun bj A outer s H vs Q E hr h=> ?_)
 ·obtain ⟨a,dx,ux,uy,x,y,rfl,_⟩:=h
  rfl
 obtain ⟨a,dx,ux,uy,x,y,rfl,ha,⟨p1,rfl,h1⟩,⟨p2,rfl,h2⟩,nz,q⟩:=h
 have sz:(2:Nat)≤sizeLine:=by decide
 refine ⟨_,(ae (bC (PW.pt (zN (aL cZ (aR (pv 1)) ah (aZ _)) (vH (aL cZ (aR (pv 2)) ah (aZ _))))) (ak (cG)) aQ)
  (ak (oY (pv 0) (aI (ar (pv 1) (ar (pv 2) aa))) rfl))),?_⟩
 refine ⟨_,rfl,p1,_,_,_,rfl,rfl,h1,gZ,rfl,_,rfl,?_⟩
 refine bB (fun c1=> ?_) (fun c1=> ?_)
 ·have e1:(qr x).1=0:=by simpa using of_decide_eq_true c1
  refine ⟨_,rfl,p2,_,_,_,rfl,rfl,h2,gZ,rfl,_,rfl,?_⟩
  refine bB (fun c2=> ?_) (fun c2=> ?_)
  ·have e2:(qr y).1=0:=by simpa using of_decide_eq_true c2
   exact absurd ⟨qm e1,qm e2⟩ nz
  ·exact ⟨_,rfl,_,rfl,sz,fun p hp=>⟨_,rfl,a,C,dx,[],rfl,(by rw [aj (ao ha hp)];exact ha),cl,nw,(by show 0 < 1000;decide),q p hp⟩⟩
 ·refine N_ ?_
  exact ⟨_,rfl,_,rfl,sz,fun p hp=>⟨_,rfl,a,C,dx,[],rfl,(by rw [aj (ao ha hp)];exact ha),cl,nw,(by show 0 < 1000;decide),q p hp⟩⟩
inductive iM (K:Frag)(C:Addr)(vs:List V)(H:Hp)(Q:VK)(E_:XK):Prop where
 | mk (a dx p:Addr) (w:Rat×Rat) (_:vs=[.ref a]) (_:H a=some (.ins C dx [("way",.ref p)])) (_:d0 K H (.ref p) w) (_:LS K H Q [w]):iM K C vs H Q E_
theorem Qf:aC ["self"] ["self"] (af yO):=sq
theorem Qg {f:Addr}{fd:FuncData}{C:Addr}(F:mX K "ways" "Roller.ways" yO f fd)(cl:ud K C)(nw:d5 K C "way"):ck P w K mg base (aS P w) 1 f fd ["self"] (iM K C):=by
 refine cO F Qf (fun vs H Q E h=> ?_) (fun bj A outer s H vs Q E hr h=> ?_)
 ·obtain ⟨a,dx,p,w,rfl,_⟩:=h
  rfl
 obtain ⟨a,dx,p,w,rfl,ha,hw,q⟩:=h
 refine ⟨_,(ak (aG (bG (ar (cE (pv 0) rfl) aa)))),?_⟩
 refine ⟨_,rfl,a,C,dx,_,.ref p,rfl,ha,cl,nw,(by simp),(by show 1≤sizeLine;decide),fun l hl=> ?_⟩
 exact q l [.ref p] _ (ay hl _) hl ag (.cons (hw.same (ay hl _)) .nil)
inductive iN (K:Frag)(vs:List V)(H:Hp)(Q:VK)(E_:XK):Prop where
 | mk (a:Addr) (_:vs=[.ref a]) (_:LS K H Q [(1,0),(0,1)]):iN K vs H Q E_
theorem qt:qr 1=(1,1):=by
 have:=l_ 1
 simpa using this
theorem cg:qr 0=(0,1):=by
 have:=l_ 0
 simpa using this
theorem tw {H:Hp}{p p1 p2:Addr}{a b:Rat}{x y:Int×Int}(ea:qr a=x)(eb:qr b=y)(h:H p=some (.tup [.ref p1,.ref p2]))(h1:H p1=some (.tup [.int x.1,.int x.2]))(h2:H p2=some (.tup [.int y.1,.int y.2])):d0 K H (.ref p) (a,b):=
 ⟨p,.ref p1,.ref p2,rfl,bH.of h,⟨p1,rfl,by rw [ea];exact bH.of h1⟩,⟨p2,rfl,by rw [eb];exact bH.of h2⟩⟩
theorem Qh:aC ["self"] ["self"] (af yP):=sq
theorem Qi {f:Addr}{fd:FuncData}(F:mX K "ways" "Fixed.ways" yP f fd):ck P w K mg base (aS P w) 1 f fd ["self"] (iN K):=by
 refine cO F Qh (fun vs H Q E h=> ?_) (fun bj A outer s H vs Q E hr h=> ?_)
 ·obtain ⟨a,rfl,_⟩:=h
  rfl
 obtain ⟨a,rfl,q⟩:=h
 have sz:(2:Nat)≤sizeLine:=by decide
 refine ⟨_,(ak (aG (bG (ar (aI (ar (aI (ar ah (ar ah aa))) (ar (aI (ar ah (ar ah aa))) aa))) (ar (aI (ar (aI (ar ah (ar ah aa))) (ar (aI (ar ah (ar ah aa))) aa))) aa))))),?_⟩
 refine ⟨sz,fun p1 n1=> ?_⟩
 have s1:=ay n1 (.tup [.int 1,.int 1])
 have e1:upd H p1 (.tup [.int 1,.int 1]) p1=some (.tup [.int 1,.int 1]):=ag
 generalize upd H p1 (.tup [.int 1,.int 1])=H1 at s1 e1 ⊢
 refine ⟨sz,fun p2 n2=> ?_⟩
 have s2:=ay n2 (.tup [.int 0,.int 1])
 have e2:upd H1 p2 (.tup [.int 0,.int 1]) p2=some (.tup [.int 0,.int 1]):=ag
 generalize upd H1 p2 (.tup [.int 0,.int 1])=H2 at s2 e2 ⊢
 refine ⟨sz,fun p3 n3=> ?_⟩
 have s3:=ay n3 (.tup [.ref p1,.ref p2])
 have e3:upd H2 p3 (.tup [.ref p1,.ref p2]) p3=some (.tup [.ref p1,.ref p2]):=ag
 generalize upd H2 p3 (.tup [.ref p1,.ref p2])=H3 at s3 e3 ⊢
 refine ⟨sz,fun p4 n4=> ?_⟩
 have s4:=ay n4 (.tup [.int 0,.int 1])
 have e4:upd H3 p4 (.tup [.int 0,.int 1]) p4=some (.tup [.int 0,.int 1]):=ag
 generalize upd H3 p4 (.tup [.int 0,.int 1])=H4 at s4 e4 ⊢
 refine ⟨sz,fun p5 n5=> ?_⟩
 have s5:=ay n5 (.tup [.int 1,.int 1])
 have e5:upd H4 p5 (.tup [.int 1,.int 1]) p5=some (.tup [.int 1,.int 1]):=ag
 generalize upd H4 p5 (.tup [.int 1,.int 1])=H5 at s5 e5 ⊢
 refine ⟨sz,fun p6 n6=> ?_⟩
 have s6:=ay n6 (.tup [.ref p4,.ref p5])
 have e6:upd H5 p6 (.tup [.ref p4,.ref p5]) p6=some (.tup [.ref p4,.ref p5]):=ag
 generalize upd H5 p6 (.tup [.ref p4,.ref p5])=H6 at s6 e6 ⊢
 refine ⟨sz,fun l nl=> ?_⟩
 have s7:=ay nl (.lst [.ref p3,.ref p6])
 have e7:upd H6 l (.lst [.ref p3,.ref p6]) l=some (.lst [.ref p3,.ref p6]):=ag
 generalize upd H6 l (.lst [.ref p3,.ref p6])=H7 at s7 e7 ⊢
 have s16:=s1.trans (s2.trans (s3.trans (s4.trans (s5.trans s6))))
 have w1:d0 K H7 (.ref p3) (1,0):=tw qt cg (s7 _ _ (s6 _ _ (s5 _ _ (s4 _ _ e3)))) (s7 _ _ (s6 _ _ (s5 _ _ (s4 _ _ (s3 _ _ (s2 _ _ e1)))))) (s7 _ _ (s6 _ _ (s5 _ _ (s4 _ _ (s3 _ _ e2)))))
 have w2:d0 K H7 (.ref p6) (0,1):=tw cg qt (s7 _ _ e6) (s7 _ _ (s6 _ _ (s5 _ _ e4))) (s7 _ _ (s6 _ _ e5))
 exact q l [.ref p3,.ref p6] H7 (s16.trans s7) (s16.free nl) e7 (.cons w1 (.cons w2 .nil))
def JY (P:Program)(w:World)(K:Frag)(mg:Str→Option Value)(base:Heap)(H:Hp)(hv:V)(ws:List (Rat×Rat)):Prop:=(hv=.cp∧ws=[])∨∃(h Ch Qj:Addr) (Ng:List (Str×V)) (Xj:List Str) (U4:Sp),hv=.ref h∧H h=some (.ins Ch Qj Ng)∧Ng.lookup ("ways":Str)=none∧bq P w K mg base (aS P w) 2 Ch "ways" Xj U4∧(∀H1,H1 h=some (.ins Ch Qj Ng)→bg H H1→∀Q',LS K H1 Q' ws→U4 [.ref h] H1 Q' E0)
inductive di (P:Program)(w:World)(K:Frag)(mg:Str→Option Value)(base:Heap)(C:Addr)(vs:List V)(H:Hp)(Q:VK)(E_:XK):Prop where
 | mk (a dx pP pW pB:Addr) (ps:List (Str×Pt)) (bs:List (Str×Str×Str)) (kP kW kB:List (Key×V)) (pw:List (Str×List (Rat×Rat))) (x:Str) (u v hv:V) (p:Pt) (ws:List (Rat×Rat)) (_:vs=[.ref a,.str x,u,v,hv]) (_:eK K H C a dx pP pW pB ps bs kP kW kB) (_:ug K H pw kW) (_:pw.map (·.1)=ps.map (·.1)) (_:jR K H u p.1) (_:jR K H v p.2) (_:x∉ps.map (·.1)) (_:(∀z∈ps,z.2≠p)) (_:ps.length < 24) (_:JY P w K mg base H hv ws) (_:∀(H' :Hp) (CM sM :List (Key×V)),(∀b o,b≠pP→b≠pW→H b=some o→H' b=some o)→eK K H' C a dx pP pW pB (ps++[(x,p)]) bs CM sM kB→ug K H' (pw++[(x,ws)]) sM →Q .cp H'):di P w K mg base C vs H Q E_
theorem CN:aC ["self","name","x","y","hold","pin","spot"] ["self","name","x","y","hold"] (af j_):=sq
theorem Qk {f:Addr}{fd:FuncData}{C:Addr}(F:Lk K "put_pin" "Frame.put_pin" j_ f fd)(fc:BJ K C){tkP:Tok}(LU:mg "MOST_PINS"=some (.int 24 tkP))(bw:mg "len"=none)(cn:mg "list"=none):ck P w K mg base (aS P w) 3 f fd ["self","name","x","y","hold"] (di P w K mg base C):=by
 refine BH F CN (fun vs H Q E h=> ?_) (fun bj A outer s H vs Q E hr h=> ?_)
 ·obtain ⟨a,dx,pP,pW,pB,ps,bs,kP,kW,kB,pw,x,u,v,hv,p,ws,rfl,_⟩:=h
  rfl
 obtain ⟨a,dx,pP,pW,pB,ps,bs,kP,kW,kB,pw,x,u,v,hvv,p,ws,rfl,R,W,ew,hu,hv,hx,hs,hl,hH,q⟩:=h
 refine ⟨_,(ae (bC (kX (AV (cf hr) (pv 1) (cE (pv 0) rfl))) (ak (cG)) aQ)
  (ae (iE (bo PassesOwn.never rfl (iD (cE (pv 0) rfl)) (eW rfl (aX (aE (i:=5) CN.nd rfl (adi rfl)) (aX (aE (i:=6) CN.nd rfl (adi rfl)) cN))) (ak (bC (aL (GX hr.units) (pv 6) (aI (ar (pv 2) (ar (pv 3) aa))) (aZ _)) (ak (cG)) aQ))))
  (ae (bC (aL vO (a8 ot rfl bw dA (ar (cE (pv 0) rfl) aa)) (eL (v:=.int 24) rfl LU ⟨_,rfl⟩) (aZ _)) (ak (cG)) aQ)
  (ae (cV (cf hr) (cE (pv 0) rfl) (pv 1) (aI (ar (pv 2) (ar (pv 3) aa))) rfl)
  (ak (cV (cf hr) (cE (pv 0) rfl) (pv 1) (rH (aL zY (pv 4) kR (aZ _)) (bG aa) (cz lK rfl cn jd (ar (dw (k:=2) (pv 4) hr.mo (pY P w)) aa))) rfl)))))),?_⟩
 refine ⟨_,rfl,_,rfl,a,C,dx,_,_,rfl,R.obj,fc.cls,fc.pl,rfl,pP,_,rfl,cT.k (k:=.inr x) R.pl,_,rfl,?_⟩
 rw [R.pin x,decide_eq_false hx]
 have lk:kP.length=ps.length:=(Paired.length R.rp).symm
 refine ⟨_,rfl,a,C,dx,_,_,rfl,R.obj,fc.cls,fc.pl,rfl,pP,kP,rfl,R.pl,fun o=> ?_⟩
 have k0:aH pP H (upd H pP (.bP o (.dK kP))):=fun b o' n e=>by rw [aj n];exact e
 refine fm (d:=pP) (o:=o) (kvs:=kP) (fun t σ H' =>∃(o2 o3:Option V),σ=[some (.ref a),some (.str x),some u,some v,some hvv,o2,o3]∧aH pP H H' ∧H' pP=some (.bP o (.dK kP))) ⟨none,none,rfl,k0,ag⟩ (fun t σ H' _ h=>by
   obtain ⟨_,_,_,_,h⟩:=h
   exact h) ?_ ?_
 ·rintro t k y σ H6 p7 qd ⟨o2,o3,rfl,k6,yW⟩ n7
  obtain ⟨z,ez,hz1,OX⟩:=aK (eU R.rp) qd
  have Xk :k=.inr z.1:=hz1
  subst Xk
  have s6:bg H H6:=fun b xs r=>by
   rcases r with r | ⟨o',r⟩
   ·exact .inl (k6 _ _ (fun e=>by rw [e,R.pl] at r;cases r) r)
   ·exact .inr ⟨o',k6 _ _ (fun e=>by rw [e,R.pl] at r;cases r) r⟩
  have s7:=ay n7 (.tup [kV (.inr z.1),y])
  have s67:bg H (upd H6 p7 (.tup [kV (.inr z.1),y])):=s6.trans (.of s7)
  refine ⟨p7,_,rfl,bH.of ag,rfl,_,_,rfl,_,_,rfl,rfl,?_⟩
  refine ⟨_,rfl,_,rfl,_,rfl,(by show 2≤sizeLine;decide),fun t8 n8=> ?_⟩
  have s8:=ay n8 (.tup [u,v])
  have u_:bg H (upd (upd H6 p7 (.tup [kV (.inr z.1),y])) t8 (.tup [u,v])):=s67.trans (.of s8)
  refine ⟨c7 z.2,c7 p,.inl ⟨(Spot.aJ OX u_).is,(Spot.is (p:=p) ⟨t8,u,v,rfl,bH.of ag,hu.aJ u_,hv.aJ u_⟩)⟩,jS _ _,ow _,?_⟩
  rw [sL]
  refine ⟨_,rfl,?_⟩
  refine bB (fun c=>absurd (of_decide_eq_true c) (hs z (aa_ ez))) (fun _=> ?_)
  exact ⟨_,_,rfl,fun b o' n e=>s8 _ _ (s7 _ _ (k6 b o' n e)),s8 _ _ (s7 _ _ yW)⟩
 ·rintro σ H1 ⟨o2,o3,rfl,k1,CO⟩
  refine ⟨pP,o,kP,CO,fun o' u' z=>(by have z' :H pP=some (.bP o' u'):=z;rw [R.pl] at z';cases z'),?_⟩
  have s2:au H (upd H1 pP (.dK kP)):=fun b o' e=>by
   by_cases n:b=pP
   ·subst n
    rw [R.pl] at e
    rw [ag]
    exact e
   ·rw [aj n]
    exact k1 b o' n e
  generalize upd H1 pP (.dK kP)=H2 at s2 ⊢
  have R2:=R.same s2
  refine ⟨_,rfl,a,C,dx,_,_,rfl,R2.obj,fc.cls,fc.pl,rfl,pP,kP,rfl,.inl R2.pl,_,_,rfl,rfl,_,rfl,?_⟩
  refine bB (fun c=> ?_) (fun _=> ?_)
  ·have c' :(24:Int)≤(kP.length:Int):=of_decide_eq_true c
   omega
  refine ⟨_,rfl,_,rfl,(by show 2≤sizeLine;decide),fun t nt=> ?_⟩
  have s3:=ay nt (.tup [u,v])
  have R3:=R2.same s3
  have UX:=(hu.same s2).same s3
  have hv3:=(hv.same s2).same s3
  refine ⟨_,rfl,a,C,dx,_,_,rfl,R3.obj,fc.cls,fc.pl,rfl,_,rfl,pP,_,rfl,gf.k (k:=.inr x) R3.pl (adm (show kP.length≤1000 by omega) (by decide)),?_⟩
  have e:putK kP (.inr x) (.ref t)=kP++[(.inr x,.ref t)]:=cw _ (b6 (by rw [R.wc];exact fun z=>hx (eT.mp z)))
  rw [e]
  have R4:=R3.Lm (x:=x) (p:=p) (t:=t) ⟨t,u,v,rfl,bH.of ag,UX,hv3⟩
  have k4:∀b o,b≠pP→H b=some o→(upd (upd H2 t (.tup [u,v])) pP (.dK (kP++[(.inr x,.ref t)]))) b=some o:=fun b o n e=>by rw [aj n];exact s3 _ _ (s2 _ _ e)
  generalize upd (upd H2 t (.tup [u,v])) pP (.dK (kP++[(.inr x,.ref t)]))=H4 at R4 k4 ⊢
  have lw:kW.length=ps.length:=by
   have e1:kW.length=pw.length:=(Paired.length W).symm
   have e2:=congrArg aee ew
   rw [Wp,Wp] at e2
   omega
  have t4:bg H H4:=fun b xs r=>by
   rcases r with r | ⟨o',r⟩
   ·exact .inl (k4 _ _ (fun e=>by rw [e,R.pl] at r;cases r) r)
   ·exact .inr ⟨o',k4 _ _ (fun e=>by rw [e,R.pl] at r;cases r) r⟩
  have W4:ug K H4 pw kW:=Paired.bZ W fun _ _ z=>⟨z.1,by
   obtain ⟨l,us,e1,e2,e3⟩:=z.2
   exact ⟨l,us,e1,k4 _ _ (fun e=>by rw [e,R.pl] at e2;cases e2) e2,e3.aJ t4⟩⟩
  refine ⟨_,rfl,rfl,_,rfl,?_⟩
  rcases hH with ⟨rfl,rfl⟩ | ⟨h,Ch,Qj,Ng,Xj,U4,rfl,hh,hlk,MH,ue⟩
  ·refine bB (fun _=> ?_) (fun c=>absurd (by decide) c)
   refine ⟨by show 0≤sizeLine;decide,fun l2 n6=> ?_⟩
   have s6:=ay n6 (.lst [])
   have R6:=R4.same s6
   have W6:=W4.same s6
   refine ⟨_,rfl,a,C,dx,_,_,rfl,R6.obj,fc.cls,fc.wy,rfl,_,rfl,pW,_,rfl,gf.k (k:=.inr x) R6.wy (adm (show kW.length≤1000 by omega) (by decide)),?_⟩
   have ek:putK kW (.inr x) (.ref l2)=kW++[(.inr x,.ref l2)]:=cw _ (b6 (by rw [W.keys,ew];exact fun z=>hx (eT.mp z)))
   rw [ek]
   have Xl:l2≠pW:=fun z=>by have h:=R6.wy;rw [← z,ag] at h;cases h
   exact q _ _ _ (fun b o n1 n2 e=>by rw [aj n2];exact s6 _ _ (k4 b o n1 e)) (R6.wd _) (Paired.snoc (W6.dict R6.wy) ⟨rfl,l2,[],rfl,by rw [aj Xl,ag],.nil⟩)
  have h4:H4 h=some (.ins Ch Qj Ng):=k4 _ _ (fun e=>by rw [e,R.pl] at hh;cases hh) hh
  refine bB (fun c=>absurd (of_decide_eq_true c) (fun z=>nomatch z)) (fun _=> ?_)
  refine ⟨_,rfl,h,Ch,Qj,Ng,Xj,U4,rfl,h4,hlk,MH,ue H4 h4 t4 _ fun l1 us H5 s5 n5 e5 p5=> ?_⟩
  refine ⟨l1,us,rfl,aU.of e5,fun l2 n6=> ?_⟩
  have s6:=ay n6 (.lst us)
  have R6:=(R4.same s5).same s6
  have W6:=(W4.same s5).same s6
  refine ⟨_,rfl,a,C,dx,_,_,rfl,R6.obj,fc.cls,fc.wy,rfl,_,rfl,pW,_,rfl,gf.k (k:=.inr x) R6.wy (adm (show kW.length≤1000 by omega) (by decide)),?_⟩
  have ek:putK kW (.inr x) (.ref l2)=kW++[(.inr x,.ref l2)]:=cw _ (b6 (by rw [W.keys,ew];exact fun z=>hx (eT.mp z)))
  rw [ek]
  have CP:au H4 (upd H5 l2 (.lst us)):=fun b o z=>s6 _ _ (s5 _ _ z)
  refine q _ _ _ (fun b o n1 n2 e=>by rw [aj n2];exact CP _ _ (k4 b o n1 e)) (R6.wd _) ?_
  have Xl:l2≠pW:=fun z=>by have h:=R6.wy;rw [← z,ag] at h;cases h
  exact Paired.snoc (W6.dict R6.wy) ⟨rfl,l2,us,rfl,by rw [aj Xl,ag],(p5.same s6).aJ (.dict R6.wy)⟩
inductive fN (K:Frag)(C:Addr)(vs:List V)(H:Hp)(Q:VK)(E_:XK):Prop where
 | mk (a dx pP pW pB:Addr) (ps:List (Str×Pt)) (bs:List (Str×Str×Str)) (kP kW kB:List (Key×V)) (x one other:Str) (_:vs=[.ref a,.str x,.str one,.str other]) (_:eK K H C a dx pP pW pB ps bs kP kW kB) (_:x∉bs.map (·.1)) (_:one∈ps.map (·.1)) (_:other∈ps.map (·.1)) (_:one≠other) (_:bs.length < 60) (_:Q .cp H):fN K C vs H Q E_
theorem Ql:aC ["self","name","one","other"] ["self","name","one","other"] (af yG):=sq
theorem Qm {f:Addr}{fd:FuncData}{C:Addr}(F:mX K "check_bar" "Frame.check_bar" yG f fd)(fc:BJ K C){tkB:Tok}(LV:mg "MOST_BARS"=some (.int 60 tkB))(bw:mg "len"=none)
  (MC:bq P w K mg base (aS P w) 1 C "check_pin" ["self","pin"] (dh K C)):ck P w K mg base (aS P w) 2 f fd ["self","name","one","other"] (fN K C):=by
 refine cO F Ql (fun vs H Q E h=> ?_) (fun bj A outer s H vs Q E hr h=> ?_)
 ·obtain ⟨a,dx,pP,pW,pB,ps,bs,kP,kW,kB,x,one,other,rfl,_⟩:=h
  rfl
 obtain ⟨a,dx,pP,pW,pB,ps,bs,kP,kW,kB,x,one,other,rfl,R,hx,h1,h2,ne,hl,q⟩:=h
 refine ⟨_,(ae (bC (kX (AV (cf hr) (pv 1) (cE (pv 0) rfl))) (ak (cG)) aQ)
  (ae (bX (dc (k:=1) (pv 0) hr.mo (pY P w) (ar (pv 2) aa)))
  (ae (bX (dc (k:=1) (pv 0) hr.mo (pY P w) (ar (pv 3) aa)))
  (ae (bC (aL cZ (pv 2) (pv 3) (aZ _)) (ak (cG)) aQ)
  (ak (bC (aL vO (a8 ot rfl bw dA (ar (cE (pv 0) rfl) aa)) (eL (v:=.int 60) rfl LV ⟨_,rfl⟩) (aZ _)) (ak (cG)) aQ)))))),?_⟩
 refine ⟨_,rfl,_,rfl,a,C,dx,_,_,rfl,R.obj,fc.cls,fc.br,rfl,pB,_,rfl,cT.k (k:=.inr x) R.br,_,rfl,?_⟩
 rw [R.bar x,decide_eq_false hx]
 refine ⟨_,rfl,a,C,dx,_,_,_,rfl,R.obj,rfl,MC,_,rfl,a,dx,pP,pW,pB,ps,bs,kP,kW,kB,one,rfl,R,h1,?_⟩
 refine ⟨_,rfl,a,C,dx,_,_,_,rfl,R.obj,rfl,MC,_,rfl,a,dx,pP,pW,pB,ps,bs,kP,kW,kB,other,rfl,R,h2,?_⟩
 refine ⟨_,rfl,_,rfl,rfl,_,rfl,?_⟩
 refine bB (fun c=>absurd (by simpa [m9] using c) ne) (fun _=> ?_)
 have lk:kB.length=bs.length:=(Paired.length R.rb).symm
 refine ⟨_,rfl,a,C,dx,_,_,rfl,R.obj,fc.cls,fc.br,rfl,pB,kB,rfl,.inl R.br,_,_,rfl,rfl,_,rfl,?_⟩
 refine bB (fun c=> ?_) (fun _=>q)
 have c' :(60:Int)≤(kB.length:Int):=of_decide_eq_true c
 omega
inductive iO (K:Frag)(C:Addr)(vs:List V)(H:Hp)(Q:VK)(E_:XK):Prop where
 | mk (a dx pP pW pB:Addr) (ps:List (Str×Pt)) (bs:List (Str×Str×Str)) (kP kW kB:List (Key×V)) (x one other:Str) (_:vs=[.ref a,.str x,.str one,.str other]) (_:eK K H C a dx pP pW pB ps bs kP kW kB) (_:x∉bs.map (·.1)) (_:one∈ps.map (·.1)) (_:other∈ps.map (·.1)) (_:one≠other) (_:bs.length < 60) (_:∀(H' :Hp) (Xm :List (Key×V)),aH pB H H' →eK K H' C a dx pP pW pB ps (bs++[(x,one,other)]) kP kW Xm →Q .cp H'):iO K C vs H Q E_
theorem Qn:aC ["self","name","one","other"] ["self","name","one","other"] (af yF):=sq
theorem Qo {f:Addr}{fd:FuncData}{C:Addr}(F:mX K "put_bar" "Frame.put_bar" yF f fd)(fc:BJ K C)
  (MC:bq P w K mg base (aS P w) 2 C "check_bar" ["self","name","one","other"] (fN K C)):ck P w K mg base (aS P w) 3 f fd ["self","name","one","other"] (iO K C):=by
 refine cO F Qn (fun vs H Q E h=> ?_) (fun bj A outer s H vs Q E hr h=> ?_)
 ·obtain ⟨a,dx,pP,pW,pB,ps,bs,kP,kW,kB,x,one,other,rfl,_⟩:=h
  rfl
 obtain ⟨a,dx,pP,pW,pB,ps,bs,kP,kW,kB,x,one,other,rfl,R,hx,h1,h2,ne,hl,q⟩:=h
 refine ⟨_,(ae (bX (dc (k:=2) (pv 0) hr.mo (pY P w) (ar (pv 1) (ar (pv 2) (ar (pv 3) aa)))))
  (ak (cV (cf hr) (cE (pv 0) rfl) (pv 1) (aI (ar (pv 2) (ar (pv 3) aa))) rfl))),?_⟩
 refine ⟨_,rfl,a,C,dx,_,_,_,rfl,R.obj,rfl,MC,_,rfl,_,rfl,_,rfl,a,dx,pP,pW,pB,ps,bs,kP,kW,kB,x,one,other,rfl,R,hx,h1,h2,ne,hl,?_⟩
 refine ⟨_,rfl,_,rfl,(by show 2≤sizeLine;decide),fun t nt=> ?_⟩
 have s:=ay nt (.tup [.str one,.str other])
 have R' :=R.same s
 have lk:kB.length=bs.length:=(Paired.length R.rb).symm
 refine ⟨_,rfl,a,C,dx,_,_,rfl,R'.obj,fc.cls,fc.br,rfl,_,rfl,pB,_,rfl,gf.k (k:=.inr x) R'.br (adm (show kB.length≤1000 by omega) (by decide)),?_⟩
 have e:putK kB (.inr x) (.ref t)=kB++[(.inr x,.ref t)]:=cw _ (b6 (by rw [R.v_];exact fun z=>hx (eT.mp z)))
 rw [e]
 refine q _ _ (fun b o n z=> ?_) (R'.Ll (.inl ag))
 rw [aj n]
 exact s _ _ z
def jz (p q:aF):Rat×Rat:=(q.sp.1 - p.sp.1,q.sp.2 - p.sp.2)
inductive CQ (K:Frag)(C:Addr)(vs:List V)(H:Hp)(Q:VK)(E_:XK):Prop where
 | mk (a:Addr) (pins:List aF) (aq:List bu) (p q:aF) (_:vs=[.ref a,.str p.nm,.str q.nm]) (_:wg K H C a pins aq) (_:dN pins aq) (_:p∈pins) (_:q∈pins) (_:CL K H Q (jz p q)):CQ K C vs H Q E_
theorem JZ {pins:List aF}(h:(pins.map (·.nm)).Nodup):((pins.map fun p=>(p.nm,sR p.sp)).map (·.1)).Nodup:=by
 rw [adC]
 exact h
theorem J0 {pins:List aF}(h:(pins.map (·.nm)).Nodup):((pins.map fun p=>(p.nm,p.ws)).map (·.1)).Nodup:=by
 rw [adC]
 exact h
theorem Qp {aq:List bu}(h:(aq.map (·.nm)).Nodup):((aq.map fun b=>(b.nm,b.one.nm,b.other.nm)).map (·.1)).Nodup:=by
 rw [adC]
 exact h
theorem Qq:aC ["F","one","other"] ["F","one","other"] (af x_):=sq
theorem Qr {C:Addr}(D:Def K mg "arm_between" x_ ["F","one","other"])(MP:bq P w K mg base (aS P w) 2 C "place" ["self","pin"] (kK K C))(Xn:Fn P w K mg base (aS P w) 35 "pair_difference" ["one","other"] (vf K fun a b=>a - b)):Fn P w K mg base (aS P w) 36 "arm_between" ["F","one","other"] (CQ K C):=by
 refine D.ok Qq (fun vs H Q E h=> ?_) (fun f bj A outer s H vs Q E hr h=> ?_)
 ·obtain ⟨a,pins,aq,p,q,rfl,_⟩:=h
  rfl
 obtain ⟨a,pins,aq,p,q,rfl,R,g,hp,hq,k⟩:=h
 obtain ⟨dx,pP,pW,pB,kP,kW,kB,R,W⟩:=R.ex
 refine ⟨_,(ak (aG (aD Xn hr.mo (pY P w) (ar (dc (k:=2) (pv 0) hr.mo (pY P w) (ar (pv 2) aa)) (ar (dc (k:=2) (pv 0) hr.mo (pY P w) (ar (pv 1) aa)) aa))))),?_⟩
 refine ⟨_,rfl,a,C,dx,_,_,_,rfl,R.obj,rfl,MP,_,rfl,a,dx,pP,pW,pB,_,_,kP,kW,kB,q.nm,sR q.sp,rfl,R,JZ g.np,ab_.mpr ⟨q,hq,rfl⟩,fun v1 h1=> ?_⟩
 refine ⟨_,rfl,a,C,dx,_,_,_,rfl,R.obj,rfl,MP,_,rfl,a,dx,pP,pW,pB,_,_,kP,kW,kB,p.nm,sR p.sp,rfl,R,JZ g.np,ab_.mpr ⟨p,hp,rfl⟩,fun v2 h2=> ?_⟩
 have z1:=g.sz q hq
 have z2:=g.sz p hp
 exact ⟨v1,v2,q.sp,p.sp,rfl,h1,h2,z1.1.up (by decide),z1.2.1.up (by decide),z2.1.up (by decide),z2.2.1.up (by decide),k⟩
def mv (M:Str→Option (Rat×Rat))(x:Str):Rat×Rat:=(M x).getD (0,0)
def b_ (F:Str→Option (Rat×Rat))(pins:List aF):List (Int×Int):=pins.flatMap fun p=>[qr (mv F p.nm).1,qr (mv F p.nm).2]
theorem eE (F:Str→Option (Rat×Rat)):∀pins:List aF,(b_ F pins).length=2*pins.length
 | []=>rfl
 | p::ps=>by
  have:=eE F ps
  unfold b_ at this ⊢
  rw [adw,adp,this]
  simp
  omega
theorem yX (F:Str→Option (Rat×Rat))(ps:List aF)(p:aF):b_ F (ps++[p])=b_ F ps++[qr (mv F p.nm).1,qr (mv F p.nm).2]:=by
 unfold b_
 rw [ad3]
 simp
def dJ (x:Str)(w:Rat×Rat):Str→Option (Rat×Rat):=fun y=>if y=x then some w else none
def dj (b:bu):Str→Option (Rat×Rat):=fun y=>if y=b.one.nm then some (jz b.one b.other) else if y=b.other.nm then some (jz b.other b.one) else none
def jA (pins:List aF)(p:aF):List (List (Int×Int)):=p.ws.map fun w=>b_ (dJ p.nm w) pins
def bJ (pins:List aF)(aq:List bu):List (List (Int×Int)):=(pins.flatMap fun p=>jA pins p)++aq.map fun b=>b_ (dj b) pins
structure f9 (K:Frag)(H:Hp)(r:Addr)(ls:List Addr)(bL:List (List V))(cy:List (List (Int×Int))):Prop where
 jB:ia H r ls bL
 num:gy K H bL cy
 nr:r∉ls
theorem f9.same {H H' :Hp}{r:Addr}{ls:List Addr}{bL:List (List V)}{cy:List (List (Int×Int))}(h:f9 K H r ls bL cy)(s:au H H'):f9 K H' r ls bL cy:=⟨h.jB.same s,h.num.same s,h.nr⟩
theorem mB {H:Hp}{bL:List (List V)}{cy:List (List (Int×Int))}{us:List V}{qs:List (Int×Int)}(h:gy K H bL cy)(n:bT K H us qs):gy K H (bL++[us]) (cy++[qs]):=by
 refine ⟨by simp [h.1],fun i u q' e1 e2=> ?_⟩
 have l:=h.1
 by_cases c:i < bL.length
 ·rw [adl c] at e1
  rw [adl (by omega)] at e2
  exact h.2 i u q' e1 e2
 ·rw [adu (by omega)] at e1 e2
  by_cases z:i - bL.length=0
  ·rw [z] at e1
   rw [show i - cy.length=0 by omega] at e2
   cases e1
   cases e2
   exact n
  ·rw [ac_ (by simp;omega)] at e1
   cases e1
theorem wK {H:Hp}{ls:List Addr}{bL:List (List V)}{l:Addr}{us:List V}(hl:ls.length=bL.length)(h:∀(i:Nat) (l:Addr) (vs:List V),ls[i]? =some l→bL[i]? =some vs→H l=some (.lst vs))(e:H l=some (.lst us)):
  ∀(i:Nat) (l' :Addr) (vs:List V),(ls++[l])[i]? =some l' →(bL++[us])[i]? =some vs→H l' =some (.lst vs):=fun i l' vs e1 e2=>by
 by_cases c:i < ls.length
 ·rw [adl c] at e1
  rw [adl (by omega)] at e2
  exact h i l' vs e1 e2
 ·rw [adu (by omega)] at e1 e2
  by_cases z:i - ls.length=0
  ·rw [z] at e1
   rw [show i - bL.length=0 by omega] at e2
   cases e1
   cases e2
   exact e
  ·rw [ac_ (by simp;omega)] at e1
   cases e1
theorem f9.push {H:Hp}{r l:Addr}{ls:List Addr}{bL:List (List V)}{cy:List (List (Int×Int))}{us:List V}{qs:List (Int×Int)}(h:f9 K H r ls bL cy)(e:H l=some (.lst us))(ne:l≠r)(n:bT K H us qs):
  f9 K (upd H r (.lst (ls.map V.ref++[.ref l]))) r (ls++[l]) (bL++[us]) (cy++[qs]):=by
 have st:bg H (upd H r (.lst (ls.map V.ref++[.ref l]))):=.list h.jB.1
 have hm:∀(i:Nat) (l' :Addr) (vs:List V),ls[i]? =some l' →bL[i]? =some vs→(upd H r (.lst (ls.map V.ref++[.ref l]))) l' =some (.lst vs):=fun i l' vs e1 e2=>by
  rw [aj (fun z:l' =r=>h.nr (by rw [← z];exact aa_ e1))]
  exact h.jB.2.2 i l' vs e1 e2
 refine ⟨⟨by rw [ag,adv];rfl,by simp [h.jB.2.1],wK h.jB.2.1 hm (by rw [aj ne];exact e)⟩,?_,?_⟩
 ·exact mB ⟨h.num.1,fun i vs qs e1 e2=>(h.num.2 i vs qs e1 e2).aJ st⟩ (n.aJ st)
 ·intro z
  rcases adq.mp z with z | z
  ·exact h.nr z
  ·exact ne (adj.mp z).symm
inductive fC (K:Frag)(C:Addr)(vs:List V)(H:Hp)(Q:VK)(E_:XK):Prop where
 | mk (a d:Addr) (pins:List aF) (aq:List bu) (kvs:List (Key×V)) (F:Str→Option (Rat×Rat)) (_:vs=[.ref a,.ref d]) (_:wg K H C a pins aq) (_:pins.length≤100) (_:H d=some (.dK kvs)) (_:uR K H kvs F) (_:∀(l:Addr) (us:List V) (H' :Hp),au H H' →H l=none→H' l=some (.lst us)→bT K H' us (b_ F pins)→Q (.ref l) H'):fC K C vs H Q E_
theorem dQ (pins:List aF):((pins.map fun p=>(p.nm,sR p.sp)).map (·.1))=pins.map (·.nm):=by rw [adC];rfl
theorem CS:aC ["F","draws","row","pin"] ["F","draws"] (af ya):=sq
theorem Qs {C aM:Addr}(hM:∀H:Hp,d0 K H (.ref aM) (0,0))(LW:mg "NO_MOVE"=some (.ref aM))(D:Def K mg "pair_row" ya ["F","draws"])(MP:bq P w K mg base (aS P w) 1 C "pins" ["self"] (e_ K C)):Fn P w K mg base (aS P w) 2 "pair_row" ["F","draws"] (fC K C):=by
 refine D.ok CS (fun vs H Q E h=> ?_) (fun f bj A outer s H vs Q E hr h=> ?_)
 ·obtain ⟨a,d,pins,aq,kvs,F,rfl,_⟩:=h
  rfl
 obtain ⟨a,d,pins,aq,kvs,F,rfl,R,lp,hd,hP,q⟩:=h
 refine ⟨_,(ae (ax (i:=2) CS.nd rfl (adi rfl) (bG aa))
  (ae (bo PassesOwn.never rfl (bF (dw (k:=1) (pv 0) hr.mo (pY P w))) (aE (i:=3) CS.nd rfl (adi rfl)) (ak (bX (lh PySem.F.plainAttrs_list PySem.F.slot_list_extend PySem.F.type_list_extend HQ (pv 2) (ar (so (cf hr) (pv 1) (pv 3) (eL (v:=.ref aM) rfl LW rfl) ⟨rfl,rfl,rfl,rfl⟩) aa)))))
  (ak (aG (pv 2))))),?_⟩
 refine ⟨(by show 0≤sizeLine;decide),?_⟩
 intro l nl;generalize eX:upd _ l _=H1;have ⟨s1,el⟩:=nw nl eX;clear eX
 have R1:=R.same s1
 obtain ⟨dx,pP,pW,pB,kP,kW,kB,F1,W1⟩:=R1.ex
 refine ⟨_,rfl,a,C,dx,_,_,_,rfl,F1.obj,rfl,MP,a,dx,pP,pW,pB,_,_,kP,kW,kB,rfl,F1,fun lp H2 s2 rE mZ=> ?_⟩
 rw [dQ] at mZ
 have CT:=s1.trans s2
 have Iu:lp≠l:=fun z=>by rw [z,el] at rE;cases rE
 refine ⟨lp,rfl,⟨_,aU.of mZ⟩,cv (K:=K) (a:=lp) (xs:=(pins.map (·.nm)).map V.str) (fun i σ H' =>∃(o3:Option V) (us:List V),σ=[some (.ref a),some (.ref d),some (.ref l),o3]∧au H H' ∧H' lp=some (.lst ((pins.map (·.nm)).map V.str))∧H' l=some (.lst us)∧bT K H' us (b_ F (pins.take i))) ⟨none,[],rfl,CT,mZ,s2 _ _ el,⟨rfl,fun i u q e=>by simp at e⟩⟩ (fun i σ H' _ h=>by
   obtain ⟨_,_,_,_,h,_⟩:=h
   exact aU.of h) ?_ ?_⟩
 ·rintro i z σ H4 hi ⟨o3,us,rfl,s4,l4,e4,n4⟩
  rw [ir,ir] at hi
  obtain ⟨x,hx,rfl⟩:=adk.mp hi
  obtain ⟨p,hp,rfl⟩:=adk.mp hx
  have il:i < pins.length:=(be.mp hp).1
  have d4:=s4 _ _ hd
  have g1:d0 K H4 ((bE kvs (.inr p.nm)).getD (.ref aM)) (mv F p.nm):=(hP.same s4).OT (hM H4)
  obtain ⟨b,u1,u2,eb,hb,h1,h2⟩:=g1
  have lu:us.length≤200:=by
   have:=n4.1
   rw [eE,adJ] at this
   omega
  refine ⟨_,rfl,.inl ⟨rfl,_,aU.of e4⟩,_,rfl,d,rfl,.inl ⟨_,.inl d4⟩,_,rfl,_,cT.k (k:=.inr p.nm) d4,l,b,us,[u1,u2],rfl,by rw [eb],e4,hb,by simp;omega,?_⟩
  have st:bg H4 (upd H4 l (.lst (us++[u1,u2]))):=.list e4
  refine ⟨_,us++[u1,u2],rfl,fun c o z=> ?_,?_,ag,?_⟩
  ·rw [aj (ao z nl)]
   exact s4 _ _ z
  ·rw [aj Iu]
   exact l4
  ·rw [take_snoc hp,yX]
   have a1:=bT.snoc (K:=K) (n4.aJ st) (fe.aJ h1 st)
   have a2:=bT.snoc (K:=K) a1 (fe.aJ h2 st)
   simpa using a2
 ·rintro σ H4 ⟨o3,us,rfl,s4,l4,e4,n4⟩
  rw [Wp,Wp,adQ] at n4
  exact ⟨_,rfl,q l us H4 s4 nl e4 n4⟩
inductive jC (K:Frag)(C:Addr)(vs:List V)(H:Hp)(Q:VK)(E_:XK):Prop where
 | mk (a d:Addr) (pins:List aF) (aq:List bu) (kvs:List (Key×V)) (F:Str→Option (Rat×Rat)) (_:vs=[.ref a,.ref d]) (_:wg K H C a pins aq) (_:pins.length≤100) (_:H d=some (.dK kvs)) (_:uR K H kvs F) (_:(∀kv∈kvs,∃x∈pins.map (·.nm),kv.1=.inr x)) (_:∀(l:Addr) (us:List V) (H' :Hp),au H H' →H l=none→H' l=some (.lst us)→bT K H' us (b_ F pins)→Q (.ref l) H'):jC K C vs H Q E_
theorem CU:aC ["F","load","pins","pin"] ["F","load"] (af yb):=sq
theorem Qt {C:Addr}(D:Def K mg "load_row" yb ["F","load"])(MP:bq P w K mg base (aS P w) 1 C "pins" ["self"] (e_ K C))(CV:Fn P w K mg base (aS P w) 2 "pair_row" ["F","draws"] (fC K C)):Fn P w K mg base (aS P w) 3 "load_row" ["F","load"] (jC K C):=by
 refine D.ok CU (fun vs H Q E h=> ?_) (fun f bj A outer s H vs Q E hr h=> ?_)
 ·obtain ⟨a,d,pins,aq,kvs,F,rfl,_⟩:=h
  rfl
 obtain ⟨a,d,pins,aq,kvs,F,rfl,R,lp,hd,hP,hk,q⟩:=h
 refine ⟨_,(ae (ax (i:=2) CU.nd rfl (adi rfl) (dw (k:=1) (pv 0) hr.mo (pY P w)))
  (ae (iE (bo PassesOwn.never rfl (HK (pv 1)) (aE (i:=3) CU.nd rfl (adi rfl)) (ak (bC (aL pe (pv 3) (pv 2) rfl) (ak (cG)) aQ))))
  (ak (aG (aD CV hr.mo (pY P w) (ar (pv 0) (ar (pv 1) aa))))))),?_⟩
 obtain ⟨dx,pP,pW,pB,kP,kW,kB,F1,W1⟩:=R.ex
 refine ⟨_,rfl,a,C,dx,_,_,_,rfl,F1.obj,rfl,MP,a,dx,pP,pW,pB,_,_,kP,kW,kB,rfl,F1,fun l H1 s1 nl el=> ?_⟩
 rw [dQ] at el
 have CO:=s1 _ _ hd
 refine ⟨_,rfl,d,kvs,rfl,CO,fun o=> ?_⟩
 have ld:l≠d:=fun z=>by rw [z,CO] at el;cases el
 refine BG (d:=d) (o:=o) (kvs:=kvs) (fun t σ H' =>∃(o2:Option V),σ=[some (.ref a),some (.ref d),some (.ref l),o2]∧H' =upd H1 d (.bP o (.dK kvs))) ⟨none,rfl,rfl⟩ (fun t σ H' _ h=>by
   obtain ⟨_,_,rfl⟩:=h
   exact ag) ?_ ?_
 ·rintro t k y σ H6 qd ⟨o2,rfl,rfl⟩
  obtain ⟨x,hx,ex⟩:=hk _ (aa_ qd)
  have FN :k=.inr x:=ex
  subst FN
  refine ⟨_,rfl,_,rfl,l,_,rfl,.inl (aU.of (by rw [aj ld];exact el)),rfl,xR _,_,rfl,?_⟩
  refine bB (fun c=> ?_) (fun _=>⟨_,rfl,rfl⟩)
  have c' :(!N5 (.str x) ((pins.map (·.nm)).map V.str))=true:=c
  rw [sN,decide_eq_true hx] at c'
  cases c'
 ·rintro σ H6 ⟨o2,rfl,rfl⟩
  refine ⟨d,o,kvs,ag,fun o' u' z=>(by have z' :H d=some (.bP o' u'):=z;rw [hd] at z';cases z'),?_⟩
  have s2:au H (upd (upd H1 d (.bP o (.dK kvs))) d (.dK kvs)):=fun b o' e=>by
   by_cases n:b=d
   ·subst n
    rw [hd] at e
    rw [ag]
    exact e
   ·rw [aj n,aj n]
    exact s1 _ _ e
  generalize upd (upd H1 d (.bP o (.dK kvs))) d (.dK kvs)=H2 at s2 ⊢
  refine ⟨_,rfl,_,rfl,a,d,pins,aq,kvs,F,rfl,R.same s2,lp,s2 _ _ hd,hP.same s2,fun l' us H3 s3 n3 e3 nm=> ?_⟩
  exact q l' us H3 (s2.trans s3) (s2.free n3) e3 nm
inductive mC (K:Frag)(C:Addr)(vs:List V)(H:Hp)(Q:VK)(E_:XK):Prop where
 | mk (a:Addr) (pins:List aF) (aq:List bu) (b:bu) (_:vs=[.ref a,.str b.one.nm,.str b.other.nm]) (_:wg K H C a pins aq) (_:dN pins aq) (_:b.one∈pins) (_:b.other∈pins) (_:b.one.nm≠b.other.nm) (_:∀(l:Addr) (us:List V) (H' :Hp),au H H' →H l=none→H' l=some (.lst us)→bT K H' us (b_ (dj b) pins)→Q (.ref l) H'):mC K C vs H Q E_
theorem LX (k:Key)(v:V):bM [] [(k,v)]=[(k,v)]:=rfl
theorem LY {k j:Key}(v u:V)(h:k≠j):bM [] [(k,v),(j,u)]=[(k,v),(j,u)]:=by
 show putK [(k,v)] j u=_
 rw [cw]
 ·rfl
 ·rw [a9 h]
  rfl
theorem Qu:aC ["F","one","other"] ["F","one","other"] (af yc):=sq
theorem Qv {C:Addr}(D:Def K mg "bar_row" yc ["F","one","other"])(Qw:Fn P w K mg base (aS P w) 36 "arm_between" ["F","one","other"] (CQ K C))(CV:Fn P w K mg base (aS P w) 2 "pair_row" ["F","draws"] (fC K C)):Fn P w K mg base (aS P w) 37 "bar_row" ["F","one","other"] (mC K C):=by
 refine D.ok Qu (fun vs H Q E h=> ?_) (fun f bj A outer s H vs Q E hr h=> ?_)
 ·obtain ⟨a,pins,aq,b,rfl,_⟩:=h
  rfl
 obtain ⟨a,pins,aq,b,rfl,R,g,m1,m2,ne,q⟩:=h
 refine ⟨_,(ak (aG (aD CV hr.mo pX (ar (pv 0) (ar (vX (lS (pv 1) (aD Qw hr.mo pX (ar (pv 0) (ar (pv 1) (ar (pv 2) aa)))) (lS (pv 2) (aD Qw hr.mo pX (ar (pv 0) (ar (pv 2) (ar (pv 1) aa)))) vW)) rfl rfl (amB _ _) (by decide)) aa))))),?_⟩
 refine ⟨_,rfl,fun d nd=> ?_⟩
 have s1:=ay nd (.dK [])
 have e1:(upd H d (.dK [])) d=some (.dK []):=ag
 generalize upd H d (.dK [])=H1 at s1 e1 ⊢
 refine ⟨_,rfl,_,rfl,_,rfl,_,rfl,a,pins,aq,b.one,b.other,rfl,R.same s1,g,m1,m2,fun v1 H2 s2 h2=> ?_⟩
 refine ⟨_,rfl,_,rfl,_,rfl,_,rfl,a,pins,aq,b.other,b.one,rfl,(R.same s1).same s2,g,m2,m1,fun v2 H3 s3 h3=> ?_⟩
 have e3:=s3 _ _ (s2 _ _ e1)
 refine ⟨e3,[(.inr b.one.nm,v1),(.inr b.other.nm,v2)],rfl,(by show 2≤15;decide),?_⟩
 rw [LY _ _ (fun z=>ne (ad4 z))]
 have st:bg H3 (upd H3 d (.dK [(.inr b.one.nm,v1),(.inr b.other.nm,v2)])):=.dict e3
 have e4:(upd H3 d (.dK [(.inr b.one.nm,v1),(.inr b.other.nm,v2)])) d=some (.dK [(.inr b.one.nm,v1),(.inr b.other.nm,v2)]):=ag
 have s4:au H (upd H3 d (.dK [(.inr b.one.nm,v1),(.inr b.other.nm,v2)])):=fun c o z=>by
  rw [aj (ao z nd)]
  exact s3 _ _ (s2 _ _ (s1 _ _ z))
 generalize upd H3 d (.dK [(.inr b.one.nm,v1),(.inr b.other.nm,v2)])=H4 at st e4 s4 ⊢
 refine ⟨a,d,pins,aq,_,dj b,rfl,R.same s4,adb g.lp (by decide),e4,fun x=> ?_,fun l us H5 s5 n5 e5 nm=>q l us H5 (s4.trans s5) (s4.free n5) e5 nm⟩
 by_cases c1:x=b.one.nm
 ·subst c1
  exact .inr ⟨v1,jz b.one b.other,bf rfl,by unfold dj;rw [if_pos rfl],(h2.same s3).aJ st⟩
 ·by_cases c2:x=b.other.nm
  ·subst c2
   exact .inr ⟨v2,jz b.other b.one,by rw [a9 (fun z=>c1 (ad4 z).symm),bf rfl],by unfold dj;rw [if_neg c1,if_pos rfl],h3.aJ st⟩
  ·exact .inl ⟨by rw [a9 (fun z=>c1 (ad4 z).symm),a9 (fun z=>c2 (ad4 z).symm)];rfl,by unfold dj;rw [if_neg c1,if_neg c2]⟩
inductive fO (K:Frag)(C:Addr)(vs:List V)(H:Hp)(Q:VK)(E_:XK):Prop where
 | mk (a:Addr) (pins:List aF) (aq:List bu) (_:vs=[.ref a]) (_:wg K H C a pins aq) (_:dN pins aq) (_:∀(r:Addr) (ls:List Addr) (bL:List (List V)) (H' :Hp),au H H' →H r=none→f9 K H' r ls bL (bJ pins aq)→Q (.ref r) H'):fO K C vs H Q E_
theorem wL (aq:List bu):((aq.map fun b=>(b.nm,b.one.nm,b.other.nm)).map (·.1))=aq.map (·.nm):=by rw [adC];rfl
theorem iP (pins:List aF)(h:∀p∈pins,p.ws.length≤2):(pins.flatMap fun p=>p.ws).length≤2*pins.length:=by
 induction pins with
 | nil=>simp
 | cons p ps ih=>
  have h1:=h p adh
  have h2:=ih fun q hq=>h q (ade _ hq)
  rw [adw,adp,adI]
  omega
theorem mD (all pins:List aF):(pins.flatMap fun p=>jA all p).length=(pins.flatMap fun p=>p.ws).length:=by
 induction pins with
 | nil=>rfl
 | cons p ps ih=>
  rw [adw,adw,adp,adp,ih]
  unfold jA
  rw [Wp]
theorem oC (pins:List aF)(aq:List bu):(bJ pins aq).length=(pins.flatMap fun p=>p.ws).length+aq.length:=by
 unfold bJ
 rw [adp,mD,Wp]
theorem oE:aC ["F","rows","pin","way","bar","two"] ["F"] (af yd):=sq
theorem Qx {C:Addr}(D:Def K mg "draw_rows" yd ["F"])(MP:bq P w K mg base (aS P w) 1 C "pins" ["self"] (e_ K C))(MW:bq P w K mg base (aS P w) 2 C "ways" ["self","pin"] (mz K C))(MB:bq P w K mg base (aS P w) 1 C "bars" ["self"] (mw K C))(ME:bq P w K mg base (aS P w) 1 C "ends" ["self","bar"] (qk K C))
  (CV:Fn P w K mg base (aS P w) 2 "pair_row" ["F","draws"] (fC K C)) (Xo:Fn P w K mg base (aS P w) 37 "bar_row" ["F","one","other"] (mC K C)):Fn P w K mg base (aS P w) 38 "draw_rows" ["F"] (fO K C):=by
 refine D.ok oE (fun vs H Q E h=> ?_) (fun f bj A outer s H vs Q E hr h=> ?_)
 ·obtain ⟨a,pins,aq,rfl,_⟩:=h
  rfl
 obtain ⟨a,pins,aq,rfl,R,g,q⟩:=h
 refine ⟨_,(ae (ax (i:=1) oE.nd rfl (adi rfl) (bG aa))
  (ae (bo PassesOwn.never rfl (bF (dw (k:=1) (pv 0) hr.mo (pY P w))) (aE (i:=2) oE.nd rfl (adi rfl)) (ak (bo PassesOwn.never rfl (bF (dc (k:=2) (pv 0) hr.mo (pY P w) (ar (pv 2) aa))) (aE (i:=3) oE.nd rfl (adi rfl)) (ak (bX (lh PySem.F.plainAttrs_list PySem.F.slot_list_append PySem.F.type_list_append dX (pv 1) (ar (aD CV hr.mo (pY P w) (ar (pv 0) (ar (vX (lS (pv 2) (pv 3) vW) rfl rfl (amB _ _) (by decide)) aa))) aa)))))))
  (ae (bo PassesOwn.never rfl (bF (dw (k:=1) (pv 0) hr.mo (pY P w))) (aE (i:=4) oE.nd rfl (adi rfl)) (ae (ax (i:=5) oE.nd rfl (adi rfl) (dc (k:=1) (pv 0) hr.mo (pY P w) (ar (pv 4) aa)))
   (ak (bX (lh PySem.F.plainAttrs_list PySem.F.slot_list_append PySem.F.type_list_append dX (pv 1) (ar (aD Xo hr.mo (pY P w) (ar (pv 0) (ar (aR (pv 5)) (ar (aR (pv 5)) aa)))) aa))))))
  (ak (aG (pv 1)))))),?_⟩
 refine ⟨(by show 0≤sizeLine;decide),?_⟩
 intro r nr;generalize eX:upd _ r _=H1;have ⟨s1,er⟩:=nw nr eX;clear eX
 have big:(40:Nat)≤sizeLine:=by decide
 have wl:=iP pins g.lw
 have gl:=g.lp
 have R0:f9 K H1 r [] [] []:=⟨⟨er,rfl,fun i l vs e=>by simp at e⟩,⟨rfl,fun i vs qs e=>by simp at e⟩,by simp⟩
 have R1:=R.same s1
 obtain ⟨dx,pP,pW,pB,kP,kW,kB,F1,W1⟩:=R1.ex
 refine ⟨_,rfl,a,C,dx,_,_,_,rfl,F1.obj,rfl,MP,a,dx,pP,pW,pB,_,_,kP,kW,kB,rfl,F1,fun lp H2 s2 rE mZ=> ?_⟩
 rw [dQ] at mZ
 have CT:=s1.trans s2
 have Iu:lp≠r:=fun z=>by rw [z,er] at rE;cases rE
 refine ⟨lp,rfl,⟨_,aU.of mZ⟩,cv (K:=K) (a:=lp) (xs:=(pins.map (·.nm)).map V.str) (fun i σ H' =>∃(o2 o3:Option V) (ls:List Addr) (bL:List (List V)),σ=[some (.ref a),some (.ref r),o2,o3,none,none]∧au H H' ∧H' lp=some (.lst ((pins.map (·.nm)).map V.str))∧f9 K H' r ls bL ((pins.take i).flatMap fun p=>jA pins p)) ⟨none,none,[],[],rfl,CT,mZ,R0.same s2⟩ (fun i σ H' _ h=>by
   obtain ⟨_,_,_,_,_,_,h,_⟩:=h
   exact aU.of h) ?_ ?_⟩
 ·rintro i z σ H4 hi ⟨o2,o3,ls,bL,rfl,s4,l4,RR⟩
  rw [ir,ir] at hi
  obtain ⟨x,hx,rfl⟩:=adk.mp hi
  obtain ⟨p,hp,rfl⟩:=adk.mp hx
  have mp:p∈pins:=aa_ hp
  have R4:=R.same s4
  obtain ⟨dx,pP,pW,pB,kP,kW,kB,F4,W4⟩:=R4.ex
  have Xp:p.nm∈(pins.map fun p=>(p.nm,sR p.sp)).map (·.1):=by rw [dQ];exact ab_.mpr ⟨p,mp,rfl⟩
  refine ⟨_,rfl,a,C,dx,_,_,_,rfl,F4.obj,rfl,MW,_,rfl,a,dx,pP,pW,pB,_,_,kP,kW,kB,_,p.nm,p.ws,rfl,F4,W4,J0 g.np,ab_.mpr ⟨p,mp,rfl⟩,Xp,fun m us H5 s5 n5 e5 p5=> ?_⟩
  have lu:us.length=p.ws.length:=Paired.length p5
  have U5:=s4.trans s5
  have mr:m≠r:=fun z=>by rw [z,RR.jB.1] at n5;cases n5
  refine ⟨m,rfl,⟨_,aU.of e5⟩,cv (K:=K) (a:=m) (xs:=us) (fun j σ H' =>∃(o3:Option V) (ls:List Addr) (bL:List (List V)),σ=[some (.ref a),some (.ref r),some (.str p.nm),o3,none,none]∧au H H' ∧H' lp=some (.lst ((pins.map (·.nm)).map V.str))∧H' m=some (.lst us)∧gS K H' us p.ws∧f9 K H' r ls bL (((pins.take i).flatMap fun p=>jA pins p)++(p.ws.take j).map fun w=>b_ (dJ p.nm w) pins)) ⟨o3,ls,bL,rfl,U5,s5 _ _ l4,e5,p5,by simpa using RR.same s5⟩ (fun j σ H' _ h=>by
    obtain ⟨_,_,_,_,_,_,h,_⟩:=h
    exact aU.of h) ?_ ?_⟩
  ·rintro j u σ H6 hu ⟨o3,ls,bL,rfl,s6,l6,e6,p6,tD⟩
   obtain ⟨w,ew,hw⟩:=aK p6 hu
   have jl:=(be.mp hu).1
   refine ⟨_,rfl,.inl ⟨rfl,_,aU.of tD.jB.1⟩,_,rfl,fun d nd=> ?_⟩
   have t1:=ay nd (.dK [])
   have d1:(upd H6 d (.dK [])) d=some (.dK []):=ag
   generalize upd H6 d (.dK [])=H7 at t1 d1 ⊢
   refine ⟨_,rfl,_,rfl,d1,[(.inr p.nm,u)],rfl,(by show 1≤15;decide),?_⟩
   rw [LX]
   have st:bg H7 (upd H7 d (.dK [(.inr p.nm,u)])):=.dict d1
   have d8:(upd H7 d (.dK [(.inr p.nm,u)])) d=some (.dK [(.inr p.nm,u)]):=ag
   have t8:au H6 (upd H7 d (.dK [(.inr p.nm,u)])):=fun c o z=>by
    rw [aj (ao z nd)]
    exact t1 _ _ z
   have hw8:=(hw.same t1).aJ st
   generalize upd H7 d (.dK [(.inr p.nm,u)])=H8 at d8 t8 hw8 ⊢
   have s8:=s6.trans t8
   refine ⟨a,d,pins,aq,_,dJ p.nm w,rfl,R.same s8,adb g.lp (by decide),d8,fun x=> ?_,fun l kJ H9 t9 n9 e9 nm=> ?_⟩
   ·by_cases c1:x=p.nm
    ·subst c1
     exact .inr ⟨u,w,bf rfl,by unfold dJ;rw [if_pos rfl],hw8⟩
    ·exact .inl ⟨by rw [a9 (fun z=>c1 (ad4 z).symm)];rfl,by unfold dJ;rw [if_neg c1]⟩
   have Xq:=t8.trans t9
   have Iv:=tD.same Xq
   have lr:l≠r:=fun z=>by rw [z,t8 _ _ tD.jB.1] at n9;cases n9
   have Nf:ls.length≤18:=by
    have h1:=tD.jB.2.1
    have h2:=tD.num.1
    rw [adp,Wp,adJ,mD] at h2
    have h3:((pins.take i).flatMap fun p=>p.ws).length+p.ws.length≤(pins.flatMap fun p=>p.ws).length:=by
     have e:pins=pins.take i++p::pins.drop (i+1):=by
      have lt:=(be.mp hp).1
      have e2:=(be.mp hp).2
      rw [← e2,alZ,ai_]
     have e3:=congrArg (fun l:List aF=>(l.flatMap fun p=>p.ws).length) e
     simp only [ad3,adw,adp] at e3
     omega
    omega
   refine ⟨r,_,_,rfl,rfl,Iv.jB.1,(by rw [Wp];omega),?_⟩
   have RN:=Iv.push e9 lr nm
   have tr:bg H9 (upd H9 r (.lst (ls.map V.ref++[.ref l]))):=.list Iv.jB.1
   have kk:∀b o,b≠r→H6 b=some o→(upd H9 r (.lst (ls.map V.ref++[.ref l]))) b=some o:=fun b o n e=>by rw [aj n];exact Xq _ _ e
   refine ⟨_,ls++[l],bL++[kJ],rfl,fun b o e=> ?_,kk _ _ Iu l6,kk _ _ mr e6,(p6.same Xq).aJ tr,?_⟩
   ·exact kk _ _ (ao e nr) (s6 _ _ e)
   ·rw [take_snoc ew,adv, ← aeg]
    exact RN
  ·rintro σ H6 ⟨o3,ls,bL,rfl,s6,l6,e6,p6,tD⟩
   refine ⟨_,_,ls,bL,rfl,s6,l6,?_⟩
   rw [lu,adQ] at tD
   rw [take_snoc hp,ad3]
   simpa [jA] using tD
 ·rintro σ H4 ⟨o2,o3,ls,bL,rfl,s4,l4,RR⟩
  rw [Wp,Wp,adQ] at RR
  have R4:=R.same s4
  obtain ⟨dx,pP,pW,pB,kP,kW,kB,F4,W4⟩:=R4.ex
  refine ⟨_,rfl,a,C,dx,_,_,_,rfl,F4.obj,rfl,MB,a,dx,pP,pW,pB,_,_,kP,kW,kB,rfl,F4,fun lb H5 s5 Xr LZ=> ?_⟩
  rw [wL] at LZ
  have bne:lb≠r:=fun z=>by rw [z,RR.jB.1] at Xr;cases Xr
  refine ⟨lb,rfl,⟨_,aU.of LZ⟩,cv (K:=K) (a:=lb) (xs:=(aq.map (·.nm)).map V.str) (fun i σ H' =>∃(o4 o5:Option V) (ls:List Addr) (bL:List (List V)),σ=[some (.ref a),some (.ref r),o2,o3,o4,o5]∧au H H' ∧H' lb=some (.lst ((aq.map (·.nm)).map V.str))∧f9 K H' r ls bL ((pins.flatMap fun p=>jA pins p)++(aq.take i).map fun b=>b_ (dj b) pins)) ⟨none,none,ls,bL,rfl,s4.trans s5,LZ,by simpa using RR.same s5⟩ (fun i σ H' _ h=>by
    obtain ⟨_,_,_,_,_,_,h,_⟩:=h
    exact aU.of h) ?_ ?_⟩
  ·rintro i z σ H6 hi ⟨o4,o5,ls,bL,rfl,s6,l6,tD⟩
   rw [ir,ir] at hi
   obtain ⟨x,hx,rfl⟩:=adk.mp hi
   obtain ⟨b,hb,rfl⟩:=adk.mp hx
   have mb:b∈aq:=aa_ hb
   have il:=(be.mp hb).1
   have R6:=R.same s6
   obtain ⟨dx,pP,pW,pB,kP,kW,kB,F6,W6⟩:=R6.ex
   refine ⟨_,rfl,a,C,dx,_,_,_,rfl,F6.obj,rfl,ME,_,rfl,a,dx,pP,pW,pB,_,_,kP,kW,kB,b.nm,b.one.nm,b.other.nm,rfl,F6,Qp g.nb,ab_.mpr ⟨b,mb,rfl⟩,fun p rd=> ?_⟩
   have tp:bH K H6 p [.str b.one.nm,.str b.other.nm]:=.inl rd
   obtain ⟨m1,m2,m3⟩:=g.ends b mb
   refine ⟨_,rfl,.inl ⟨rfl,_,aU.of tD.jB.1⟩,_,rfl,_,rfl,p,_,_,_,rfl,rfl,tp,gZ,_,rfl,p,_,_,_,rfl,rfl,tp,ig,?_⟩
   refine ⟨a,pins,aq,b,rfl,R6,g,m1,m2,m3,fun l kJ H9 t9 n9 e9 nm=> ?_⟩
   have Iv:=tD.same t9
   have lr:l≠r:=fun z=>by rw [z,tD.jB.1] at n9;cases n9
   have Nf:ls.length≤32:=by
    have h1:=tD.jB.2.1
    have h2:=tD.num.1
    rw [adp,Wp,adJ,mD] at h2
    have:=g.lb
    omega
   refine ⟨r,_,_,rfl,rfl,Iv.jB.1,(by rw [Wp];omega),?_⟩
   have RN:=Iv.push e9 lr nm
   have kk:∀c o,c≠r→H6 c=some o→(upd H9 r (.lst (ls.map V.ref++[.ref l]))) c=some o:=fun c o n e=>by rw [aj n];exact t9 _ _ e
   refine ⟨_,_,ls++[l],bL++[kJ],rfl,fun c o e=>kk _ _ (ao e nr) (s6 _ _ e),kk _ _ bne l6,?_⟩
   rw [take_snoc hb,adv, ← aeg]
   exact RN
  ·rintro σ H6 ⟨o4,o5,ls,bL,rfl,s6,l6,tD⟩
   rw [Wp,Wp,adQ] at tD
   exact ⟨_,rfl,q r ls bL H6 s6 nr tD⟩
theorem CW {xs:List V}{i j:Nat}(h:i≤j)(hj:j≤xs.length):fF xs (some (i:Int)) (some (j:Int))=(xs.drop i).take (j - i):=by
 unfold fF
 rw [HT.kA,HT.kA,alu hj,alu (show i≤xs.length by omega)]
theorem fP {α β:Type}{R:α→β→Prop}:∀{l:List α} {m:List β} (n:Nat),Paired R l m→Paired R (l.drop n) (m.drop n)
 | _,_,0,h=>h
 | _,_,_+1,.nil=>.nil
 | _,_,n+1,.cons _ t=>fP n t
theorem fQ {α β:Type}{R:α→β→Prop}:∀{l:List α} {m:List β} (n:Nat),Paired R l m→Paired R (l.take n) (m.take n)
 | _,_,0,_=>.nil
 | _,_,_+1,.nil=>.nil
 | _,_,n+1,.cons h t=>.cons h (fQ n t)
theorem iQ:∀(more kvs:List (Key×V)),((kvs++more).map (·.1)).Nodup→bM kvs more=kvs++more
 | [],kvs,_=>by simp [bM]
 | p::r,kvs,h=>by
  have e:bM kvs (p::r)=bM (putK kvs p.1 p.2) r:=rfl
  have hn:p.1∉kvs.map (·.1):=fun z=>by
   rw [adv,ada,aei] at h
   exact h.2.2 p.1 z p.1 adh rfl
  rw [e,cw _ (b6 hn),iQ r (kvs++[(p.1,p.2)]) (by rw [aeg];exact h),aeg]
  rfl
theorem wM {R:V→Rat→Prop}:∀{aq:List bu} {ys:List V} {rs:List Rat},(aq.map (·.nm)).Nodup→aq.length=rs.length→Paired R ys rs→
  ∃T:Str→Rat,aq.map (fun b=>T b.nm)=rs∧(((aq.map fun b=>(adU b.nm:Key)).zip ys).map (·.1))=aq.map (fun b=>(adU b.nm:Key))∧∀b∈aq,∃v,bE ((aq.map fun b=>(adU b.nm:Key)).zip ys) (.inr b.nm)=some v∧R v (T b.nm)
 | [],_,[],_,_,.nil=>⟨fun _=>0,rfl,rfl,by simp⟩
 | _::_,[],_,_,hl,.nil=>by simp at hl
 | b::bs,y::ys,r::rs,nd,hl,.cons h t=>by
  rw [ada,adH] at nd
  obtain ⟨T,h1,h2,h3⟩:=wM nd.2 (by simpa using hl) t
  have ne:∀c∈bs,c.nm≠b.nm:=fun c hc z=>nd.1 (z▸ab_.mpr ⟨c,hc,rfl⟩)
  obtain ⟨T',t1,t2⟩:∃T' :Str→Rat,T' b.nm=r∧∀x,x≠b.nm→T' x=T x:=⟨fun x=>if x=b.nm then r else T x,if_pos rfl,fun x h=>if_neg h⟩
  refine ⟨T',?_,?_,fun c hc=> ?_⟩
  ·have em:bs.map (fun c=>T' c.nm)=rs:=by
    rw [← h1]
    exact ady fun c hc=>t2 _ (ne c hc)
   rw [ada,t1,em]
  ·rw [ada,amf,ada,h2]
  ·rw [ada,amf]
   rcases adz.mp hc with e | hc
   ·subst e
    exact ⟨y,bf rfl,by rw [t1];exact h⟩
   ·obtain ⟨v,e1,e2⟩:=h3 c hc
    refine ⟨v,?_,by rw [t2 _ (ne c hc)];exact e2⟩
    rw [a9 (fun z=>ne c hc (ad4 z).symm)]
    exact e1
def bU (pins:List aF):Nat:=(pins.flatMap fun p=>p.ws).length
theorem mE (ps:List aF)(p:aF):bU (ps++[p])=bU ps+p.ws.length:=by
 unfold bU
 rw [ad3,adp]
 simp
theorem vg {pins:List aF}{i:Nat}{p:aF}(h:pins[i]? =some p):bU (pins.take i)+p.ws.length≤bU pins:=by
 have e:pins=pins.take i++p::pins.drop (i+1):=by
  have lt:=(be.mp h).1
  have e2:=(be.mp h).2
  rw [← e2,alZ,ai_]
 have e3:=congrArg (fun l:List aF=>(l.flatMap fun p=>p.ws).length) e
 simp only [ad3,adw,adp] at e3
 unfold bU
 omega
structure PPR (K:Frag)(H H' :Hp)(pins:List aF)(aq:List bu)(dT dU:Addr)(kT kU:List (Key×V))(T:Str→Rat)(U:Str→List Rat)(L:Str→Addr):Prop where
 nT:H dT=none
 nU:H dU=none
 ne:dT≠dU
 hT:H' dT=some (.dK kT)
 hU:H' dU=some (.dK kU)
 Xs:kT.map (·.1)=aq.map (fun b=>(adU b.nm:Key))
 Xt:kU.map (·.1)=pins.map (fun p=>(adU p.nm:Key))
 tT:∀b∈aq,∃v,bE kT (.inr b.nm)=some v∧fe K H' v (T b.nm)
 tU:∀p∈pins,∃vs,bE kU (.inr p.nm)=some (.ref (L p.nm))∧H (L p.nm)=none∧H' (L p.nm)=some (.lst vs)∧Paired (fe K H') vs (U p.nm)
 lU:∀p∈pins,(U p.nm).length=p.ws.length
 inj:∀p∈pins,∀q∈pins,L p.nm=L q.nm→p.nm=q.nm
inductive L6 (K:Frag)(C:Addr)(vs:List V)(H:Hp)(Q:VK)(E_:XK):Prop where
 | mk (a nl:Addr) (pins:List aF) (aq:List bu) (us:List V) (rs:List Rat) (_:vs=[.ref a,.ref nl]) (_:wg K H C a pins aq) (_:dN pins aq) (_:H nl=some (.lst us)) (_:Paired (fe K H) us rs) (_:rs.length=bU pins+aq.length) (_:∀(T:Str→Rat) (U:Str→List Rat) (L:Str→Addr) (p dT dU:Addr) (kT kU:List (Key×V)) (H' :Hp),au H H' →rs=(pins.flatMap fun p=>U p.nm)++aq.map (fun b=>T b.nm)→H' p=some (.tup [.ref dT,.ref dU])→PPR K H H' pins aq dT dU kT kU T U L→Q (.ref p) H'):L6 K C vs H Q E_
theorem vh {ps:List aF}{U W:Str→List Rat}(h:∀p∈ps,U p.nm=W p.nm):(ps.flatMap fun p=>U p.nm)=ps.flatMap fun p=>W p.nm:=by
 induction ps with
 | nil=>rfl
 | cons p ps ih=>
  rw [adw,adw,h p adh,ih fun q hq=>h q (ade _ hq)]
theorem mF:aC ["F","numbers","pushes","at","pin","behind","pulls"] ["F","numbers"] (af ye):=sq
theorem Qy {C:Addr}(D:Def K mg "pulls_and_pushes" ye ["F","numbers"])(bw:mg "len"=none)(vi:mg "dict"=none)(g6:mg "zip"=none)(MP:bq P w K mg base (aS P w) 1 C "pins" ["self"] (e_ K C))(MW:bq P w K mg base (aS P w) 2 C "ways" ["self","pin"] (mz K C))(MB:bq P w K mg base (aS P w) 1 C "bars" ["self"] (mw K C)):
  Fn P w K mg base (aS P w) 3 "pulls_and_pushes" ["F","numbers"] (L6 K C):=by
 refine D.ok mF (fun vs H Q E h=> ?_) (fun f bj A outer s H vs Q E hr h=> ?_)
 ·obtain ⟨a,nl,pins,aq,us,rs,rfl,_⟩:=h
  rfl
 obtain ⟨a,nl,pins,aq,us,rs,rfl,R,g,hn,hu,hl,q⟩:=h
 have lu:us.length=rs.length:=Paired.length hu
 have wl:bU pins≤2*pins.length:=iP pins g.lw
 have gl:=g.lp
 have gb:=g.lb
 refine ⟨_,(ae (ax (i:=2) mF.nd rfl (adi rfl) dC)
  (ae (ax (i:=3) mF.nd rfl (adi rfl) ah)
  (ae (bo PassesOwn.never rfl (bF (dw (k:=1) (pv 0) hr.mo (pY P w))) (aE (i:=4) mF.nd rfl (adi rfl)) (ae (ax (i:=5) mF.nd rfl (adi rfl) (aA bx (pv 3) (a8 aY rfl bw dA (ar (dc (k:=2) (pv 0) hr.mo (pY P w) (ar (pv 4) aa)) aa))))
   (ae (cV (cf hr) (pv 2) (pv 4) (d6 gI (pv 1) (eQ (pv 3)) (eQ (pv 5))) rfl)
   (ak (ax (i:=3) mF.nd rfl (adi rfl) (pv 5))))))
  (ae (ax (i:=6) mF.nd rfl (adi rfl) (BP rfl rfl vi rfl g6 (ar (dw (k:=1) (pv 0) hr.mo (pY P w)) (ar (d6 gI (pv 1) (eQ (pv 3)) gH) aa))))
  (ak (aG (aI (ar (pv 6) (ar (pv 2) aa))))))))),?_⟩
 intro dU nU
 have s1:=ay nU (.dK [])
 have e1:(upd H dU (.dK [])) dU=some (.dK []):=ag
 generalize upd H dU (.dK [])=H1 at s1 e1 ⊢
 have R1:=R.same s1
 obtain ⟨dx,pP,pW,pB,kP,kW,kB,F1,W1⟩:=R1.ex
 refine ⟨_,rfl,a,C,dx,_,_,_,rfl,F1.obj,rfl,MP,a,dx,pP,pW,pB,_,_,kP,kW,kB,rfl,F1,fun lp H2 s2 rE mZ=> ?_⟩
 rw [dQ] at mZ
 have CT:=s1.trans s2
 have Iu:lp≠dU:=fun z=>by rw [z,e1] at rE;cases rE
 refine ⟨lp,rfl,⟨_,aU.of mZ⟩,cv (K:=K) (a:=lp) (xs:=(pins.map (·.nm)).map V.str) (fun i σ H' =>∃(o4 o5:Option V) (kU:List (Key×V)) (U:Str→List Rat) (L:Str→Addr),σ=[some (.ref a),some (.ref nl),some (.ref dU),some (.int (bU (pins.take i):Int)),o4,o5,none]∧au H H' ∧H' lp=some (.lst ((pins.map (·.nm)).map V.str))∧H' dU=some (.dK kU)∧kU.map (·.1)=(pins.take i).map (fun p=>(adU p.nm:Key))∧((pins.take i).flatMap fun p=>U p.nm)=rs.take (bU (pins.take i))∧
   (∀p∈pins.take i,∃vs,bE kU (.inr p.nm)=some (.ref (L p.nm))∧H (L p.nm)=none∧H' (L p.nm)=some (.lst vs)∧Paired (fe K H') vs (U p.nm))∧(∀p∈pins.take i,(U p.nm).length=p.ws.length)∧(∀p∈pins.take i,∀q∈pins.take i,L p.nm=L q.nm→p.nm=q.nm))
   ⟨none,none,[],fun _=>[],fun _=>0,rfl,CT,mZ,s2 _ _ e1,rfl,rfl,by simp,by simp,by simp⟩ (fun i σ H' _ h=>by
   obtain ⟨_,_,_,_,_,_,_,h,_⟩:=h
   exact aU.of h) ?_ ?_⟩
 ·rintro i z σ H4 hi ⟨o4,o5,kU,U,L,rfl,s4,l4,e4,ks,fl,tU,lU,inj⟩
  rw [ir,ir] at hi
  obtain ⟨x,hx,rfl⟩:=adk.mp hi
  obtain ⟨p,hp,rfl⟩:=adk.mp hx
  have mp:p∈pins:=aa_ hp
  have il:i < pins.length:=(be.mp hp).1
  have R4:=R.same s4
  obtain ⟨dx,pP,pW,pB,kP,kW,kB,F4,W4⟩:=R4.ex
  have Xp:p.nm∈(pins.map fun p=>(p.nm,sR p.sp)).map (·.1):=by rw [dQ];exact ab_.mpr ⟨p,mp,rfl⟩
  refine ⟨_,rfl,_,rfl,a,C,dx,_,_,_,rfl,F4.obj,rfl,MW,_,rfl,a,dx,pP,pW,pB,_,_,kP,kW,kB,_,p.nm,p.ws,rfl,F4,W4,J0 g.np,ab_.mpr ⟨p,mp,rfl⟩,Xp,fun m vs H5 s5 n5 e5 p5=> ?_⟩
  have lv:vs.length=p.ws.length:=Paired.length p5
  refine ⟨m,_,rfl,.inl (aU.of e5),_,_,rfl,rfl,?_⟩
  have tk:=take_snoc hp
  have wn:bU (pins.take (i+1))=bU (pins.take i)+p.ws.length:=by rw [tk,mE]
  have wt:=vg hp
  have eb:(bU (pins.take i):Int)+((vs.length:Nat):Int)=((bU (pins.take (i+1)):Nat):Int):=by rw [wn,lv];omega
  have Iw:=s4.trans s5
  have Im:=Iw _ _ hn
  dsimp only
  rw [eb]
  refine ⟨_,rfl,_,rfl,_,rfl,_,rfl,_,rfl,nl,_,rfl,aU.of Im,?_⟩
  rw [CW (by omega) (by omega)]
  intro m2 n6;generalize eX:upd _ m2 _=H6;have ⟨s6,e6⟩:=nw n6 eX;clear eX
  have Qz:=s6 _ _ (s5 _ _ e4)
  have lk:kU.length≤9:=by
   have z:=congrArg aee ks
   rw [Wp,Wp,adJ] at z
   omega
  refine ⟨_,rfl,_,rfl,dU,_,rfl,gf.k (k:=.inr p.nm) Qz (adm (show kU.length≤1000 by omega) (by decide)),?_⟩
  have fresh:(adU p.nm:Key)∉kU.map (·.1):=by
   rw [ks]
   intro z
   obtain ⟨b',fG,LJ⟩:=ab_.mp z
   exact fq (nm:=aF.nm) g.np hp fG (ad4 LJ)
  have pk:putK kU (.inr p.nm) (.ref m2)=kU++[(.inr p.nm,.ref m2)]:=cw _ (b6 fresh)
  have t6:bg H6 (upd H6 dU (.dK (putK kU (.inr p.nm) (.ref m2)))):=.dict Qz
  have CP:=s5.trans s6
  have md:m2≠dU:=fun z=>by rw [z,s5 _ _ e4] at n6;cases n6
  have kk:∀b o,b≠dU→H4 b=some o→(upd H6 dU (.dK (putK kU (.inr p.nm) (.ref m2)))) b=some o:=fun b o n e=>by rw [aj n];exact CP _ _ e
  have ne:∀p' ∈pins.take i,p'.nm≠p.nm:=fun p' jD =>fq (nm:=aF.nm) g.np hp jD
  have qu :∀p' ∈pins.take (i+1),p' ∈pins.take i∨p' =p:=fun p' jD =>by
   rw [tk] at jD
   rcases adq.mp jD with h | h
   ·exact .inl h
   ·exact .inr (adj.mp h)
  have hold:∀p' ∈pins.take i,∃o,H4 (L p'.nm)=some o:=fun p' jD =>by
   obtain ⟨vs,_,_,h,_⟩:=tU p' jD
   exact ⟨_,h⟩
  obtain ⟨U',Xu,Xv⟩:∃U' :Str→List Rat,U' p.nm=(rs.drop (bU (pins.take i))).take p.ws.length∧∀x,x≠p.nm→U' x=U x:=⟨fun x=>if x=p.nm then (rs.drop (bU (pins.take i))).take p.ws.length else U x,if_pos rfl,fun x h=>if_neg h⟩
  obtain ⟨L',JW,JX⟩:∃L' :Str→Addr,L' p.nm=m2∧∀x,x≠p.nm→L' x=L x:=⟨fun x=>if x=p.nm then m2 else L x,if_pos rfl,fun x h=>if_neg h⟩
  refine ⟨_,rfl,_,_,putK kU (.inr p.nm) (.ref m2),U',L',rfl,fun b o e=> ?_,kk _ _ Iu l4,ag,?_,?_,fun p' jD => ?_,fun p' jD => ?_,fun p' jD q' ja => ?_⟩
  ·rw [aj (ao e nU)]
   exact CP _ _ (s4 _ _ e)
  ·rw [pk,adv,ks,tk,adv]
   rfl
  ·rw [tk,ad3,mE]
   rw [vh (U:=U') (W:=U) fun p' jD =>Xv _ (ne p' jD),fl]
   simp only [adw,amC,alr,Xu]
   rw [List.take_add]
  ·rw [lO]
   rcases qu p' jD with h | h
   ·rw [if_neg (fun z=>ne p' h (ad4 z)),JX _ (ne p' h),Xv _ (ne p' h)]
    obtain ⟨mG,h1,h2,h3,h4⟩:=tU p' h
    exact ⟨mG,h1,h2,kk _ _ (fun z=>by rw [z,e4] at h3;cases h3) h3,Paired.bZ h4 fun _ _ z=>(z.same CP).aJ t6⟩
   ·subst h
    rw [if_pos rfl,JW,Xu]
    refine ⟨_,rfl,(s4.trans s5).free n6,by rw [aj md];exact e6,?_⟩
    have a1:=fQ (bU (pins.take (i+1)) - bU (pins.take i)) (fP (bU (pins.take i)) hu)
    have a2:bU (pins.take (i+1)) - bU (pins.take i)=p'.ws.length:=by omega
    rw [a2] at a1 ⊢
    exact Paired.bZ a1 fun _ _ z=>((z.same s4).same CP).aJ t6
  ·rcases qu p' jD with h | h
   ·rw [Xv _ (ne p' h)]
    exact lU p' h
   ·subst h
    rw [Xu,adJ,alP]
    omega
  ·rcases qu p' jD with h | h <;> rcases qu q' ja with h' | h'
   ·rw [JX _ (ne p' h),JX _ (ne q' h')]
    exact inj p' h q' h'
   ·subst h'
    rw [JX _ (ne p' h),JW]
    intro z
    obtain ⟨o,ho⟩:=hold p' h
    rw [z,s5.free n6] at ho
    cases ho
   ·subst h
    rw [JX _ (ne q' h'),JW]
    intro z
    obtain ⟨o,ho⟩:=hold q' h'
    rw [← z,s5.free n6] at ho
    cases ho
   ·intro _
    rw [h,h']
 ·rintro σ H4 ⟨o4,o5,kU,U,L,rfl,s4,l4,e4,ks,fl,tU,lU,inj⟩
  rw [Wp,Wp,adQ] at ks fl tU lU inj
  have R4:=R.same s4
  obtain ⟨dx,pP,pW,pB,kP,kW,kB,F4,W4⟩:=R4.ex
  refine ⟨_,rfl,a,C,dx,_,_,_,rfl,F4.obj,rfl,MB,a,dx,pP,pW,pB,_,_,kP,kW,kB,rfl,F4,fun lb H5 s5 Xr LZ=> ?_⟩
  rw [wL] at LZ
  have Iw:=s4.trans s5
  refine ⟨_,rfl,_,rfl,_,rfl,nl,_,rfl,aU.of (Iw _ _ hn),?_⟩
  have hw:bU pins≤us.length:=by omega
  rw [Wp,Wp,adQ,oA hw]
  intro m2 n6;generalize eX:upd _ m2 _=H6;have ⟨s6,e6⟩:=nw n6 eX;clear eX
  have hp6:Paired (fe K H6) (us.drop (bU pins)) (rs.drop (bU pins)):=Paired.bZ (fP (bU pins) hu) fun _ _ z=>(z.same Iw).same s6
  obtain ⟨T,h1,h2,h3⟩:=wM (R:=fe K H6) g.nb (by rw [alP];omega) hp6
  have eks:(aq.map (·.nm)).map V.str=(aq.map fun b=>(adU b.nm:Key)).map kV:=by
   rw [adC,adC]
   rfl
  rw [eks] at LZ
  refine ⟨lb,m2,aq.map fun b=>(adU b.nm:Key),us.drop (bU pins),rfl,s6 _ _ LZ,e6,by rw [Wp];omega,fun dT H7 s7 n7 e7=> ?_⟩
  have U6:(aq.map fun b=>(adU b.nm:Key)).Nodup:=by
   have:=xU g.nb
   rw [adC] at this
   exact this
  rw [iQ _ [] (by rw [aeM,h2];exact U6),aeM] at e7
  refine ⟨_,rfl,_,rfl,(by show 2≤sizeLine;decide),?_⟩
  intro pt n8;generalize eX:upd _ pt _=H8;have ⟨s8,e8⟩:=nw n8 eX;clear eX
  have U7:=(s5.trans s6).trans (s7.trans s8)
  have QC:=s4.trans U7
  have er:rs=(pins.flatMap fun p=>U p.nm)++aq.map (fun b=>T b.nm):=by rw [fl,h1,ai_]
  refine q T U L pt dT dU _ kU H8 QC er e8 ⟨(Iw.trans s6).free n7,nU,(fun z=>by rw [z,s6 _ _ (s5 _ _ e4)] at n7;cases n7),s8 _ _ e7,U7 _ _ e4,h2,ks,fun b hb=> ?_,fun p hp=> ?_,lU,inj⟩
  ·obtain ⟨v,e1,e2⟩:=h3 b hb
   exact ⟨v,e1,(e2.same s7).same s8⟩
  ·obtain ⟨mG,a1,a2,a3,a4⟩:=tU p hp
   exact ⟨mG,a1,a2,U7 _ _ a3,Paired.bZ a4 fun _ _ z=>z.same U7⟩
inductive iR (K:Frag)(C:Addr)(vs:List V)(H:Hp)(Q:VK)(E_:XK):Prop where
 | mk (a nl:Addr) (pins:List aF) (aq:List bu) (us:List V) (rs:List Rat) (_:vs=[.ref a,.ref nl]) (_:wg K H C a pins aq) (_:dN pins aq) (_:H nl=some (.lst us)) (_:Paired (fe K H) us rs) (_:rs.length=2*pins.length) (_:∀(M:Str→Rat×Rat) (d:Addr) (kM:List (Key×V)) (H' :Hp),au H H' →rs=(pins.flatMap fun p=>[(M p.nm).1,(M p.nm).2])→H d=none→H' d=some (.dK kM)→kM.map (·.1)=pins.map (fun p=>(adU p.nm:Key))→(∀p∈pins,∃t v1 v2,bE kM (.inr p.nm)=some (.ref t)∧H' t=some (.tup [v1,v2])∧fe K H' v1 (M p.nm).1∧fe K H' v2 (M p.nm).2)→Q (.ref d) H'):iR K C vs H Q E_
theorem tE {ps:List aF}{U W:Str→Rat×Rat}(h:∀p∈ps,U p.nm=W p.nm):(ps.flatMap fun p=>[(U p.nm).1,(U p.nm).2])=ps.flatMap fun p=>[(W p.nm).1,(W p.nm).2]:=by
 induction ps with
 | nil=>rfl
 | cons p ps ih=>
  rw [adw,adw,h p adh,ih fun q hq=>h q (ade _ hq)]
theorem wN:aC ["F","numbers","motion","at","pin"] ["F","numbers"] (af yf):=sq
theorem QD {C:Addr}(D:Def K mg "motion_from" yf ["F","numbers"])(cS:mg "enumerate"=none)(MP:bq P w K mg base (aS P w) 1 C "pins" ["self"] (e_ K C)):
  Fn P w K mg base (aS P w) 2 "motion_from" ["F","numbers"] (iR K C):=by
 refine D.ok wN (fun vs H Q E h=> ?_) (fun f bj A outer s H vs Q E hr h=> ?_)
 ·obtain ⟨a,nl,pins,aq,us,rs,rfl,_⟩:=h
  rfl
 obtain ⟨a,nl,pins,aq,us,rs,rfl,R,g,hn,hu,hl,q⟩:=h
 have lu:us.length=rs.length:=Paired.length hu
 have gl:=g.lp
 refine ⟨_,(ae (ax (i:=2) wN.nd rfl (adi rfl) dC)
  (ae (bo PassesOwn.never rfl (vZ rfl cS (ar (dw (k:=1) (pv 0) hr.mo (pY P w)) aa)) (eW rfl (aX (aE (i:=3) wN.nd rfl (adi rfl)) (aX (aE (i:=4) wN.nd rfl (adi rfl)) cN))) (ak (cV (cf hr) (pv 2) (pv 4) (aI (ar (bc a_ (pv 1) (aA bN ah (pv 3)) (fun _ _=>rfl)) (ar (bc a_ (pv 1) (aA bx (aA bN ah (pv 3)) ah) (fun _ _=>rfl)) aa))) rfl)))
  (ak (aG (pv 2))))),?_⟩
 intro d nd
 have s1:=ay nd (.dK [])
 have e1:(upd H d (.dK [])) d=some (.dK []):=ag
 generalize upd H d (.dK [])=H1 at s1 e1 ⊢
 have R1:=R.same s1
 obtain ⟨dx,pP,pW,pB,kP,kW,kB,F1,W1⟩:=R1.ex
 refine ⟨_,rfl,a,C,dx,_,_,_,rfl,F1.obj,rfl,MP,a,dx,pP,pW,pB,_,_,kP,kW,kB,rfl,F1,fun lp H2 s2 rE mZ=> ?_⟩
 rw [dQ] at mZ
 have CT:=s1.trans s2
 have Iu:lp≠d:=fun z=>by rw [z,e1] at rE;cases rE
 refine ⟨lp,rfl,⟨_,aU.of mZ⟩,sI (K:=K) (a:=lp) (xs:=(pins.map (·.nm)).map V.str) (fun i σ H' =>∃(o3 o4:Option V) (kM:List (Key×V)) (M:Str→Rat×Rat),σ=[some (.ref a),some (.ref nl),some (.ref d),o3,o4]∧au H H' ∧H' lp=some (.lst ((pins.map (·.nm)).map V.str))∧H' d=some (.dK kM)∧kM.map (·.1)=(pins.take i).map (fun p=>(adU p.nm:Key))∧((pins.take i).flatMap fun p=>[(M p.nm).1,(M p.nm).2])=rs.take (2*i)∧
   (∀p∈pins.take i,∃t v1 v2,bE kM (.inr p.nm)=some (.ref t)∧H' t=some (.tup [v1,v2])∧fe K H' v1 (M p.nm).1∧fe K H' v2 (M p.nm).2))
   ⟨none,none,[],fun _=>(0,0),rfl,CT,mZ,s2 _ _ e1,rfl,rfl,by simp⟩ (fun i σ H' _ h=>by
   obtain ⟨_,_,_,_,_,_,h,_⟩:=h
   exact aU.of h) ?_ ?_⟩
 ·rintro i z σ H4 p9 hi ⟨o3,o4,kM,M,rfl,s4,l4,e4,ks,fl,tM⟩ n9
  rw [ir,ir] at hi
  obtain ⟨x,hx,rfl⟩:=adk.mp hi
  obtain ⟨p,hp,rfl⟩:=adk.mp hx
  have il:i < pins.length:=(be.mp hp).1
  have t9:=ay n9 (.tup [.int (i:Int),.str p.nm])
  have e9:(upd H4 p9 (.tup [.int (i:Int),.str p.nm])) p9=some (.tup [.int (i:Int),.str p.nm]):=ag
  generalize upd H4 p9 (.tup [.int (i:Int),.str p.nm])=H5 at t9 e9 ⊢
  refine ⟨p9,_,rfl,bH.of e9,rfl,_,_,rfl,_,_,rfl,rfl,?_⟩
  have Iw:=s4.trans t9
  have Im:=Iw _ _ hn
  have l1:2*i < us.length:=by omega
  have l2:2*i+1 < us.length:=by omega
  have c2:rW 2 (i:Int):=⟨by decide+kernel,adb (intBits_le_64 (by omega) (by omega)) (by decide)⟩
  have a1:i8 us (2*(i:Int))=some us[2*i]:=by
   have:=cU (xs:=us) (j:=2*i) (gE l1)
   rw [show ((2*i:Nat):Int)=2*(i:Int) by omega] at this
   exact this
  have a2:i8 us (2*(i:Int)+1)=some us[2*i+1]:=by
   have:=cU (xs:=us) (j:=2*i+1) (gE l2)
   rw [show ((2*i+1:Nat):Int)=2*(i:Int)+1 by omega] at this
   exact this
  refine ⟨_,rfl,_,rfl,_,_,rfl,rfl,c2,nl,_,_,_,rfl,rfl,aU.of Im,a1,?_⟩
  refine ⟨_,rfl,_,rfl,_,_,rfl,rfl,c2,_,_,rfl,rfl,nl,_,_,_,rfl,rfl,aU.of Im,a2,(by show 2≤sizeLine;decide),?_⟩
  intro t n6;generalize eX:upd _ t _=H6;have ⟨s6,e6⟩:=nw n6 eX;clear eX
  have Qz:=s6 _ _ (t9 _ _ e4)
  have lk:kM.length≤9:=by
   have z:=congrArg aee ks
   rw [Wp,Wp,adJ] at z
   omega
  refine ⟨_,rfl,_,rfl,d,_,rfl,gf.k (k:=.inr p.nm) Qz (adm (show kM.length≤1000 by omega) (by decide)),?_⟩
  have fresh:(adU p.nm:Key)∉kM.map (·.1):=by
   rw [ks]
   intro z
   obtain ⟨b',fG,LJ⟩:=ab_.mp z
   exact fq (nm:=aF.nm) g.np hp fG (ad4 LJ)
  have pk:putK kM (.inr p.nm) (.ref t)=kM++[(.inr p.nm,.ref t)]:=cw _ (b6 fresh)
  have t6:bg H6 (upd H6 d (.dK (putK kM (.inr p.nm) (.ref t)))):=.dict Qz
  have CP:=t9.trans s6
  have td:t≠d:=fun z=>by rw [z,t9 _ _ e4] at n6;cases n6
  have kk:∀b o,b≠d→H4 b=some o→(upd H6 d (.dK (putK kM (.inr p.nm) (.ref t)))) b=some o:=fun b o n e=>by rw [aj n];exact CP _ _ e
  have ne:∀p' ∈pins.take i,p'.nm≠p.nm:=fun p' jD =>fq (nm:=aF.nm) g.np hp jD
  have tk:=take_snoc hp
  obtain ⟨r1,er1,Xw⟩:=aK hu (gE l1)
  obtain ⟨r2,er2,Xx⟩:=aK hu (gE l2)
  obtain ⟨M',hM1,U8⟩:∃M' :Str→Rat×Rat,M' p.nm=(r1,r2)∧∀x,x≠p.nm→M' x=M x:=⟨fun x=>if x=p.nm then (r1,r2) else M x,if_pos rfl,fun x h=>if_neg h⟩
  refine ⟨_,_,putK kM (.inr p.nm) (.ref t),M',rfl,fun b o e=> ?_,kk _ _ Iu l4,ag,?_,?_,fun p' jD => ?_⟩
  ·rw [aj (ao e nd)]
   exact CP _ _ (s4 _ _ e)
  ·rw [pk,adv,ks,tk,adv]
   rfl
  ·rw [tk,ad3,tE (U:=M') (W:=M) fun p' jD =>U8 _ (ne p' jD),fl]
   simp only [adw,amC,alr,hM1]
   rw [show 2*(i+1)=2*i+1+1 by omega,aeG,aeG,er1,er2]
   simp
  ·rw [lO]
   rw [tk] at jD
   rcases adq.mp jD with h | h
   ·rw [if_neg (fun z=>ne p' h (ad4 z)),U8 _ (ne p' h)]
    obtain ⟨t',v1,v2,h1,h2,h3,h4⟩:=tM p' h
    exact ⟨t',v1,v2,h1,kk _ _ (fun z=>by rw [z,e4] at h2;cases h2) h2,(h3.same CP).aJ t6,(h4.same CP).aJ t6⟩
   ·rw [adj.mp h,if_pos rfl,hM1]
    exact ⟨t,_,_,rfl,by rw [aj td];exact e6,((Xw.same Iw).same s6).aJ t6,((Xx.same Iw).same s6).aJ t6⟩
 ·rintro σ H4 ⟨o3,o4,kM,M,rfl,s4,l4,e4,ks,fl,tM⟩
  rw [Wp,Wp] at ks fl tM
  rw [adQ] at ks fl tM
  rw [← hl,adQ] at fl
  exact ⟨_,rfl,q M d kM H4 s4 fl.symm nd e4 ks tM⟩
def dt (a b:Rat×Rat):Rat:=a.1*b.1+a.2*b.2
def sP (as bs:List Rat):Rat:=(ad2 (·*·) as bs).sum
theorem jE (bs:List Rat):sP [] bs=0:=by simp [sP]
theorem cP (a b:Rat)(as bs:List Rat):sP (a::as) (b::bs)=a*b+sP as bs:=by simp [sP]
theorem jF:∀{a c:List Rat} (b d:List Rat),a.length=c.length→sP (a++b) (c++d)=sP a c+sP b d
 | [],[],b,d,_=>by
  rw [aeM,aeM,jE]
  grind
 | x::a,y::c,b,d,h=>by
  rw [aeH,aeH,cP,cP,jF b d (by simpa using h)]
  grind
 | [],_::_,_,_,h=>by simp at h
 | _::_,[],_,_,h=>by simp at h
theorem kL:∀(ys cs:List (Int×Int)),fH ys cs=sP (ys.map vl) (cs.map vl)
 | [],_=>by simp [fH,sP]
 | _::_,[]=>by simp [fH,sP]
 | y::ys,c::cs=>by rw [xC,ada,ada,cP,kL ys cs]
theorem qv (F:Str→Option (Rat×Rat))(M:Str→Rat×Rat):∀pins:List aF,sP ((b_ F pins).map vl) (pins.flatMap fun p=>[(M p.nm).1,(M p.nm).2])=(pins.map fun p=>dt (mv F p.nm) (M p.nm)).sum
 | []=>by simp [b_,sP]
 | p::ps=>by
  have ih:=qv F M ps
  unfold b_ at ih ⊢
  rw [adw,adw,adv,jF _ _ (by simp),ih]
  simp only [ada,adZ,eh,cP,jE,adF]
  unfold dt
  grind
theorem Iy {pins:List aF}(nd:(pins.map (·.nm)).Nodup){p:aF}(hp:p∈pins){f:Str→Rat}(h:∀q∈pins,q.nm≠p.nm→f q.nm=0):(pins.map fun q=>f q.nm).sum=f p.nm:=by
 induction pins with
 | nil=>simp at hp
 | cons q ps ih=>
  rw [ada,adH] at nd
  rw [ada,adF]
  have zero:∀(l:List aF),(∀r∈l,f r.nm=0)→(l.map fun q=>f q.nm).sum=0:=fun l hl=>by
   induction l with
   | nil=>simp
   | cons r l ihl=>
    rw [ada,adF,hl r adh,ihl fun s hs=>hl s (ade _ hs)]
    grind
  by_cases e:q.nm=p.nm
  ·rw [e,zero ps fun r hr=>h r (ade _ hr) fun z=>nd.1 (by rw [e, ← z];exact ab_.mpr ⟨r,hr,rfl⟩)]
   grind
  ·rw [h q adh e]
   have jD :p∈ps:=by
    rcases adz.mp hp with z | z
    ·exact absurd (by rw [z]) e
    ·exact z
   rw [ih nd.2 jD fun r hr=>h r (ade _ hr)]
   grind
theorem gA (x:Str)(w:Rat×Rat)(y:Str):mv (dJ x w) y=if y=x then w else (0,0):=by
 unfold mv dJ
 by_cases e:y=x
 ·rw [if_pos e,if_pos e]
  rfl
 ·rw [if_neg e,if_neg e]
  rfl
theorem fS (m:Rat×Rat):dt (0,0) m=0:=by
 unfold dt
 grind
theorem gO {pins:List aF}(nd:(pins.map (·.nm)).Nodup){p:aF}(hp:p∈pins)(w:Rat×Rat)(M:Str→Rat×Rat):(pins.map fun q=>dt (mv (dJ p.nm w) q.nm) (M q.nm)).sum=dt w (M p.nm):=by
 rw [Iy nd hp (f:=fun x=>dt (mv (dJ p.nm w) x) (M x)) fun q _ e=>by rw [gA,if_neg e];exact fS _]
 rw [gA,if_pos rfl]
theorem sum_add (f g:aF→Rat):∀l:List aF,(l.map fun q=>f q+g q).sum=(l.map f).sum+(l.map g).sum
 | []=>by
  simp only [adZ,aeu]
  grind
 | p::l=>by
  rw [ada,adF,sum_add f g l,ada,ada,adF,adF]
  grind
def yY (M:Str→Rat×Rat)(b:bu):Rat:=dt (jz b.one b.other) ((M b.other.nm).1 - (M b.one.nm).1,(M b.other.nm).2 - (M b.one.nm).2)
theorem L7 (b:bu)(h:b.one.nm≠b.other.nm)(x:Str)(m:Rat×Rat):dt (mv (dj b) x) m=dt (mv (dJ b.one.nm (jz b.one b.other)) x) m+dt (mv (dJ b.other.nm (jz b.other b.one)) x) m:=by
 rw [gA,gA]
 unfold mv dj
 by_cases c1:x=b.one.nm
 ·rw [if_pos c1,if_pos c1,if_neg (fun z=>h (c1.symm.trans z)),fS]
  show dt (jz b.one b.other) m=_
  grind
 ·rw [if_neg c1,if_neg c1,fS]
  by_cases c2:x=b.other.nm
  ·rw [if_pos c2,if_pos c2]
   show dt (jz b.other b.one) m=_
   grind
  ·rw [if_neg c2,if_neg c2,fS]
   show dt (0,0) m=_
   rw [fS]
   grind
theorem kN {pins:List aF}(nd:(pins.map (·.nm)).Nodup)(b:bu)(h1:b.one∈pins)(h2:b.other∈pins)(h:b.one.nm≠b.other.nm)(M:Str→Rat×Rat):(pins.map fun q=>dt (mv (dj b) q.nm) (M q.nm)).sum= -(yY M b):=by
 have e:(pins.map fun q=>dt (mv (dj b) q.nm) (M q.nm))=pins.map fun q=>dt (mv (dJ b.one.nm (jz b.one b.other)) q.nm) (M q.nm)+dt (mv (dJ b.other.nm (jz b.other b.one)) q.nm) (M q.nm):=ady fun q _=>L7 b h _ _
 rw [e,sum_add,gO nd h1,gO nd h2]
 unfold yY dt jz
 grind
structure gB (pins:List aF)(aq:List bu)(M:Str→Rat×Rat):Prop where
 QE:∀p∈pins,∀w∈p.ws,dt w (M p.nm)=0
 aq:∀b∈aq,yY M b=0
def b8 (pins:List aF)(L:Str→Option (Rat×Rat))(M:Str→Rat×Rat):Rat:=(pins.map fun p=>dt (mv L p.nm) (M p.nm)).sum
def jG (aq:List bu)(T:Str→Rat)(U:Str→List Rat)(p:aF)(c:Rat×Rat→Rat):Rat:=sP (U p.nm) (p.ws.map c)+(aq.map fun b=>T b.nm*c (mv (dj b) p.nm)).sum
def qw (pins:List aF)(aq:List bu)(T:Str→Rat)(U:Str→List Rat)(L:Str→Option (Rat×Rat)):Prop:=∀p∈pins,jG aq T U p (·.1)+(mv L p.nm).1=0∧jG aq T U p (·.2)+(mv L p.nm).2=0
theorem kO:∀(as:List Rat) {α:Type} (l:List α),sP as (l.map fun _=>(0:Rat))=0
 | [],_,_=>jE _
 | _::_,_,[]=>by simp [sP]
 | a::as,_,x::l=>by
  rw [ada,cP,kO as l]
  grind
theorem wO {U:Str→List Rat}{c:Rat×Rat→Rat}(c0:c (0,0)=0)(p:aF):∀(ps:List aF),(ps.map (·.nm)).Nodup→(∀q∈ps,(U q.nm).length=q.ws.length)→(∀q∈ps,q.nm=p.nm→q=p)→
  sP (ps.flatMap fun q=>U q.nm) (ps.flatMap fun q=>q.ws.map fun w=>c (mv (dJ q.nm w) p.nm))=if p.nm∈ps.map (·.nm) then sP (U p.nm) (p.ws.map c) else 0
 | [],_,_,_=>by simp [sP]
 | q::ps,nd,hl,inj=>by
  rw [ada,adH] at nd
  have ih:=wO c0 p ps nd.2 (fun r hr=>hl r (ade _ hr)) fun r hr=>inj r (ade _ hr)
  rw [adw,adw,jF _ _ (by rw [hl q adh,Wp]),ih,ada]
  by_cases e:q.nm=p.nm
  ·have eq:q=p:=inj q adh e
   subst eq
   have ec:(q.ws.map fun w=>c (mv (dJ q.nm w) q.nm))=q.ws.map c:=ady fun w _=>by rw [gA,if_pos rfl]
   rw [if_neg nd.1,if_pos adh,ec]
   grind
  ·have ec:(q.ws.map fun w=>c (mv (dJ q.nm w) p.nm))=q.ws.map fun _=>(0:Rat):=ady fun w _=>by rw [gA,if_neg (fun z=>e z.symm)];exact c0
   rw [ec,kO]
   by_cases hm:p.nm∈ps.map (·.nm)
   ·rw [if_pos hm,if_pos (ade _ hm)]
    grind
   ·rw [if_neg hm,if_neg (fun z=>by
     rcases adz.mp z with z | z
     ·exact e z.symm
     ·exact hm z)]
    grind
theorem CY {α:Type}(f g:α→Rat):∀l:List α,sP (l.map f) (l.map g)=(l.map fun x=>f x*g x).sum
 | []=>by simp [sP]
 | x::l=>by rw [ada,ada,cP,CY f g l,ada,adF]
theorem Iz {pins:List aF}{aq:List bu}{T:Str→Rat}{U:Str→List Rat}{L:Str→Option (Rat×Rat)}{c:Rat×Rat→Rat}(c0:c (0,0)=0)(nd:(pins.map (·.nm)).Nodup)(hl:∀q∈pins,(U q.nm).length=q.ws.length){p:aF}(hp:p∈pins)(y:Rat):
  sP ((pins.flatMap fun q=>U q.nm)++aq.map (fun b=>T b.nm)++[y]) (((pins.flatMap fun q=>q.ws.map fun w=>c (mv (dJ q.nm w) p.nm))++aq.map fun b=>c (mv (dj b) p.nm))++[c (mv L p.nm)])=jG aq T U p c+y*c (mv L p.nm):=by
 have l1:(pins.flatMap fun q=>U q.nm).length=(pins.flatMap fun q=>q.ws.map fun w=>c (mv (dJ q.nm w) p.nm)).length:=by
  clear hp nd
  induction pins with
  | nil=>rfl
  | cons q ps ih=>rw [adw,adw,adp,adp,ih fun r hr=>hl r (ade _ hr),hl q adh,Wp]
 rw [jF _ _ (by rw [adp,adp,l1,Wp,Wp]),jF _ _ l1,wO c0 p pins nd hl fun q hq e=>Lq (nm:=aF.nm) nd hq hp e,if_pos (ab_.mpr ⟨p,hp,rfl⟩),CY,cP,jE]
 unfold jG
 grind
theorem qz (F:Str→Option (Rat×Rat)):∀{pins:List aF} {k:Nat} {p:aF},pins[k]? =some p→vl ((b_ F pins).getD (2*k) (0,1))=(mv F p.nm).1∧vl ((b_ F pins).getD (2*k+1) (0,1))=(mv F p.nm).2
 | q::ps,0,p,h=>by
  cases h
  unfold b_
  rw [adw]
  exact ⟨eh _,eh _⟩
 | q::ps,k+1,p,h=>by
  have ih:=qz F (pins:=ps) (k:=k) (p:=p) (by simpa using h)
  unfold b_ at ih ⊢
  rw [adw]
  exact ih
theorem yZ (pins:List aF)(aq:List bu)(L:Str→Option (Rat×Rat)){k:Nat}{p:aF}(h:pins[k]? =some p)(j:Nat)(c:Rat×Rat→Rat)(hj:∀F,vl ((b_ F pins).getD j (0,1))=c (mv F p.nm)):
  (CH (bJ pins aq++[b_ L pins]) j).map vl=((pins.flatMap fun q=>q.ws.map fun w=>c (mv (dJ q.nm w) p.nm))++aq.map fun b=>c (mv (dj b) p.nm))++[c (mv L p.nm)]:=by
 have flat:∀ps:List aF,((ps.flatMap fun q=>jA pins q).map fun qs=>vl (qs.getD j (0,1)))=ps.flatMap fun q=>q.ws.map fun w=>c (mv (dJ q.nm w) p.nm):=fun ps=>by
  induction ps with
  | nil=>rfl
  | cons q ps ih=>
   rw [adw,adw,adv,ih]
   congr 1
   unfold jA
   rw [adC]
   exact ady fun w _=>hj _
 unfold CH bJ
 rw [adC,adv,adv,ada,adZ]
 congr 1
 ·congr 1
  ·exact flat pins
  ·rw [adC]
   exact ady fun b _=>hj _
 ·rw [← hj]
  rfl
theorem dy {k:Nat}(h:1≤k):Sz k 0:=by
 have:=uQ (i:=0) (k:=k) (by simpa using al3 k) h
 simpa using this
structure Zb (n:Nat)(r:Rat):Prop where
 top:(qr r).1.natAbs≤2^n
 bot:(qr r).2.natAbs≤2^n
theorem J1 {T B:Nat}{q:Int×Int}(h:Sm T B q):q=qr (vl q):=sO h.pos h.low
theorem J2 {k:Nat}{r:Rat}(h:Sz k r)(h2:k≤50):Sm 50 50 (qr r):=
 ⟨b7 r,pS r,aec (adx (intBits_le_iff.mp h.top) (adA (by decide) h2)),aec (adx (intBits_le_iff.mp h.bot) (adA (by decide) h2))⟩
theorem wQ {F:Str→Option (Rat×Rat)}(h:∀x,Sz 50 (mv F x).1∧Sz 50 (mv F x).2)(pins:List aF):∀q∈b_ F pins,Sm 50 50 q:=fun q hq=>by
 unfold b_ at hq
 obtain ⟨p,_,hq⟩:=adP.mp hq
 have z:=h p.nm
 rcases adz.mp hq with e | hq
 ·rw [e]
  exact J2 z.1 (adf _)
 ·rw [adj.mp hq]
  exact J2 z.2 (adf _)
theorem L8 {x:Str}{w:Rat×Rat}(h:Sz 50 w.1∧Sz 50 w.2)(y:Str):Sz 50 (mv (dJ x w) y).1∧Sz 50 (mv (dJ x w) y).2:=by
 rw [gA]
 by_cases c:y=x
 ·rw [if_pos c]
  exact h
 ·rw [if_neg c]
  exact ⟨dy (by decide),dy (by decide)⟩
theorem L9 {pins:List aF}{aq:List bu}(g:dN pins aq){b:bu}(hb:b∈aq)(y:Str):Sz 50 (mv (dj b) y).1∧Sz 50 (mv (dj b) y).2:=by
 obtain ⟨m1,m2,_⟩:=g.ends b hb
 have z1:=g.sz _ m1
 have z2:=g.sz _ m2
 unfold mv dj
 by_cases c1:y=b.one.nm
 ·rw [if_pos c1]
  exact ⟨(z2.1.sub z1.1).up (by decide),(z2.2.1.sub z1.2.1).up (by decide)⟩
 ·rw [if_neg c1]
  by_cases c2:y=b.other.nm
  ·rw [if_pos c2]
   exact ⟨(z1.1.sub z2.1).up (by decide),(z1.2.1.sub z2.2.1).up (by decide)⟩
  ·rw [if_neg c2]
   exact ⟨dy (by decide),dy (by decide)⟩
theorem eF {pins:List aF}{aq:List bu}(g:dN pins aq):∀qs∈bJ pins aq,qs.length=2*pins.length∧∀q∈qs,Sm 50 50 q:=fun qs hq=>by
 unfold bJ at hq
 rcases adq.mp hq with h | h
 ·obtain ⟨p,hp,h⟩:=adP.mp h
  unfold jA at h
  obtain ⟨w,hw,rfl⟩:=ab_.mp h
  have z:=(g.sz p hp).2.2 w hw
  exact ⟨eE _ _,wQ (L8 ⟨z.1.up (by decide),z.2.up (by decide)⟩) pins⟩
 ·obtain ⟨b,hb,rfl⟩:=ab_.mp h
  exact ⟨eE _ _,wQ (L9 g hb) pins⟩
theorem iS {H:Hp}{T B:Nat}:∀{us:List V} {qs:List (Int×Int)},bT K H us qs→(∀q∈qs,Sm T B q)→Paired (fe K H) us (qs.map vl)
 | [],[],_,_=>.nil
 | u::us,q::qs,h,hs=>by
  refine .cons ?_ (iS ⟨by simpa using h.1,fun i u q e1 e2=>h.2 (i+1) u q (by simpa using e1) (by simpa using e2)⟩ fun r hr=>hs r (ade _ hr))
  have n:=h.2 0 u q rfl rfl
  show jR K H u (qr (vl q))
  rw [← J1 (hs q adh)]
  exact n
 | [],_::_,h,_=>(nomatch h.1)
 | _::_,[],h,_=>(nomatch h.1)
structure MoR (K:Frag)(H H' :Hp)(pins:List aF)(d:Addr)(kM:List (Key×V))(M:Str→Rat×Rat):Prop where
 nM:H d=none
 hM:H' d=some (.dK kM)
 keys:kM.map (·.1)=pins.map (fun p=>(adU p.nm:Key))
 tM:∀p∈pins,∃t v1 v2,bE kM (.inr p.nm)=some (.ref t)∧H' t=some (.tup [v1,v2])∧fe K H' v1 (M p.nm).1∧fe K H' v2 (M p.nm).2
theorem CZ {m n:Nat}{q:Int×Int}{T B:Nat}(h:Sm T B q)(h1:T≤n)(h2:B≤n):Zb n (vl q):=by
 have e:=J1 h
 refine ⟨?_,?_⟩
 ·rw [← e]
  exact adb h.top (adA (by decide) h1)
 ·rw [← e]
  exact adb h.bot (adA (by decide) h2)
def zL (n:Nat):Nat:=bb (1000+1000*(2*n+1)) (2*n+1)+1000*(2*n+1)
theorem C_ {n:Nat}(h:n≤9):bb (1000+1000*(2*n+1)) (2*n+1)≤29000000:=by
 unfold bb
 have:=ad5 (show 2*n+1+1≤20 by omega) (show 1000+1000*(2*n+1)+11≤20011 by omega)
 omega
def mvL (M:Str→Option (Rat×Rat)):Prop:=∀x,Sz 1000 (mv M x).1∧Sz 1000 (mv M x).2
theorem Xy {T B T' B' :Nat}{q:Int×Int}(h:Sm T B q)(h1:T≤T')(h2:B≤B'):Sm T' B' q:=⟨h.pos,h.low,adb h.top (adA (by decide) h1),adb h.bot (adA (by decide) h2)⟩
theorem C' {r:Rat}(h:Sz 1000 r):Sm 1000 1000 (qr r):=
 ⟨b7 r,pS r,aec (intBits_le_iff.mp h.top),aec (intBits_le_iff.mp h.bot)⟩
theorem DA {F:Str→Option (Rat×Rat)}(h:∀x,Sz 1000 (mv F x).1∧Sz 1000 (mv F x).2)(pins:List aF):∀q∈b_ F pins,Sm 1000 1000 q:=fun q hq=>by
 unfold b_ at hq
 obtain ⟨p,_,hq⟩:=adP.mp hq
 have z:=h p.nm
 rcases adz.mp hq with e | hq
 ·rw [e]
  exact C' z.1
 ·rw [adj.mp hq]
  exact C' z.2
inductive vj (K:Frag)(C:Addr)(vs:List V)(H:Hp)(Q:VK)(E_:XK):Prop where
 | mk (a d:Addr) (pins:List aF) (aq:List bu) (kvs:List (Key×V)) (L:Str→Option (Rat×Rat)) (_:vs=[.ref a,.ref d]) (_:wg K H C a pins aq) (_:dN pins aq) (_:pins.length≤9) (_:H d=some (.dK kvs)) (_:uR K H kvs L) (_:mvL L) (_:(∀kv∈kvs,∃x∈pins.map (·.nm),kv.1=.inr x)) (_:(∀(M:Str→Rat×Rat) (p dM:Addr) (kM:List (Key×V)) (H' :Hp),au H H' →H' p=some (.tup [.str "moves",.ref dM])→MoR K H H' pins dM kM M→gB pins aq M→b8 pins L M=1→(∀p∈pins,Zb (zL pins.length) (M p.nm).1∧Zb (zL pins.length) (M p.nm).2)→Q (.ref p) H')) (_:(∀(T:Str→Rat) (U:Str→List Rat) (Lx:Str→Addr) (p dT dU:Addr) (kT kU:List (Key×V)) (H' :Hp),au H H' →H' p=some (.tup [.str "rest",.ref dT,.ref dU])→PPR K H H' pins aq dT dU kT kU T U Lx→qw pins aq T U L→(∀b∈aq,Zb (zL pins.length) (T b.nm))→(∀p∈pins,∀u∈U p.nm,Zb (zL pins.length) u)→Q (.ref p) H')):vj K C vs H Q E_
theorem oF:aC ["F","load","drawn","rows","due","told","forces"] ["F","load"] (af yp):=sq
theorem QF {C aN aO:Addr}(hN:∀H:Hp,bH K H aN [.int 0,.int 1])(qf:mg "NOUGHT"=some (.ref aN))(hO:∀H:Hp,bH K H aO [.int 1,.int 1])(y4:mg "ONE"=some (.ref aO))(D:Def K mg "rest_of" yp ["F","load"])(bw:mg "len"=none)(MP:bq P w K mg base (aS P w) 1 C "pins" ["self"] (e_ K C))
  (L_:Fn P w K mg base (aS P w) 38 "draw_rows" ["F"] (fO K C)) (Xz:Fn P w K mg base (aS P w) 3 "load_row" ["F","load"] (jC K C)) (XA:Fn P w K mg base (aS P w) 37 "solve_rows" ["rows","due","many"] (qh K)) (Ma:Fn P w K mg base (aS P w) 2 "motion_from" ["F","numbers"] (iR K C)) (XB:Fn P w K mg base (aS P w) 3 "pulls_and_pushes" ["F","numbers"] (L6 K C)):
  Fn P w K mg base (aS P w) 39 "rest_of" ["F","load"] (vj K C):=by
 refine D.ok oF (fun vs H Q E h=> ?_) (fun f bj A outer s H vs Q E hr h=> ?_)
 ·obtain ⟨a,d,pins,aq,kvs,L,rfl,_⟩:=h
  rfl
 obtain ⟨a,d,pins,aq,kvs,L,rfl,R,g,lp5,hd,hP,zl,hk,q1,q2⟩:=h
 have gl:=g.lp
 have gb:=g.lb
 have big:(100:Nat)≤sizeLine:=by decide
 have wl:bU pins≤2*pins.length:=iP pins g.lw
 have ql:=oC pins aq
 have Xc:pins.length≤100:=by omega
 refine ⟨_,(ae (ax (i:=2) oF.nd rfl (adi rfl) (aD L_ hr.mo (pY P w) (ar (pv 0) aa)))
  (ae (ax (i:=3) oF.nd rfl (adi rfl) (aA g_ (pv 2) (bG (ar (aD Xz hr.mo (pY P w) (ar (pv 0) (ar (pv 1) aa))) aa))))
  (ae (ax (i:=4) oF.nd rfl (adi rfl) (aA g_ (aA uF (bG (ar (eL (v:=.ref aN) rfl qf rfl) aa)) (a8 aY rfl bw dA (ar (pv 2) aa))) (bG (ar (eL (v:=.ref aO) rfl y4 rfl) aa))))
  (ae (ax (i:=5) oF.nd rfl (adi rfl) (aD XA hr.mo (pY P w) (ar (pv 3) (ar (pv 4) (ar (aA bN ah (a8 aY rfl bw dA (ar (dw (k:=1) (pv 0) hr.mo (pY P w)) aa))) aa)))))
  (ae (bC (aL cZ (aR (pv 5)) dH (aZ _)) (ak (aG (aI (ar dH (ar (aD Ma hr.mo (pY P w) (ar (pv 0) (ar (aR (pv 5)) aa))) aa))))) aQ)
  (ae (ax (i:=6) oF.nd rfl (adi rfl) (aD XB hr.mo (pY P w) (ar (pv 0) (ar (d6 gI (aR (pv 5)) gH (eQ (a8 aY rfl bw dA (ar (pv 2) aa)))) aa))))
  (ak (aG (aI (ar dH (ar (aR (pv 6)) (ar (aR (pv 6)) aa)))))))))))),?_⟩
 refine ⟨_,rfl,a,pins,aq,rfl,R,g,fun r ls bL H1 s1 nr RR=> ?_⟩
 refine ⟨_,rfl,_,rfl,_,rfl,a,d,pins,aq,kvs,L,rfl,R.same s1,Xc,s1 _ _ hd,hP.same s1,hk,fun l us H2 s2 nl el nm=>⟨(by show 1≤sizeLine;decide),?_⟩⟩
 intro l1 n3;generalize eX:upd _ l1 _=H3;have ⟨s3,e3⟩:=nw n3 eX;clear eX
 have XC:=RR.same (s2.trans s3)
 have Nh:ls.length=(bJ pins aq).length:=by rw [RR.jB.2.1,RR.num.1]
 have lq:(bJ pins aq).length≤32:=by
  have:(bJ pins aq).length=bU pins+aq.length:=ql
  omega
 refine ⟨r,l1,_,_,rfl,rfl,XC.jB.1,e3,(by rw [Wp];show ls.length+1≤sizeLine;omega),?_⟩
 intro r2 n4;generalize eX:upd _ r2 _=H4;have ⟨s4,e4⟩:=nw n4 eX;clear eX
 have QG:=s3.trans s4
 refine ⟨(by show 1≤sizeLine;decide),?_⟩
 intro l5 n5;generalize eX:upd _ l5 _=H5;have ⟨s5,e5⟩:=nw n5 eX;clear eX
 have RR5:=(XC.same s4).same s5
 refine ⟨_,rfl,r,_,rfl,.inl (aU.of RR5.jB.1),l5,_,_,rfl,rfl,e5,by omega,(by rw [Wp];omega),(by rw [Wp];simp;omega),?_⟩
 intro l6 n6;generalize eX:upd _ l6 _=H6;have ⟨s6,e6⟩:=nw n6 eX;clear eX
 refine ⟨(by show 1≤sizeLine;decide),?_⟩
 intro l7 n7;generalize eX:upd _ l7 _=H7;have ⟨s7,e7⟩:=nw n7 eX;clear eX
 have XD:(adn (((ls.map V.ref).length:Nat):Int).toNat [V.ref aN]).flatten=adn ls.length (V.ref aN):=by simp
 rw [XD] at e6
 refine ⟨l6,l7,_,_,rfl,rfl,s7 _ _ e6,e7,(by rw [ad'];show ls.length+1≤sizeLine;omega),?_⟩
 intro l8 n8;generalize eX:upd _ l8 _=H8;have ⟨s8,e8⟩:=nw n8 eX;clear eX
 have s48:=(s5.trans s6).trans (s7.trans s8)
 have s28:=QG.trans s48
 have s18:=s2.trans s28
 have QC:=s1.trans s18
 have R8:=R.same QC
 obtain ⟨dx,pP,pW,pB,kP,kW,kB,F8,W8⟩:=R8.ex
 have c2:rW 2 ((pins.length:Nat):Int):=⟨by decide+kernel,adb (intBits_le_64 (by omega) (by omega)) (by decide)⟩
 refine ⟨_,rfl,_,rfl,_,rfl,a,C,dx,_,_,_,rfl,F8.obj,rfl,MP,a,dx,pP,pW,pB,_,_,kP,kW,kB,rfl,F8,fun lp H9 s9 rE mZ=> ?_⟩
 rw [dQ] at mZ
 refine ⟨lp,_,rfl,.inl (aU.of mZ),_,_,rfl,rfl,(by rw [Wp,Wp];exact c2),?_⟩
 have s89:=s8.trans s9
 have Iv:f9 K H9 r2 (ls++[l]) (bL++[us]) (bJ pins aq++[b_ L pins]):=by
  have Ni:=s28.trans s9
  have RRx:=(RR.same s2).same Ni
  refine ⟨⟨?_,by simp [RR.jB.2.1],wK RR.jB.2.1 RRx.jB.2.2 (Ni _ _ el)⟩,mB RRx.num (nm.same Ni),fun z=> ?_⟩
  ·rw [(s48.trans s9) _ _ e4,adv]
   rfl
  ·rcases adq.mp z with z | z
   ·obtain ⟨i,ei⟩:=adg z
    have hi:=(be.mp ei).1
    have:=XC.jB.2.2 i r2 _ ei (gE (by rw [← RR.jB.2.1];exact hi))
    rw [this] at n4
    cases n4
   ·rw [adj.mp z,s3 _ _ el] at n4
    cases n4
 have em:(2:Int)*((((pins.map (·.nm)).map V.str).length:Nat):Int)=((2*pins.length:Nat):Int):=by rw [Wp,Wp];omega
 have QH:bT K H9 (adn ls.length (V.ref aN)++[V.ref aO]) (adn ls.length (0,1)++[(1,1)]):=by
  refine bT.snoc ⟨by simp,fun i u q e1 e2=> ?_⟩ ⟨aO,rfl,hO _⟩
  rw [adS] at e1 e2
  split at e1
  ·rename_i c
   rw [if_pos c] at e2
   cases e1
   cases e2
   exact ⟨aN,rfl,hN _⟩
  ·cases e1
 have sh:Shape 1000 1000 (2*pins.length) (bJ pins aq++[b_ L pins]):=fun qs hq=>by
  rcases adq.mp hq with h | h
  ·exact ⟨(eF g qs h).1,fun q hq=>Xy ((eF g qs h).2 q hq) (by decide) (by decide)⟩
  ·rw [adj.mp h]
   exact ⟨eE _ _,DA (fun x=>⟨(zl x).1,(zl x).2⟩) pins⟩
 have XE:Sm 1000 1000 ((0,1):Int×Int):=⟨by decide,by decide,by decide+kernel,by decide+kernel⟩
 have vV:Sm 1000 1000 ((1,1):Int×Int):=⟨by decide,by decide,by decide+kernel,by decide+kernel⟩
 have e89:=s9 _ _ e8
 refine ⟨r2,l8,2*pins.length,ls++[l],bL++[us],bJ pins aq++[b_ L pins],_,adn ls.length (0,1)++[(1,1)],1000,1000,bb (1000+1000*(2*pins.length+1)) (2*pins.length+1),(by rw [← em];rfl),Iv.jB,Iv.num,e89,QH,by simp [Nh],sh,fun q hq=> ?_,by omega,by simp;omega,by decide,by omega,by decide,qa _ (Nat.min_le_left _ _),C_ lp5,?_,?_⟩
 ·rcases adq.mp hq with h | h
  ·rw [(List.mem_replicate.mp h).2]
   exact XE
  ·rw [adj.mp h]
   exact vV
 ·intro p x kJ xs HA sA ep ex nx lx zx hx
  refine ⟨_,rfl,p,_,_,_,rfl,rfl,bH.of ep,rfl,rfl,_,rfl,?_⟩
  refine bB (fun _=> ?_) (fun c=>absurd (by simp [m9]) c)
  have QI:=(QC.trans s9).trans sA
  have px' :=iS nx zx
  refine ⟨_,rfl,_,rfl,p,_,_,_,rfl,rfl,bH.of ep,rfl,a,x,pins,aq,kJ,xs.map vl,rfl,R.same QI,g,ex,px',by rw [Wp];exact lx,fun M dM kM HB sB eM nM hM ks tM=>⟨(by show 2≤sizeLine;decide),?_⟩⟩
  intro pt nC;generalize eX:upd _ pt _=HC;have ⟨sC,eC⟩:=nw nC eX;clear eX
  have sBC:=QI.trans (sB.trans sC)
  have row:∀(i:Nat) (F:Str→Option (Rat×Rat)) (dd:Int×Int),(bJ pins aq++[b_ L pins])[i]? =some (b_ F pins)→(adn ls.length ((0,1):Int×Int)++[(1,1)])[i]? =some dd→(pins.map fun p=>dt (mv F p.nm) (M p.nm)).sum=vl dd:=fun i F dd h1 h2=>by
   have:=hx i _ dd h1 h2
   rw [kL,eM,qv] at this
   exact this
  have v0:vl ((0,1):Int×Int)=0:=by decide+kernel
  have v1:vl ((1,1):Int×Int)=1:=by decide+kernel
  have draw:∀F,b_ F pins∈bJ pins aq→(pins.map fun p=>dt (mv F p.nm) (M p.nm)).sum=0:=fun F hF=>by
   obtain ⟨i,ei⟩:=adg hF
   have hi:=(be.mp ei).1
   rw [← v0]
   refine row i F (0,1) (by rw [adl hi];exact ei) ?_
   rw [adl (by rw [ad',Nh];exact hi),adS,if_pos (by rw [Nh];exact hi)]
  refine q1 M pt dM kM HC sBC eC ⟨(QI).free nM,sC _ _ hM,ks,fun p hp=> ?_⟩ ⟨fun p hp w hw=> ?_,fun b hb=> ?_⟩ ?_ fun p hp=> ?_
  ·obtain ⟨t,v1,v2,h1,h2,h3,h4⟩:=tM p hp
   exact ⟨t,v1,v2,h1,sC _ _ h2,h3.same sC,h4.same sC⟩
  ·rw [← gO g.np hp w M]
   refine draw _ ?_
   unfold bJ jA
   exact adK _ (adP.mpr ⟨p,hp,ab_.mpr ⟨w,hw,rfl⟩⟩)
  ·obtain ⟨m1,m2,m3⟩:=g.ends b hb
   have:=draw (dj b) (by unfold bJ;exact adE _ (ab_.mpr ⟨b,hb,rfl⟩))
   rw [kN g.np b m1 m2 m3] at this
   grind
  ·unfold b8
   rw [← v1]
   refine row (bJ pins aq).length L (1,1) (by simp) ?_
   rw [← Nh]
   simp
  ·have mem:∀r∈xs.map vl,Zb (zL pins.length) r:=fun r hr=>by
    obtain ⟨q,hq,rfl⟩:=ab_.mp hr
    exact CZ (m:=0) (zx q hq) (alT _ _) (alT _ _)
   rw [eM] at mem
   exact ⟨mem _ (adP.mpr ⟨p,hp,adh⟩),mem _ (adP.mpr ⟨p,hp,ade _ adh⟩)⟩
 ·intro p y kJ ys HA sA ep ey ny ly zy yQ hy1
  refine ⟨_,rfl,p,_,_,_,rfl,rfl,bH.of ep,rfl,rfl,_,rfl,?_⟩
  refine bB (fun c=>absurd c (by simp [m9];decide+kernel)) (fun _=> ?_)
  have QI:=(QC.trans s9).trans sA
  have e0A:=(s18.trans s9).trans sA
  have py:=iS ny zy
  have lys:ys.length=ls.length+1:=by rw [ly,Nh];simp
  have lus:kJ.length=ls.length+1:=by rw [ny.1,lys]
  have rA:HA r=some (.lst (ls.map V.ref)):=e0A _ _ RR.jB.1
  refine ⟨_,rfl,_,rfl,p,_,_,_,rfl,rfl,bH.of ep,rfl,_,rfl,r,_,rfl,.inl (aU.of rA),_,rfl,y,_,rfl,aU.of ey,?_⟩
  rw [Wp,qc (show ls.length≤kJ.length by omega)]
  intro l9 nB;generalize eX:upd _ l9 _=HB;have ⟨sB,eB⟩:=nw nB eX;clear eX
  have pyB:Paired (fe K HB) (kJ.take ls.length) ((ys.map vl).take ls.length):=Paired.bZ (fQ ls.length py) fun _ _ z=>z.same sB
  have QJ:=QI.trans sB
  refine ⟨a,l9,pins,aq,_,_,rfl,R.same QJ,g,eB,pyB,?_,fun T U Lx pf dT dU kT kU HC sC er epf PR=> ?_⟩
  ·rw [adJ,Wp,lys,Nh,ql]
   unfold bU
   omega
  refine ⟨_,rfl,pf,_,_,_,rfl,rfl,bH.of epf,rfl,_,rfl,pf,_,_,_,rfl,rfl,bH.of epf,rfl,(by show 3≤sizeLine;decide),?_⟩
  intro pt nD;generalize eX:upd _ pt _=HD;have ⟨sD,eD⟩:=nw nD eX;clear eX
  have sx:=QJ.trans (sC.trans sD)
  obtain ⟨yl,eyl⟩:∃yl,(ys.map vl)=(ys.map vl).take ls.length++[yl]:=by
   have hl:ls.length < (ys.map vl).length:=by rw [Wp];omega
   refine ⟨(ys.map vl)[ls.length],?_⟩
   have:=aeG (l:=ys.map vl) (i:=ls.length)
   rw [gE hl,af_ (by rw [Wp];omega)] at this
   exact this
  have v0:vl ((0,1):Int×Int)=0:=by decide+kernel
  have v1:vl ((1,1):Int×Int)=1:=by decide+kernel
  have ly1:yl=1:=by
   rw [kL,eyl,adv,jF _ _ (by rw [adJ,Wp,Wp,ad'];omega),List.map_replicate,v0] at hy1
   have ez:adn ls.length (0:Rat)=(adn ls.length ()).map fun _=>(0:Rat):=by simp
   rw [ez,kO,ada,adZ,cP,jE,v1] at hy1
   grind
  have rest:qw pins aq T U L:=fun p hp=>by
   obtain ⟨k,ek⟩:=adg hp
   have hk:=(be.mp ek).1
   have one:∀(j:Nat) (c:Rat×Rat→Rat),j < 2*pins.length→c (0,0)=0→(∀F,vl ((b_ F pins).getD j (0,1))=c (mv F p.nm))→jG aq T U p c+c (mv L p.nm)=0:=fun j c hj c0 hc=>by
    have:=yQ j hj
    rw [kL,yZ pins aq L ek j c hc,eyl,er,ly1,Iz c0 g.np PR.lU hp] at this
    grind
   exact ⟨one (2*k) (·.1) (by omega) rfl fun F=>(qz F ek).1,one (2*k+1) (·.2) (by omega) rfl fun F=>(qz F ek).2⟩
  have mem:∀r∈(ys.map vl).take ls.length,Zb (zL pins.length) r:=fun r hr=>by
   obtain ⟨q,hq,rfl⟩:=ab_.mp (List.mem_of_mem_take hr)
   exact CZ (m:=0) (zy q hq) (by unfold zL;omega) (alT _ _)
  rw [er] at mem
  refine q2 T U Lx pt dT dU kT kU HD sx eD ⟨QJ.free PR.nT,QJ.free PR.nU,PR.ne,sD _ _ PR.hT,sD _ _ PR.hU,PR.Xs,PR.Xt,fun b hb=> ?_,fun p hp=> ?_,PR.lU,PR.inj⟩ rest (fun b hb=>mem _ (adE _ (ab_.mpr ⟨b,hb,rfl⟩))) fun p hp u hu=>mem _ (adK _ (adP.mpr ⟨p,hp,hu⟩))
  ·obtain ⟨v,h1,h2⟩:=PR.tT b hb
   exact ⟨v,h1,h2.same sD⟩
  ·obtain ⟨vs,h1,h2,h3,h4⟩:=PR.tU p hp
   exact ⟨vs,h1,QJ.free h2,sD _ _ h3,Paired.bZ h4 fun _ _ z=>z.same sD⟩
theorem ff {α:Type}{l:List α}(h:l.Nodup){i j:Nat}{x:α}(hi:l[i]? =some x)(hj:l[j]? =some x):i=j:=by
 obtain ⟨i1,i2⟩:=be.mp hi
 obtain ⟨j1,j2⟩:=be.mp hj
 exact (amw h).mp (i2.trans j2.symm)
theorem iT {α β:Type}(f:α→β→Rat)(bs:List β):∀as:List α,(as.map fun a=>(bs.map fun b=>f a b).sum).sum=(bs.map fun b=>(as.map fun a=>f a b).sum).sum
 | []=>by
  induction bs with
  | nil=>rfl
  | cons b bs ih=>
   rw [ada,adF, ← ih]
   simp only [adZ,aeu]
   grind
 | a::as=>by
  rw [ada,adF,iT f bs as]
  clear iT
  induction bs with
  | nil=>
   simp only [adZ,aeu]
   grind
  | cons b bs ih=>
   simp only [ada,adF] at ih ⊢
   grind
theorem iU {α:Type}(t:Rat)(f:α→Rat):∀l:List α,(l.map fun a=>t*f a).sum=t*(l.map f).sum
 | []=>by
  simp only [adZ,aeu]
  grind
 | a::l=>by
  rw [ada,adF,ada,adF,iU t f l]
  grind
theorem sum_neg {α:Type}(f:α→Rat):∀l:List α,(l.map fun a=> -(f a)).sum= -(l.map f).sum
 | []=>by
  simp only [adZ,aeu]
  grind
 | a::l=>by
  rw [ada,adF,ada,adF,sum_neg f l]
  grind
theorem J3 (m:Rat×Rat):∀(us:List Rat) (ws:List (Rat×Rat)),sP us (ws.map (·.1))*m.1+sP us (ws.map (·.2))*m.2=sP us (ws.map fun w=>dt w m)
 | [],_=>by
  simp only [jE]
  grind
 | _::_,[]=>by
  simp [sP]
  grind
 | u::us,w::ws=>by
  have ih:=J3 m us ws
  simp only [ada,cP]
  unfold dt at ih ⊢
  grind
theorem wU (T:Str→Rat)(p:aF)(m:Rat×Rat):∀aq:List bu,(aq.map fun b=>T b.nm*(mv (dj b) p.nm).1).sum*m.1+(aq.map fun b=>T b.nm*(mv (dj b) p.nm).2).sum*m.2=(aq.map fun b=>T b.nm*dt (mv (dj b) p.nm) m).sum
 | []=>by
  simp only [adZ,aeu]
  grind
 | b::aq=>by
  have ih:=wU T p m aq
  simp only [ada,adF]
  unfold dt at ih ⊢
  grind
theorem IA {ws:List (Rat×Rat)}{m:Rat×Rat}(us:List Rat)(h:∀w∈ws,dt w m=0):sP us (ws.map fun w=>dt w m)=0:=by
 have:(ws.map fun w=>dt w m)=ws.map fun _=>(0:Rat):=ady h
 rw [this]
 exact kO us ws
theorem XF {pins:List aF}{aq:List bu}(g:dN pins aq){T:Str→Rat}{U:Str→List Rat}{L:Str→Option (Rat×Rat)}(h:qw pins aq T U L){M:Str→Rat×Rat}(hw:∀p∈pins,∀w∈p.ws,dt w (M p.nm)=0):b8 pins L M=(aq.map fun b=>T b.nm*yY M b).sum:=by
 have e1:∀p∈pins,dt (mv L p.nm) (M p.nm)= -((aq.map fun b=>T b.nm*dt (mv (dj b) p.nm) (M p.nm)).sum):=fun p hp=>by
  obtain ⟨r1,r2⟩:=h p hp
  unfold jG at r1 r2
  have a:=J3 (M p.nm) (U p.nm) p.ws
  rw [IA _ (hw p hp)] at a
  have b:=wU T p (M p.nm) aq
  rw [← b]
  unfold dt
  grind
 unfold b8
 rw [ady e1,sum_neg,iT (fun (p:aF) (b:bu)=>T b.nm*dt (mv (dj b) p.nm) (M p.nm)) aq pins]
 have e2:∀b∈aq,(pins.map fun p=>T b.nm*dt (mv (dj b) p.nm) (M p.nm)).sum= -(T b.nm*yY M b):=fun b hb=>by
  obtain ⟨m1,m2,m3⟩:=g.ends b hb
  rw [iU (T b.nm) (fun p:aF=>dt (mv (dj b) p.nm) (M p.nm)) pins,kN g.np b m1 m2 m3]
  grind
 rw [ady e2,sum_neg]
 grind
def dE (c m t:Nat)(nd:List (Nat×List Int))(qs:List (Int×Int)):Prop:=qs.length=m∧qs[c]? =some (1,1)∧(∀i,i < t→∀x,nd[i]? =some x→qs[x.1]? =some (low (-(x.2.getD c 0)) (x.2.getD x.1 0)))∧∀j,j < m→j≠c→(∀i,i < t→∀x,nd[i]? =some x→x.1≠j)→qs[j]? =some (0,1)
theorem dE.put {L c m t b:Nat}{os:List (List Int)}{nd:List (Nat×List Int)}{lv:List (List Int)}{qs:List (Int×Int)}{x:Nat×List Int}(R:Red os L m b nd lv)(F:dE c m t nd qs)(hc:∀y∈nd,y.1≠c)(e:nd[t]? =some x):dE c m (t+1) nd (qs.set x.1 (low (-(x.2.getD c 0)) (x.2.getD x.1 0))):=by
 have ql:=F.1
 have hx:=R.cols x (aa_ e)
 have xc:=hc x (aa_ e)
 have WO:∀i y,i < t→nd[i]? =some y→y.1≠x.1:=fun i y hi ey=>by
  have a:=alE.mp R.asc i t (by rw [Wp];exact (be.mp ey).1) (by rw [Wp];exact (be.mp e).1) hi
  simp only [amA] at a
  have e1:=(be.mp ey).2
  have e2:=(be.mp e).2
  rw [e1,e2] at a
  omega
 refine ⟨by simp [ql],by rw [adM,if_neg xc];exact F.2.1,fun i hi y ey=> ?_,fun j hj jc h=> ?_⟩
 ·rcases adX.mp hi with z | z
  ·rw [adM,if_neg (adG (WO i y z ey))]
   exact F.2.2.1 i z y ey
  ·subst z
   rw [e] at ey
   cases ey
   rw [adM,if_pos rfl,if_pos (by omega)]
 ·rw [adM,if_neg (h t (adO _) x e)]
  exact F.2.2.2 j hj jc (fun i hi y ey=>h i (aeh hi) y ey)
theorem Ln.ks {H H' :Hp}{v:V}{l:List Int}{d:Addr}{kvs:List (Key×V)}(h:Ln H v l)(r:Rd H d (.dK kvs))(k:aH d H H'):Ln H' v l:=by
 obtain ⟨p,e,z⟩:=h
 refine ⟨p,e,k p _ (fun y=> ?_) z⟩
 rw [y] at z
 rcases r with r | ⟨o,r⟩ <;> (rw [r] at z;cases z)
theorem jV.ks {H H' :Hp}{kvs Pc:List (Key×V)}{nd:List (Nat×List Int)}{d:Addr}(h:jV H kvs nd)(r:Rd H d (.dK Pc))(k:aH d H H'):jV H' kvs nd:=⟨h.1,fun i kv x e1 e2=>⟨(h.2 i kv x e1 e2).1,(h.2 i kv x e1 e2).2.ks r k⟩⟩
theorem aH.step {d:Addr}{H H' H2:Hp}(k:aH d H H')(s:au H' H2):aH d H H2:=fun b o n e=>s _ _ (k b o n e)
theorem aH.put {d x:Addr}{H H' :Hp}{o:HO}(k:aH d H H')(n:H x=none):aH d H (upd H' x o):=fun b o' nb e=>by
 rw [aj (fun z=>by rw [z,n] at e;cases e)]
 exact k b o' nb e
inductive qA (K:Frag)(vs:List V)(H:Hp)(Q:VK)(E_:XK):Prop where
 | mk (d:Addr) (c m L b:Nat) (kvs:List (Key×V)) (nd:List (Nat×List Int)) (os lv:List (List Int:_)) (_:vs=[.ref d,.int (c:Int),.int (m:Int)]) (_:Rd H d (.dK kvs)) (_:jV H kvs nd) (_:Red os L m b nd lv) (_:m≤L) (_:m≤900) (_:c < m) (_:(∀y∈nd,y.1≠c)) (_:∀(x:Addr) (us:List V) (qs:List (Int×Int)) (o:Obj) (H' :Hp),aH d H H' →H' d=some (.bP o (.dK kvs))→H x=none→H' x=some (.lst us)→bT K H' us qs→dE c m nd.length nd qs→Q (.ref x) H'):qA K vs H Q E_
theorem dz:aC ["needed","column","many","numbers","place","line"] ["needed","column","many"] (af cA):=sq
theorem nv {aN aO:Addr}(hN:∀H:Hp,bH K H aN [.int 0,.int 1])(qf:mg "NOUGHT"=some (.ref aN))(hO:∀H:Hp,bH K H aO [.int 1,.int 1])(y4:mg "ONE"=some (.ref aO))(D:Def K mg "spare_list" cA ["needed","column","many"])(u6:Fn P w K mg base (aS P w) 33 "lowest_terms" ["top","bottom"] d3):Fn P w K mg base (aS P w) 34 "spare_list" ["needed","column","many"] (qA K):=by
 refine D.ok dz (fun vs H Q E h=> ?_) (fun f bj A outer s H vs Q E hr h=> ?_)
 ·obtain ⟨d,c,m,L,b,kvs,nd,os,lv,rfl,_⟩:=h
  rfl
 obtain ⟨d,c,m,L,b,kvs,nd,os,lv,rfl,rd,LI,R,hmL,hm,hc,hnc,q⟩:=h
 refine ⟨_,(ae (ax (i:=3) dz.nd rfl (adi rfl) (aA uF (bG (ar (eL (v:=.ref aN) rfl qf rfl) aa)) (pv 2)))
  (ae (oR (eL (v:=.ref aO) rfl y4 rfl) (oQ (pv 3) (pv 1) set_list))
  (ae (bo PassesOwn.never rfl (xO (pv 0)) (eW rfl (aX (aE (i:=4) dz.nd rfl (adi rfl)) (aX (aE (i:=5) dz.nd rfl (adi rfl)) cN))) (ak (oR (aD u6 hr.mo pX (ar (Jy zV (bc a_ (pv 5) (pv 1) (fun _ _=>rfl))) (ar (bc a_ (pv 5) (pv 4) (fun _ _=>rfl)) aa))) (oQ (pv 3) (pv 4) set_list))))
  (ak (aG (pv 3)))))),?_⟩
 refine ⟨(by show 1≤sizeLine;decide),fun p3 n3=> ?_⟩
 have s3:=ay n3 (.lst [V.ref aN])
 refine ⟨_,rfl,p3,_,_,rfl,rfl,ag,by omega,by omega,adb (show 1*(m:Int).toNat≤1000 by omega) (by decide),fun x n4=> ?_⟩
 have er:(adn (m:Int).toNat [V.ref aN]).flatten=adn m (V.ref aN):=by simp
 rw [er]
 have s4:=ay n4 (.lst (adn m (V.ref aN)))
 have nx:H x=none:=s3.free n4
 have xd:d≠x:=by
  rcases rd with r | ⟨o,r⟩
  ·exact ao r nx
  ·exact ao r nx
 refine ⟨_,rfl,_,rfl,x,_,_,c,rfl,rfl,ag,by rw [ad'];exact u5 hc,?_⟩
 have s5:au H (upd (upd (upd H p3 (.lst [V.ref aN])) x (.lst (adn m (V.ref aN)))) x (.lst ((adn m (V.ref aN)).set c (V.ref aO)))):=fB (s3.trans s4) nx
 have EK:Rd (upd (upd (upd H p3 (.lst [V.ref aN])) x (.lst (adn m (V.ref aN)))) x (.lst ((adn m (V.ref aN)).set c (V.ref aO)))) d (.dK kvs):=by
  rcases rd with r | ⟨o,r⟩
  ·exact .inl (s5 _ _ r)
  ·exact .inr ⟨o,s5 _ _ r⟩
 have x5:upd (upd (upd H p3 (.lst [V.ref aN])) x (.lst (adn m (V.ref aN)))) x (.lst ((adn m (V.ref aN)).set c (V.ref aO))) x=some (.lst ((adn m (V.ref aN)).set c (V.ref aO))):=ag
 generalize upd (upd (upd H p3 (.lst [V.ref aN])) x (.lst (adn m (V.ref aN)))) x (.lst ((adn m (V.ref aN)).set c (V.ref aO)))=H5 at*
 have u9:=LI.same s5
 refine ⟨_,rfl,d,kvs,rfl,EK,fun o=> ?_⟩
 have k5:aH d H (upd H5 d (.bP o (.dK kvs))):=fun b o' n e=>by rw [aj n];exact s5 _ _ e
 have k55:aH d H5 (upd H5 d (.bP o (.dK kvs))):=fun b o' n e=>by rw [aj n];exact e
 refine fm (d:=d) (o:=o) (kvs:=kvs) (fun t σ H' =>∃(o4 o5:Option V) (oB:List V) (qs:List (Int×Int)),σ=[some (.ref d),some (.int (c:Int)),some (.int (m:Int)),some (.ref x),o4,o5]∧aH d H H' ∧H' d=some (.bP o (.dK kvs))∧H' x=some (.lst oB)∧bT K H' oB qs∧jV H' kvs nd∧dE c m t nd qs)
  ⟨none,none,(adn m (V.ref aN)).set c (V.ref aO),(adn m (0,1)).set c (1,1),rfl,k5,ag,by rw [aj (adG xd)];exact x5,bT.set ⟨by simp,fun i u q' e1 e2=> ?_⟩ ⟨aO,rfl,hO _⟩,u9.ks EK k55,⟨by simp,by rw [adM,if_pos rfl,if_pos (by simpa using hc)],fun i hi=>absurd hi (ad6 _),fun j hj jc _=>by rw [adM,if_neg (adG jc),adS,if_pos hj]⟩⟩ (fun t σ H' _ h=>by
   obtain ⟨_,_,_,_,_,_,h,_⟩:=h
   exact h) ?_ ?_
 ·rw [adS] at e1 e2
  by_cases z:i < m
  ·rw [if_pos z] at e1 e2
   cases e1
   cases e2
   exact ⟨aN,rfl,hN _⟩
  ·rw [if_neg z] at e1
   cases e1
 ·rintro t k v σ H6 p7 qd ⟨o4,o5,oB,qs,rfl,k6,yW,QK,Nj,QL,F⟩ n7
  have ht:t < kvs.length:=(be.mp qd).1
  have hl6:=QL.1
  obtain ⟨y,ey⟩:∃y,nd[t]? =some y:=⟨_,gE (by omega)⟩
  obtain ⟨k1,k2⟩:=QL.2 t _ y qd ey
  have WR :k=.inl (y.1:Int):=k1
  subst WR
  obtain ⟨b',eb,fG⟩:=k2
  have LJ :v=.ref b' :=eb
  subst LJ
  have XG:=aa_ ey
  have hyl:=R.kc y XG
  have hyc:=R.cols y XG
  have s7:=ay n7 (.tup [kV (.inl (y.1:Int)),.ref b'])
  have Pk:=s7 _ _ fG
  refine ⟨p7,_,rfl,bH.of ag,rfl,_,_,rfl,_,_,rfl,rfl,?_⟩
  refine ⟨_,rfl,_,rfl,b',_,_,_,rfl,rfl,aU.of Pk,jU (by omega),_,rfl,_,rfl,_,rfl,b',_,_,_,rfl,rfl,aU.of Pk,jU (by omega),?_⟩
  refine ⟨_,_,rfl,R.here y XG,fun p8 H8 s8 e8=> ?_⟩
  have u_:=s7.trans s8
  have Pl:=u_ _ _ QK
  have l2:=Nj.1
  have WS:=u_ _ _ yW
  refine ⟨_,rfl,_,rfl,x,oB,_,y.1,rfl,rfl,Pl,u5 (by rw [l2,F.1];exact hyc),?_⟩
  refine ⟨_,_,oB.set y.1 (.ref p8),qs.set y.1 (low (-(y.2.getD c 0)) (y.2.getD y.1 0)),rfl,aH.put (aH.step k6 u_) nx,by rw [aj xd];exact WS,ag,?_,?_,F.put R hnc ey⟩
  ·have base:bT K H8 (oB.set y.1 (.ref p8)) (qs.set y.1 (low (-(y.2.getD c 0)) (y.2.getD y.1 0))):=(Nj.same u_).set ⟨p8,rfl,bH.of e8⟩
   refine ⟨base.1,fun i u q' e1 e2=> ?_⟩
   obtain ⟨p9,e9,h9⟩:=base.2 i u q' e1 e2
   exact ⟨p9,e9,bH.putL h9 Pl⟩
  ·have base:=QL.same u_
   refine ⟨base.1,fun i kv y' e1 e2=>⟨(base.2 i kv y' e1 e2).1,?_⟩⟩
   obtain ⟨p9,e9,h9⟩:=(LI.2 i kv y' e1 e2).2
   refine ⟨p9,e9,?_⟩
   rw [aj (fun z=>by rw [z,nx] at h9;cases h9)]
   obtain ⟨p10,zE,WT⟩:=(base.2 i kv y' e1 e2).2
   rw [e9] at zE
   cases zE
   exact WT
 ·rintro σ H6 ⟨o4,o5,oB,qs,rfl,k6,yW,QK,Nj,QL,F⟩
  have hl6:=QL.1
  rw [hl6] at F
  exact ⟨_,rfl,q x oB qs o H6 k6 yW nx QK Nj F⟩
theorem bH.ks {K:Frag}{H H' :Hp}{a d:Addr}{xs:List V}{kvs:List (Key×V)}(h:bH K H a xs)(r:Rd H d (.dK kvs))(k:aH d H H'):bH K H' a xs:=by
 have ne:∀{u:HO},H a=some u→(∀o,u≠.bP o (.dK kvs))→u≠.dK kvs→a≠d:=fun {u} e n1 n2 z=>by
  rw [z] at e
  rcases r with r | ⟨o,r⟩
  ·rw [r] at e
   cases e
   exact n2 rfl
  ·rw [r] at e
   cases e
   exact n1 o rfl
 rcases h with (h | ⟨o,h⟩) | h
 ·exact .inl (.inl (k _ _ (ne h (fun o z=>nomatch z) (fun z=>nomatch z)) h))
 ·exact .inl (.inr ⟨o,k _ _ (ne h (fun o z=>by cases z) (fun z=>nomatch z)) h⟩)
 ·exact .inr h
theorem bT.ks {K:Frag}{H H' :Hp}{us:List V}{qs:List (Int×Int)}{d:Addr}{kvs:List (Key×V)}(h:bT K H us qs)(r:Rd H d (.dK kvs))(k:aH d H H'):bT K H' us qs:=⟨h.1,fun i u q e1 e2=>by
 obtain ⟨p,e,z⟩:=h.2 i u q e1 e2
 exact ⟨p,e,bH.ks z r k⟩⟩
def DB (K:Frag)(H:Hp)(kvs:List (Key×V))(ss:List (Nat×List (Int×Int))):Prop:=kvs.length=ss.length∧∀(i:Nat) (kv:Key×V) (x:Nat×List (Int×Int)),kvs[i]? =some kv→ss[i]? =some x→kv.1=.inl (x.1:Int)∧∃p us,kv.2=.ref p∧H p=some (.lst us)∧bT K H us x.2
theorem DB.ks {H H' :Hp}{kvs Pc:List (Key×V)}{ss:List (Nat×List (Int×Int))}{d:Addr}(h:DB K H kvs ss)(r:Rd H d (.dK Pc))(k:aH d H H'):DB K H' kvs ss:=⟨h.1,fun i kv x e1 e2=>by
 obtain ⟨a,p,us,b,c,d'⟩:=h.2 i kv x e1 e2
 refine ⟨a,p,us,b,k _ _ (fun z=> ?_) c,bT.ks d' r k⟩
 rw [z] at c
 rcases r with r | ⟨o,r⟩ <;> (rw [r] at c;cases c)⟩
theorem DB.snoc {H:Hp}{kvs:List (Key×V)}{ss:List (Nat×List (Int×Int))}(h:DB K H kvs ss){c:Nat}{p:Addr}{us:List V}{qs:List (Int×Int)}(hp:H p=some (.lst us))(hn:bT K H us qs):DB K H (kvs++[(.inl (c:Int),.ref p)]) (ss++[(c,qs)]):=by
 have hl:=h.1
 refine ⟨by simp [hl],fun j kv x e1 e2=> ?_⟩
 by_cases z:j < kvs.length
 ·rw [adl z] at e1
  rw [adl (by omega)] at e2
  exact h.2 j kv x e1 e2
 ·rw [adu (by omega)] at e1 e2
  rw [← hl] at e2
  by_cases y:j - kvs.length=0
  ·rw [y] at e1 e2
   cases e1
   cases e2
   exact ⟨rfl,p,us,rfl,hp,hn⟩
  ·rw [ac_ (by simp;omega)] at e1
   cases e1
theorem DB.keys {H:Hp}{kvs:List (Key×V)}{ss:List (Nat×List (Int×Int))}(h:DB K H kvs ss):kvs.map (·.1)=ss.map (fun x=>(alw (x.1:Int):Key)):=by
 refine adT fun i=> ?_
 have hl:=h.1
 rw [ir,ir]
 by_cases hi:i < ss.length
 ·have e:ss[i]? =some ss[i]:=gE hi
  have e2:kvs[i]? =some (kvs[i]'(by omega)):=gE (by omega)
  rw [e,e2]
  simp only [aeo]
  rw [(h.2 i _ _ e2 e).1]
 ·rw [ac_ (by omega),ac_ (by omega)]
  rfl
def XH (T B m:Nat)(qs:List (Int×Int))(w:Wl):Prop:=f7 w.1 qs w.2.1∧0 < w.2.1∧w.2.1.natAbs≤2^(B*m)∧∀t∈w.1,t.natAbs≤2^(T+B*m)
def tF (T B m:Nat)(cy:List (List (Int×Int)))(os:List (List Int)):Prop:=os.length=cy.length∧∀(i:Nat) (o:List Int) (qs:List (Int×Int)),os[i]? =some o→cy[i]? =some qs→∃b:Int,0 < b∧f7 o qs b
def free (nd:List (Nat×List Int))(j:Nat):Bool:=nd.all fun y=>decide (y.1≠j)
theorem eG {nd:List (Nat×List Int)}{j:Nat}:free nd j=true ↔ ∀y∈nd,y.1≠j:=by
 unfold free
 rw [aj_]
 exact ⟨fun h y hy=>of_decide_eq_true (h y hy),fun h y hy=>decide_eq_true (h y hy)⟩
inductive mH (K:Frag)(vs:List V)(H:Hp)(Q:VK)(E_:XK):Prop where
 | mk (r:Addr) (m:Nat) (ls:List Addr) (bL:List (List V:_)) (cy:List (List (Int×Int))) (T B Z:Nat) (_:vs=[.ref r,.int (m:Int)]) (_:ia H r ls bL) (_:gy K H bL cy) (_:Shape T B m cy) (_:m≤100) (_:cy.length≤100) (_:T≤20000) (_:B*m≤8000) (_:B≤8000) (_:bb (T+B*m) (min m cy.length)≤Z) (_:Z≤29000000) (_:∀(sd:Addr) (kvs:List (Key×V)) (ss:List (Nat×List (Int×Int))) (os lv:List (List Int)) (nd:List (Nat×List Int)) (H' :Hp),au H H' →H sd=none→H' sd=some (.dK kvs)→DB K H' kvs ss→tF T B m cy os→Red os m m Z nd lv→ss.map (·.1)=(adY m).filter (free nd)→(∀x∈ss,dE x.1 m nd.length nd x.2)→Q (.ref sd) H'):mH K vs H Q E_
theorem cD:aC ["rows","many","needed","spare","column"] ["rows","many"] (af bQ):=sq
theorem jH (D:Def K mg "spare_columns" bQ ["rows","many"])(bO:mg "range"=none)(LM:Fn P w K mg base (aS P w) 2 "whole_row" ["row"] (HW K))(LH:Fn P w K mg base (aS P w) 35 "reduced" ["lines","many"] (gN K))(qB:Fn P w K mg base (aS P w) 34 "spare_list" ["needed","column","many"] (qA K)):Fn P w K mg base (aS P w) 36 "spare_columns" ["rows","many"] (mH K):=by
 refine D.ok cD (fun vs H Q E h=> ?_) (fun f bj A outer s H vs Q E hr h=> ?_)
 ·obtain ⟨r,m,ls,bL,cy,T,B,Z,rfl,_⟩:=h
  rfl
 obtain ⟨r,m,ls,bL,cy,T,B,Z,rfl,M,NN,sh,hm,hn,hT,hB,US,hZ,WW,q⟩:=h
 refine ⟨_,(ae (ax (i:=2) cD.nd rfl (adi rfl) (aR (aD LH hr.mo pX (ar (du (tn:=["row"]) (fr:=[]) (caps:=[]) rfl ⟨rfl,by decide+kernel,rfl,by decide+kernel,by decide+kernel,rfl,trivial,trivial⟩ (bF (pv 0)) (fun _ _ _ _=>(aE (i:=0) (show (["row"]:List Str).Nodup from by decide+kernel) rfl (adi rfl))) (fun _ _ _ _=>c_) (fun _ _ _ _=>(bc (dP (K:=K) rfl) (aD LM hr.mo (r8 (by first | assumption | exact aS.pG) rfl) (ar (pv 0) aa)) ah (fun _ _=>rfl)))) (ar (pv 1) aa)))))
  (ae (ax (i:=3) cD.nd rfl (adi rfl) dC)
  (ae (bo PassesOwn.never rfl (dS rfl bO (ar (pv 1) aa)) (aE (i:=4) cD.nd rfl (adi rfl)) (ak (bC (kX (jk (cf hr) (pv 4) (pv 2))) (ak (cV (cf hr) (pv 3) (pv 4) (aD qB hr.mo pX (ar (pv 2) (ar (pv 4) (ar (pv 1) aa)))) rfl)) aQ)))
  (ak (aG (pv 3)))))),?_⟩
 have l1:=M.2.1
 have l2:=NN.1
 refine ⟨_,rfl,r,rfl,⟨_,aU.of M.1⟩,fun D1 n1=> ?_⟩
 refine hV (cap:=[]) (K:=K) (a:=r) (xs:=ls.map V.ref) (fun i v H=>∃w:Wl,v=.ref w.2.2.1∧w.2.2.1≠D1∧H w.2.2.1=some (.lst (w.1.map V.int))∧∀qs,cy[i]? =some qs→XH T B m qs w) n1 (by rw [Wp];exact adm (show ls.length≤1000 by omega) (by decide)) (fun H2 s2=>aU.of (s2 _ _ M.1)) ?_ ?_ ?_
 ·rintro i v H2 H3 ys hD ks ⟨w,e1,e2,e3,e4⟩
  exact ⟨w,e1,e2,ks _ _ e2 e3,e4⟩
 ·rintro i x H2 RR ex s2 ⟨WA,WX⟩ kk
  rw [ir] at ex
  obtain ⟨l,el,rfl⟩:=adk.mp ex
  have hi:i < ls.length:=(be.mp el).1
  obtain ⟨qs,eq⟩:∃qs,cy[i]? =some qs:=⟨_,gE (by omega)⟩
  obtain ⟨vs,ev⟩:∃vs,bL[i]? =some vs:=⟨_,gE (by omega)⟩
  have hl:=M.2.2 i l vs el ev
  have hq:=NN.2 i vs qs ev eq
  obtain ⟨lq,sq⟩:=sh qs (aa_ eq)
  refine ⟨_,rfl,l,qs,T,B,rfl,⟨_,aU.of (s2 _ _ hl),hq.same s2⟩,sq,hT,by rw [lq];omega,US,by omega,fun p3 Pq ts b H3 s3 nl WY WZ hb Pu wh Pw=> ?_⟩
  rw [lq] at Pu Pw
  refine ⟨p3,_,_,_,rfl,rfl,bH.of WY,gZ,kk _ _ s3 ⟨(ts,b,Pq,p3),rfl,fun z=> ?_,WZ,fun Nb e1=> ?_⟩⟩
  ·rw [show Pq =D1 from z,WX] at nl
   cases nl
  ·rw [eq] at e1
   cases e1
   exact ⟨wh,hb,Pu,Pw⟩
 intro zs H2 hz gx s2 Px
 rw [Wp] at hz
 obtain ⟨ws,lw,hw⟩:=gM (P:=fun i v (w:Wl)=>v=.ref w.2.2.1∧w.2.2.1≠D1∧H2 w.2.2.1=some (.lst (w.1.map V.int))∧∀qs,cy[i]? =some qs→XH T B m qs w) zs gx
 have wp:∀(i:Nat) (w:Wl),ws[i]? =some w→∃v qs,zs[i]? =some v∧cy[i]? =some qs∧v=.ref w.2.2.1∧H2 w.2.2.1=some (.lst (w.1.map V.int))∧XH T B m qs w:=fun i w e=>by
  have hi:i < ws.length:=(be.mp e).1
  obtain ⟨v,ev⟩:∃v,zs[i]? =some v:=⟨_,gE (by omega)⟩
  obtain ⟨qs,eq⟩:∃qs,cy[i]? =some qs:=⟨_,gE (by omega)⟩
  obtain ⟨h1,_,h3,h4⟩:=hw i v w ev e
  exact ⟨v,qs,ev,eq,h1,h3,h4 qs eq⟩
 have W5:mf H2 zs (ws.map (·.1)):=⟨by simp [lw],fun i u l e1 e2=>by
  rw [ir] at e2
  obtain ⟨w,ew,rfl⟩:=adk.mp e2
  obtain ⟨v,qs,ev,_,e,h,_⟩:=wp i w ew
  rw [e1] at ev
  cases ev
  exact ⟨_,e,h⟩⟩
 have yV:∀l∈ws.map (·.1),l.length=m:=fun l hl=>by
  obtain ⟨w,LN,rfl⟩:=ab_.mp hl
  obtain ⟨i,e⟩:=adg LN
  obtain ⟨v,qs,_,eq,_,_,wh,_⟩:=wp i w e
  rw [wh.1,(sh qs (aa_ eq)).1]
 have U1:∀l∈ws.map (·.1),Bd (T+B*m) l:=fun l hl=>by
  obtain ⟨w,LN,rfl⟩:=ab_.mp hl
  obtain ⟨i,e⟩:=adg LN
  obtain ⟨v,qs,_,eq,_,_,_,_,_,h⟩:=wp i w e
  exact Bd.of h
 have Py:(ws.map (·.1)).length=cy.length:=by rw [Wp];omega
 have XI:tF T B m cy (ws.map (·.1)):=⟨Py,fun i o qs e1 e2=>by
  rw [ir] at e1
  obtain ⟨w,ew,rfl⟩:=adk.mp e1
  obtain ⟨v,Nb,_,eq,_,_,wh,wb,_⟩:=wp i w ew
  rw [e2] at eq
  cases eq
  exact ⟨_,wb,wh⟩⟩
 refine ⟨_,rfl,D1,zs,ws.map (·.1),m,m,T+B*m,rfl,aU.of Px,W5,yV,adf _,by omega,by omega,U1,by rw [Py];omega,fun p d a' kvs kJ nd lv H3 s3 CB np hp hd Il LI JW R=> ?_⟩
 rw [Py] at R
 have RZ:=R.up hZ
 refine ⟨p,_,_,_,rfl,rfl,bH.of hp,gZ,?_⟩
 refine fun sd Nk=> ?_
 have t4:=ay Nk (.dK [])
 have Mb:=(s2.trans s3).trans t4
 have Hd:H d=none:=s2.free CB
 have Nl:H sd=none:=(s2.trans s3).free Nk
 have ds:d≠sd:=ao hd Nk
 refine ⟨_,rfl,_,rfl,by omega,by omega,?_⟩
 refine dW (lo:=0) (n:=m) (fun i σ H' =>∃(o4:Option V) (qC:List (Key×V)) (ss:List (Nat×List (Int×Int))),σ=[some (.ref r),some (.int (m:Int)),some (.ref d),some (.ref sd),o4]∧au H H' ∧Rd H' d (.dK kvs)∧H' sd=some (.dK qC)∧jV H' kvs nd∧DB K H' qC ss∧ss.map (·.1)=(adY i).filter (free nd)∧∀x∈ss,dE x.1 m nd.length nd x.2)
  ⟨none,[],[],rfl,Mb,.inl (t4 _ _ hd),ag,LI.same t4,⟨rfl,fun i kv x e=>by simp at e⟩,by simp,fun x h=>nomatch h⟩ ?_ ?_
 ·rintro i σ H5 hi ⟨o4,qC,ss,rfl,s5,EK,IC,u9,Nn,Np,U9⟩
  have nk:(kvs.map (·.1)).Nodup:=by
   rw [u9.keys]
   exact keys_nodup R.asc
  by_cases fr:free nd i=true
  ·have U_ :=eG.mp fr
   have WJ:bE kvs (.inl ((0:Int)+i))=none:=kI (fun z=>by
    rw [u9.keys] at z
    obtain ⟨x',rC,e⟩:=ab_.mp z
    have e1:(x'.1:Int)=0+i:=alp e
    exact U_ x' rC (by omega))
   refine ⟨_,rfl,_,rfl,d,none,rfl,.inl ⟨kvs,.inl ((0:Int)+i),EK,rfl,WJ.symm⟩,_,rfl,?_⟩
   refine bB (fun _=> ?_) (fun c=>absurd rfl c)
   refine ⟨_,rfl,_,rfl,_,rfl,d,i,m,m,Z,kvs,nd,ws.map (·.1),lv,by rw [aed];rfl,EK,u9,RZ,adf _,by omega,hi,U_,fun x us qs o H6 k6 yW nx QK Nj F=> ?_⟩
   have Mc:H6 sd=some (.dK qC):=k6 _ _ (adG ds) IC
   have lsk:=Nn.1
   have Nf:ss.length≤m:=by
    have:=congrArg aee Np
    rw [Wp] at this
    have h2:=aeD (free nd) (adY i)
    rw [alK] at h2
    omega
   refine ⟨_,rfl,_,rfl,sd,_,rfl,gf.k (k:=.inl ((0:Int)+i)) Mc (adm (show qC.length≤1000 by omega) (by decide)),?_⟩
   have XJ:bE qC (.inl ((0:Int)+i))=none:=kI (fun z=>by
    rw [Nn.keys] at z
    obtain ⟨x',rC,e⟩:=ab_.mp z
    have e1:(x'.1:Int)=0+i:=alp e
    have:x'.1∈(adY i).filter (free nd):=by rw [← Np];exact ab_.mpr ⟨x',rC,rfl⟩
    have:=ad1.mp (ad_.mp this).1
    omega)
   rw [cw _ XJ,aed]
   have s6:au H H6:=fun b o' e=>k6 _ _ (ao e Hd) (s5 _ _ e)
   have ksd:aH sd H6 (upd H6 sd (.dK (qC++[(.inl (i:Int),.ref x)]))):=fun b o' n e=>by rw [aj n];exact e
   refine ⟨_,_,ss++[(i,qs)],rfl,fB s6 Nl,.inr ⟨o,by rw [aj ds];exact yW⟩,ag,(u9.ks EK k6).ks (.inl Mc) ksd,((Nn.ks EK k6).snoc QK Nj).ks (.inl Mc) ksd,?_,fun x' rC => ?_⟩
   ·rw [adv,Np,al4,amg]
    simp [fr]
   ·rcases adq.mp rC with z | z
    ·exact U9 x' z
    ·rw [adj.mp z]
     exact F
  ·have nf:∃y∈nd,y.1=i:=by
    apply adN
    intro z
    exact fr (eG.mpr fun y hy e=>z ⟨y,hy,e⟩)
   obtain ⟨y,hy,ey⟩:=nf
   obtain ⟨t,et⟩:=adg hy
   obtain ⟨v,ev,_⟩:=u9.at et
   have WH:=iJ nk ev
   refine ⟨_,rfl,_,rfl,d,some v,rfl,.inl ⟨kvs,.inl ((0:Int)+i),EK,rfl,by rw [aed, ← ey];exact WH.symm⟩,_,rfl,?_⟩
   refine bB (fun c=>nomatch c) (fun _=> ?_)
   refine ⟨_,_,ss,rfl,s5,EK,IC,u9,Nn,?_,U9⟩
   rw [Np,al4,amg]
   simp [fr]
 ·rintro σ H5 ⟨o4,qC,ss,rfl,s5,EK,IC,u9,Nn,Np,U9⟩
  exact ⟨_,rfl,q sd qC ss _ lv nd H5 s5 Nl IC Nn XI RZ Np U9⟩
def fsum (l:List Nat)(f:Nat→Rat):Rat:=(l.map f).sum
theorem bR (a:Nat)(l:List Nat)(f:Nat→Rat):fsum (a::l) f=f a+fsum l f:=by simp [fsum]
theorem jX (p:Nat→Bool)(f:Nat→Rat):∀l:List Nat,fsum l f=fsum (l.filter p) f+fsum (l.filter fun i=> !p i) f
 | []=>by simp [fsum];grind
 | a::l=>by
  have ih:=jX p f l
  cases h:p a
  ·rw [alU (by simp [h]),alV (by simp [h]),bR,bR,ih]
   grind
  ·rw [alV h,alU (by simp [h]),bR,bR,ih]
   grind
theorem oG (f:Nat→Rat):∀l:List Nat,(∀i∈l,f i=0)→fsum l f=0
 | [],_=>rfl
 | a::l,h=>by
  rw [bR,h a adh,oG f l (fun i hi=>h i (ade _ hi))]
  grind
theorem mI (f:Nat→Rat)(j:Nat):∀l:List Nat,l.Nodup→j∈l→(∀i∈l,i≠j→f i=0)→fsum l f=f j
 | [],_,h,_=>nomatch h
 | a::l,n,h,z=>by
  rw [adH] at n
  rw [bR]
  by_cases e:a=j
  ·subst e
   rw [oG f l (fun i hi=>z i (ade _ hi) (fun y=>n.1 (by rw [← y];exact hi)))]
   grind
  ·have hj:j∈l:=by
    rcases adz.mp h with y | y
    ·exact absurd y.symm e
    ·exact y
   rw [z a adh e,mI f j l n.2 hj (fun i hi=>z i (ade _ hi))]
   grind
theorem mJ {f g:Nat→Rat}:∀l:List Nat,(∀i∈l,f i=g i)→fsum l f=fsum l g
 | [],_=>rfl
 | a::l,h=>by rw [bR,bR,h a adh,mJ l (fun i hi=>h i (ade _ hi))]
theorem tG (c:Rat)(f:Nat→Rat):∀l:List Nat,fsum l (fun i=>c*f i)=c*fsum l f
 | []=>by simp [fsum]
 | a::l=>by
  rw [bR,bR,tG c f l]
  grind
theorem DC (g:Nat→Nat)(f:Nat→Rat)(l:List Nat):fsum (l.map g) f=fsum l (fun i=>f (g i)):=by
 unfold fsum
 rw [adC]
 rfl
theorem mK:∀(n:Nat) (f:Nat→Rat),sumTo n f=fsum (adY n) f
 | 0,_=>rfl
 | n+1,f=>by
  rw [aeQ,bR,DC, ← mK n]
  rfl
theorem mL :vl (0,1)=0:=by
 unfold vl
 simp
 grind
theorem vk :vl (1,1)=1:=by
 unfold vl
 simp
 grind
theorem y6 {os lv:List (List Int)}{m b j:Nat}{nd:List (Nat×List Int)}{ss:List (Nat×List (Int×Int))}{D:Nat→Rat}(R:Red os m m b nd lv)(hc:ss.map (·.1)=(adY m).filter (free nd))(hF:∀x∈ss,dE x.1 m nd.length nd x.2)(hz:∀o∈os,ev o D=0)(hj:j < m){g:Nat→Rat}(hg:∀x∈ss,∀q,x.2[j]? =some q→g x.1=vl q):fsum (ss.map (·.1)) (fun c=>D c*g c)=D j:=by
 have sol:=((R.sol D).mpr hz).1
 have mem:∀c,c∈ss.map (·.1)→c < m∧(∀y∈nd,y.1≠c)∧∃x∈ss,x.1=c:=fun c h=>by
  have h' :=h
  rw [hc] at h'
  obtain ⟨h1,h2⟩:=ad_.mp h'
  obtain ⟨x,hx,e⟩:=ab_.mp h
  exact ⟨ad1.mp h1,eG.mp h2,x,hx,e⟩
 have nodup:(ss.map (·.1)).Nodup:=by
  rw [hc]
  exact aeI.filter _
 by_cases fr:free nd j=true
 ·have U_ :=eG.mp fr
  have jm:j∈ss.map (·.1):=by
   rw [hc]
   exact ad_.mpr ⟨ad1.mpr hj,fr⟩
  rw [mI _ j _ nodup jm ?_]
  ·obtain ⟨_,_,x,hx,e⟩:=mem j jm
   have f1:=(hF x hx).2.1
   rw [e] at f1
   have:=hg x hx _ f1
   rw [e,vk] at this
   rw [this]
   grind
  ·intro c LK nc
   obtain ⟨_,_,x,hx,e⟩:=mem c LK
   have f0:=(hF x hx).2.2.2 j hj (by rw [e];exact adG nc) (fun i _ y ey=>U_ y (aa_ ey))
   have:=hg x hx _ f0
   rw [e,mL] at this
   rw [this]
   grind
 ·have nf:∃y∈nd,y.1=j:=by
   apply adN
   intro z
   exact fr (eG.mpr fun y hy e=>z ⟨y,hy,e⟩)
  obtain ⟨y,hy,ey⟩:=nf
  obtain ⟨t,et⟩:=adg hy
  have ht:t < nd.length:=(be.mp et).1
  have e0:=sol y hy
  rw [gw m y.2 D (by rw [R.kc y hy];exact adf _),mK,jX (free nd), ← hc] at e0
  have hh:=R.here y hy
  rw [ey] at hh
  have hh' :=bW hh
  have e1:fsum ((adY m).filter fun i=> !free nd i) (fun i=>((y.2.getD i 0:Int):Rat)*D i)=((y.2.getD j 0:Int):Rat)*D j:=by
   refine mI _ j _ (aeI.filter _) (ad_.mpr ⟨ad1.mpr hj,by simp [fr]⟩) ?_
   intro i hi ni
   obtain ⟨h1,h2⟩:=ad_.mp hi
   have nfi:∃u∈nd,u.1=i:=by
    apply adN
    intro z
    have:free nd i=true:=eG.mpr fun u hu e=>z ⟨u,hu,e⟩
    rw [this] at h2
    cases h2
   obtain ⟨u,hu,eu⟩:=nfi
   rw [← eu,R.off y hy u hu (by rw [ey,eu];exact adG ni)]
   simp
  rw [e1] at e0
  have e2:fsum (ss.map (·.1)) (fun c=>D c*g c)=(-1 / ((y.2.getD j 0:Int):Rat))*fsum (ss.map (·.1)) (fun i=>((y.2.getD i 0:Int):Rat)*D i):=by
   rw [← tG]
   refine mJ _ fun c LK=> ?_
   obtain ⟨_,_,x,hx,e⟩:=mem c LK
   have f2:=(hF x hx).2.2.1 t ht y et
   rw [ey] at f2
   have k:=hg x hx _ f2
   rw [e,jh hh] at k
   rw [k]
   push_cast
   grind
  rw [e2]
  grind
structure Va (nd:List (Nat×List Int))(c:Nat)(z:Nat→Rat):Prop where
 one:z c=1
 at' :∀y∈nd,z y.1=(-(y.2.getD c 0):Int) / ((y.2.getD y.1 0:Int):Rat)
 no:∀j,j≠c→(∀y∈nd,y.1≠j)→z j=0
theorem Va.sol {os lv:List (List Int)}{L m b c:Nat}{nd:List (Nat×List Int)}{z:Nat→Rat}(R:Red os L m b nd lv)(hc:c < m)(h:Va nd c z)(fr:∀y∈nd,y.1≠c):∀o∈os,ev o z=0:=by
 refine (R.sol z).mp ⟨fun x hx=> ?_,fun l hl=> ?_⟩
 ·have e:z=fun j=>(if j=c then 1 else 0)+(if j=c then 0 else z j):=by
   funext j
   by_cases q:j=c
   ·rw [if_pos q,if_pos q,q,h.one]
    grind
   ·rw [if_neg q,if_neg q]
    grind
  rw [e,uM,jr x.2 (fun j=>if j=c then 1 else 0) c (fun j hj=>by rw [if_neg hj];grind),jr x.2 (fun j=>if j=c then 0 else z j) x.1 (fun j hj=> ?_)]
  ·have hh:=bW (R.here x hx)
   rw [if_pos rfl,if_neg (fr x hx),h.at' x hx]
   push_cast
   grind
  ·by_cases q:j=c
   ·rw [if_pos q]
    grind
   ·rw [if_neg q]
    by_cases y:∃u∈nd,u.1=j
    ·obtain ⟨u,hu,rfl⟩:=y
     rw [R.off x hx u hu (adG hj)]
     simp
    ·rw [h.no j q (fun u hu e=>y ⟨u,hu,e⟩)]
     grind
 ·refine kH l z fun j=> ?_
  by_cases hj:j < m
  ·rw [R.zero l hl j hj]
   simp
  ·rw [h.no j (by omega) (fun y hy e=>by have:=R.cols y hy;omega)]
   grind
theorem tH:∀(m:Nat) (f g:Nat→Rat),(∀j,j < m→f j=g j)→Ty.sumTo m f=Ty.sumTo m g
 | 0,_,_,_=>rfl
 | m+1,f,g,h=>by
  simp only [Ty.sumTo]
  rw [h 0 (by omega),tH m (fun i=>f (i+1)) (fun i=>g (i+1)) (fun j hj=>h (j+1) (by omega))]
theorem Md {ts:List Int}{qs:List (Int×Int)}{b:Int}{m:Nat}(h:f7 ts qs b)(hm:qs.length=m)(z:Nat→Rat):ev ts z=(b:Rat)*sumTo m (fun j=>vl (qs.getD j (0,1))*z j):=by
 have hl:=h.1
 rw [gw m ts z (by omega), ← jt]
 refine tH m _ _ fun j hj=> ?_
 have e1:ts[j]? =some (ts[j]'(by omega)):=gE (by omega)
 have e2:qs[j]? =some (qs[j]'(by omega)):=gE (by omega)
 have w:=h.2 j _ _ e1 e2
 rw [getD_mem e1,w,ado,e2]
 show _=(b:Rat)*(vl (qs[j]'(by omega))*z j)
 grind
theorem wV {ts:List Int}{qs:List (Int×Int)}{b:Int}{m:Nat}(h:f7 ts qs b)(hb:0 < b)(hm:qs.length=m)(z:Nat→Rat):ev ts z=0 ↔ sumTo m (fun j=>vl (qs.getD j (0,1))*z j)=0:=by
 rw [Md h hm z]
 have fG :=bW (show b≠0 by omega)
 constructor <;> intro q <;> grind
theorem oH {T B m:Nat}{cy:List (List (Int×Int))}{os:List (List Int)}(nj:tF T B m cy os)(len:∀qs∈cy,qs.length=m)(z:Nat→Rat):(∀o∈os,ev o z=0) ↔ ∀qs∈cy,sumTo m (fun j=>vl (qs.getD j (0,1))*z j)=0:=by
 have hl:=nj.1
 constructor
 ·intro h qs hq
  obtain ⟨i,e⟩:=adg hq
  have hi:i < cy.length:=(be.mp e).1
  have e1:os[i]? =some (os[i]'(by omega)):=gE (by omega)
  obtain ⟨b,hb,wh⟩:=nj.2 i _ qs e1 e
  exact (wV wh hb (len qs hq) z).mp (h _ (aa_ e1))
 ·intro h o ho
  obtain ⟨i,e⟩:=adg ho
  have hi:i < os.length:=(be.mp e).1
  have e1:cy[i]? =some (cy[i]'(by omega)):=gE (by omega)
  obtain ⟨b,hb,wh⟩:=nj.2 i o _ e e1
  exact (wV wh hb (len _ (aa_ e1)) z).mpr (h _ (aa_ e1))
theorem getD_some {qs:List (Int×Int)}{j:Nat}{q:Int×Int}(e:qs[j]? =some q):qs.getD j (0,1)=q:=by
 rw [ado,e]
 rfl
theorem dE.z {os lv:List (List Int)}{L m b c:Nat}{nd:List (Nat×List Int)}{qs:List (Int×Int)}(R:Red os L m b nd lv)(F:dE c m nd.length nd qs):Va nd c (fun j=>vl (qs.getD j (0,1))) where
 one:=by
  show vl (qs.getD c (0,1))=1
  rw [getD_some F.2.1,vk]
 at' :=fun y hy=>by
  obtain ⟨i,e⟩:=adg hy
  have hi:i < nd.length:=(be.mp e).1
  show vl (qs.getD y.1 (0,1))=_
  rw [getD_some (F.2.2.1 i hi y e),jh (R.here y hy)]
 no:=fun j hj h=>by
  show vl (qs.getD j (0,1))=0
  by_cases z:j < m
  ·rw [getD_some (F.2.2.2 j z hj (fun i _ x e=>h x (aa_ e))),mL]
  ·rw [ado,ac_ (by rw [F.1];omega)]
   exact mL
theorem dE.XM {os lv:List (List Int)}{L m b c:Nat}{nd:List (Nat×List Int)}{qs:List (Int×Int)}(R:Red os L m b nd lv)(F:dE c m nd.length nd qs):∀q∈qs,Sm b b q:=by
 intro q hq
 obtain ⟨j,hj⟩:=adg hq
 have WN:j < m:=by have:=(be.mp hj).1;rw [← F.1];exact this
 by_cases jc:j=c
 ·subst jc
  rw [F.2.1] at hj
  cases hj
  exact ⟨by decide,by decide,aeb,aeb⟩
 by_cases cc:∃(i:Nat) (x:Nat×List Int),nd[i]? =some x∧x.1=j
 ·obtain ⟨i,x,e,rfl⟩:=cc
  have hi:i < nd.length:=(be.mp e).1
  have h1:=F.2.2.1 i hi x e
  rw [hj] at h1
  cases h1
  have hm:=aa_ e
  exact qe (R.here x hm) (by rw [al8];exact R.zC x hm c) (R.zC x hm x.1)
 ·have h1:=F.2.2.2 j WN jc (fun i _ x e z=>cc ⟨i,x,e,z⟩)
  rw [hj] at h1
  cases h1
  exact ⟨by decide,by decide,adL _,aeb⟩
theorem mM {α:Type}{R:α→Nat×List (Int×Int)→Prop}{f:α→Rat}{h:Nat→Rat}(e:∀o x,R o x→f o=h x.1):∀{os:List α} {ss:List (Nat×List (Int×Int))},Paired R os ss→(os.map f).sum=fsum (ss.map (·.1)) h
 | _,_,.nil=>rfl
 | _,_,.cons a t=>by
  rw [ada,ada,bR,adF,e _ _ a,mM e t]
theorem QM (h:Nat×List (Int×Int)→Rat):∀{ss:List (Nat×List (Int×Int))},(ss.map (·.1)).Nodup→∃g:Nat→Rat,∀y∈ss,g y.1=h y
 | [],_=>⟨fun _=>0,fun y hy=>nomatch hy⟩
 | x::r,n=>by
  rw [ada,adH] at n
  obtain ⟨g,hg⟩:=QM h n.2
  refine ⟨fun c=>if c=x.1 then h x else g c,fun y hy=> ?_⟩
  rcases adz.mp hy with z | z
  ·rw [z]
   exact if_pos rfl
  ·have ne:y.1≠x.1:=fun e=>n.1 (by rw [← e];exact ab_.mpr ⟨y,z,rfl⟩)
   show (if y.1=x.1 then h x else g y.1)=_
   rw [if_neg ne]
   exact hg y z
theorem jY {α β:Type}{R:α→β→Prop}:∀{us:List α} {l:List β},Paired R us l→Paired (fun u a=>a∈l∧R u a) us l
 | _,_,.nil=>.nil
 | _,_,.cons h t=>.cons ⟨adh,h⟩ (Paired.bZ (jY t) fun _ _ z=>⟨ade _ z.1,z.2⟩)
theorem dF {α β:Type}{F:α→β→Prop}:∀{l₁:List α} {l₂:List β} {a:α} {b:β},Paired F l₁ l₂→F a b→Paired F (l₁++[a]) (l₂++[b])
 | _,_,_,_,.nil,h=>.cons h .nil
 | _,_,_,_,.cons h t,h' =>.cons h (dF t h')
theorem DE:∀(rs:List Rat) (qs:List (Int×Int)),rs.length=qs.length→Ty.sumTo qs.length (fun j=>vl (qs.getD j (0,1))*rs.getD j 0)=sP rs (qs.map vl)
 | [],[],_=>by simp [Ty.sumTo,sP]
 | r::rs,q::qs,h=>by
  rw [ada,cP, ← DE rs qs (by simpa using h),adI]
  show vl q*r+Ty.sumTo qs.length (fun j=>vl (qs.getD j (0,1))*rs.getD j 0)=_
  grind
structure ID (K:Frag)(H:Hp)(pins:List aF)(d:Addr)(kM:List (Key×V))(M:Str→Rat×Rat)(N:Nat):Prop where
 hM:H d=some (.dK kM)
 keys:kM.map (·.1)=pins.map (fun p=>(adU p.nm:Key))
 tM:∀p∈pins,∃t v1 v2,bE kM (.inr p.nm)=some (.ref t)∧H t=some (.tup [v1,v2])∧fe K H v1 (M p.nm).1∧fe K H v2 (M p.nm).2
 zb:∀p∈pins,Zb N (M p.nm).1∧Zb N (M p.nm).2
 hN:N≤6000000
theorem ID.same {H H' :Hp}{pins:List aF}{d:Addr}{kM:List (Key×V)}{M:Str→Rat×Rat}{N:Nat}(h:ID K H pins d kM M N)(s:au H H'):ID K H' pins d kM M N:=⟨s _ _ h.hM,h.keys,fun p hp=>by
 obtain ⟨t,v1,v2,a,b,c,d⟩:=h.tM p hp
 exact ⟨t,v1,v2,a,s _ _ b,c.same s,d.same s⟩,h.zb,h.hN⟩
def iV (u:HO):Prop:=(∀xs,u≠.tup xs)∧∀o xs,u≠.bP o (.tup xs)
theorem wW {kvs:List (Key×V)}:iV (.dK kvs):=⟨fun _ z=>(nomatch z),fun _ _ z=>(nomatch z)⟩
theorem jZ {kvs:List (List Key×V)}:iV (.dT kvs):=⟨fun _ z=>(nomatch z),fun _ _ z=>(nomatch z)⟩
theorem Me {o:Obj}{kvs:List (Key×V)}:iV (.bP o (.dK kvs)):=⟨fun _ z=>(nomatch z),fun _ _ z=>(nomatch z)⟩
theorem Mf {o:Obj}{kvs:List (List Key×V)}:iV (.bP o (.dT kvs)):=⟨fun _ z=>(nomatch z),fun _ _ z=>(nomatch z)⟩
theorem cI {H H' :Hp}{d:Addr}{u:HO}(e:H d=some u)(n:iV u)(k:aH d H H'):bg H H' :=fun b xs z=>by
 rcases z with z | ⟨o',z⟩
 ·exact .inl (k _ _ (fun c=>by rw [c,e] at z;cases z;exact n.1 _ rfl) z)
 ·exact .inr ⟨o',k _ _ (fun c=>by rw [c,e] at z;cases z;exact n.2 _ _ rfl) z⟩
theorem ID.ksG {H H' :Hp}{pins:List aF}{d dM:Addr}{u:HO}{kM:List (Key×V)}{M:Str→Rat×Rat}{N:Nat}(h:ID K H pins dM kM M N)(e:H d=some u)(n:iV u)(nd:dM≠d)(k:aH d H H'):ID K H' pins dM kM M N:=⟨k _ _ nd h.hM,h.keys,fun p hp=>by
 obtain ⟨t,v1,v2,a,b,c,c'⟩:=h.tM p hp
 exact ⟨t,v1,v2,a,k _ _ (fun z=>by rw [z,e] at b;cases b;exact n.1 _ rfl) b,c.aJ (cI e n k),c'.aJ (cI e n k)⟩,h.zb,h.hN⟩
def cJ (pins:List aF):List (Str×Nat):=pins.flatMap fun p=>[(p.nm,0),(p.nm,1)]
theorem dk:∀pins:List aF,(cJ pins).length=2*pins.length
 | []=>rfl
 | p::ps=>by
  have:=dk ps
  unfold cJ at this ⊢
  rw [adw,adp,this]
  simp
  omega
def f_ (H:Hp)(v:V)(x:Str×Nat):Prop:=∃t,v=.ref t∧H t=some (.tup [.str x.1,.int (x.2:Int)])
theorem f_.same {H H' :Hp}{v:V}{x:Str×Nat}(h:f_ H v x)(s:au H H'):f_ H' v x:=by
 obtain ⟨t,a,b⟩:=h
 exact ⟨t,a,s _ _ b⟩
theorem f_.ks {H H' :Hp}{v:V}{x:Str×Nat}{d:Addr}{u:HO}(h:f_ H v x)(e:H d=some u)(n:iV u)(k:aH d H H'):f_ H' v x:=by
 obtain ⟨t,a,b⟩:=h
 exact ⟨t,a,k _ _ (fun z=>by rw [z,e] at b;cases b;exact n.1 _ rfl) b⟩
inductive qD (K:Frag)(C:Addr)(vs:List V)(H:Hp)(Q:VK)(E_:XK):Prop where
 | mk (a:Addr) (pins:List aF) (aq:List bu) (_:vs=[.ref a]) (_:wg K H C a pins aq) (_:dN pins aq) (_:∀(r:Addr) (us:List V) (H' :Hp),au H H' →H r=none→H' r=some (.lst us)→Paired (f_ H') us (cJ pins)→Q (.ref r) H'):qD K C vs H Q E_
theorem vm (ps:List aF)(p:aF):cJ (ps++[p])=cJ ps++[(p.nm,0),(p.nm,1)]:=by
 unfold cJ
 rw [ad3]
 simp
theorem gC:aC ["F","pairs","pin"] ["F"] (af df):=sq
theorem tI {C:Addr}(D:Def K mg "pairs_of" df ["F"])(MP:bq P w K mg base (aS P w) 1 C "pins" ["self"] (e_ K C)):Fn P w K mg base (aS P w) 2 "pairs_of" ["F"] (qD K C):=by
 refine D.ok gC (fun vs H Q E h=> ?_) (fun f bj A outer s H vs Q E hr h=> ?_)
 ·obtain ⟨a,pins,aq,rfl,_⟩:=h
  rfl
 obtain ⟨a,pins,aq,rfl,R,g,q⟩:=h
 refine ⟨_,(ae (ax (i:=1) gC.nd rfl (adi rfl) (bG aa))
  (ae (bo PassesOwn.never rfl (bF (dw (k:=1) (pv 0) hr.mo (pY P w))) (aE (i:=2) gC.nd rfl (adi rfl)) (ak (bX (lh PySem.F.plainAttrs_list PySem.F.slot_list_extend PySem.F.type_list_extend xp (pv 1) (ar (bG (ar (aI (ar (pv 2) (ar ah aa))) (ar (aI (ar (pv 2) (ar ah aa))) aa))) aa)))))
  (ak (aG (pv 1))))),?_⟩
 refine ⟨(by show 0≤sizeLine;decide),?_⟩
 intro r nr;generalize eX:upd _ r _=H1;have ⟨s1,er⟩:=nw nr eX;clear eX
 have big:(40:Nat)≤sizeLine:=by decide
 have L2:2≤sizeLine:=by decide
 have gl:=g.lp
 have R1:=R.same s1
 obtain ⟨dx,pP,pW,pB,kP,kW,kB,F1,W1⟩:=R1.ex
 refine ⟨_,rfl,a,C,dx,_,_,_,rfl,F1.obj,rfl,MP,a,dx,pP,pW,pB,_,_,kP,kW,kB,rfl,F1,fun lp H2 s2 rE mZ=> ?_⟩
 rw [dQ] at mZ
 have Iu:lp≠r:=fun z=>by rw [z,er] at rE;cases rE
 refine ⟨lp,rfl,⟨_,aU.of mZ⟩,cv (K:=K) (a:=lp) (xs:=(pins.map (·.nm)).map V.str) (fun i σ H' =>∃(o2:Option V) (us:List V),σ=[some (.ref a),some (.ref r),o2]∧au H H' ∧H' lp=some (.lst ((pins.map (·.nm)).map V.str))∧H' r=some (.lst us)∧Paired (f_ H') us (cJ (pins.take i))) ⟨none,[],rfl,s1.trans s2,mZ,s2 _ _ er,.nil⟩ (fun i σ H' _ h=>by
   obtain ⟨_,_,_,_,h,_⟩:=h
   exact aU.of h) ?_ ?_⟩
 ·rintro i z σ H4 hi ⟨o2,us,rfl,s4,l4,r4,p4⟩
  rw [ir,ir] at hi
  obtain ⟨x,hx,rfl⟩:=adk.mp hi
  obtain ⟨p,hp,rfl⟩:=adk.mp hx
  have il:=(be.mp hp).1
  have lu:us.length≤18:=by
   have h1:=Paired.length p4
   rw [dk,adJ] at h1
   omega
  refine ⟨_,rfl,.inl ⟨rfl,_,aU.of r4⟩,_,rfl,L2,?_⟩
  intro t5 n5;generalize eX:upd _ t5 _=H5;have ⟨s5,e5⟩:=nw n5 eX;clear eX
  refine ⟨_,rfl,L2,?_⟩
  intro t6 n6;generalize eX:upd _ t6 _=H6;have ⟨s6,e6⟩:=nw n6 eX;clear eX
  refine ⟨L2,?_⟩
  intro l7 n7;generalize eX:upd _ l7 _=H7;have ⟨s7,e7⟩:=nw n7 eX;clear eX
  have J4:=s5.trans (s6.trans s7)
  have r7:=J4 _ _ r4
  refine ⟨r,l7,us,_,rfl,rfl,r7,e7,(by simp;omega),?_⟩
  have ks:aH r H7 (upd H7 r (.lst (us++[.ref t5,.ref t6]))):=aH.upd
  have nt:iV (.lst us):=⟨fun _ z=>(nomatch z),fun _ _ z=>(nomatch z)⟩
  refine ⟨_,us++[.ref t5,.ref t6],rfl,fun b o e=> ?_,?_,ag,?_⟩
  ·rw [aj (ao e nr)]
   exact J4 _ _ (s4 _ _ e)
  ·rw [aj Iu]
   exact J4 _ _ l4
  ·rw [take_snoc hp,vm]
   have p5:=dF (dF (Paired.bZ p4 fun _ _ z=>z.same J4) (show f_ H7 (.ref t5) (p.nm,0) from ⟨t5,rfl,(s6.trans s7) _ _ e5⟩)) (show f_ H7 (.ref t6) (p.nm,1) from ⟨t6,rfl,s7 _ _ e6⟩)
   rw [aeg,aeg] at p5
   exact Paired.bZ p5 fun _ _ z=>z.ks r7 nt ks
 ·rintro σ H4 ⟨o2,us,rfl,s4,l4,r4,p4⟩
  rw [Wp,Wp,adQ] at p4
  exact ⟨_,rfl,q r us H4 s4 nr r4 p4⟩
def gD (k:Nat)(q:Rat×Rat):Rat:=if k=0 then q.1 else q.2
def dO (pins:List aF)(M:Str→Rat×Rat):List Rat:=pins.flatMap fun p=>[(M p.nm).1,(M p.nm).2]
theorem fD (M:Str→Rat×Rat):∀pins:List aF,dO pins M=(cJ pins).map fun x=>gD x.2 (M x.1)
 | []=>rfl
 | p::ps=>by
  have ih:=fD M ps
  unfold dO cJ at ih ⊢
  rw [adw,adw,adv,ih]
  rfl
theorem y8 (M:Str→Rat×Rat)(pins:List aF):(dO pins M).length=2*pins.length:=by rw [fD,Wp,dk]
theorem tJ:∀{pins:List aF} {k:Nat} {p:aF},pins[k]? =some p→(cJ pins)[2*k]? =some (p.nm,0)∧(cJ pins)[2*k+1]? =some (p.nm,1)
 | q::ps,0,p,h=>by
  cases h
  exact ⟨rfl,rfl⟩
 | q::ps,k+1,p,h=>by
  have ih:=tJ (pins:=ps) (k:=k) (p:=p) (by simpa using h)
  exact ih
theorem oI {pins:List aF}{x:Str×Nat}(h:x∈cJ pins):x.1∈pins.map (·.nm)∧x.2≤1:=by
 unfold cJ at h
 obtain ⟨p,hp,h⟩:=adP.mp h
 rcases adz.mp h with e | h
 ·rw [e]
  exact ⟨ab_.mpr ⟨p,hp,rfl⟩,adL _⟩
 ·rw [adj.mp h]
  exact ⟨ab_.mpr ⟨p,hp,rfl⟩,adf _⟩
theorem wX:∀as bs:List Rat,sP as bs=sP bs as
 | [],[]=>rfl
 | [],_::_=>rfl
 | _::_,[]=>rfl
 | a::as,b::bs=>by
  rw [cP,cP,wX as bs]
  grind
theorem kQ {pins:List aF}(F:Str→Option (Rat×Rat))(M:Str→Rat×Rat):Ty.sumTo (2*pins.length) (fun j=>vl ((b_ F pins).getD j (0,1))*(dO pins M).getD j 0)=(pins.map fun p=>dt (mv F p.nm) (M p.nm)).sum:=by
 have:=DE (dO pins M) (b_ F pins) (by rw [y8,eE])
 rw [eE] at this
 rw [this,wX]
 exact qv F M pins
theorem y9 {pins:List aF}{aq:List bu}{qs:List (Int×Int)}(h:qs∈bJ pins aq):(∃p∈pins,∃w∈p.ws,qs=b_ (dJ p.nm w) pins)∨∃b∈aq,qs=b_ (dj b) pins:=by
 unfold bJ at h
 rcases adq.mp h with h | h
 ·obtain ⟨p,hp,h⟩:=adP.mp h
  unfold jA at h
  obtain ⟨w,hw,rfl⟩:=ab_.mp h
  exact .inl ⟨p,hp,w,hw,rfl⟩
 ·obtain ⟨b,hb,rfl⟩:=ab_.mp h
  exact .inr ⟨b,hb,rfl⟩
theorem oJ {pins:List aF}{aq:List bu}(g:dN pins aq)(M:Str→Rat×Rat):gB pins aq M ↔ ∀qs∈bJ pins aq,Ty.sumTo (2*pins.length) (fun j=>vl (qs.getD j (0,1))*(dO pins M).getD j 0)=0:=by
 constructor
 ·intro h qs hq
  rcases y9 hq with ⟨p,hp,w,hw,rfl⟩ | ⟨b,hb,rfl⟩
  ·rw [kQ,gO g.np hp]
   exact h.QE p hp w hw
  ·obtain ⟨m1,m2,m3⟩:=g.ends b hb
   rw [kQ,kN g.np b m1 m2 m3,h.aq b hb]
   grind
 ·intro h
  refine ⟨fun p hp w hw=> ?_,fun b hb=> ?_⟩
  ·have:=h (b_ (dJ p.nm w) pins) (by
    unfold bJ jA
    exact adK _ (adP.mpr ⟨p,hp,ab_.mpr ⟨w,hw,rfl⟩⟩))
   rw [kQ,gO g.np hp] at this
   exact this
  ·obtain ⟨m1,m2,m3⟩:=g.ends b hb
   have:=h (b_ (dj b) pins) (by
    unfold bJ
    exact adE _ (ab_.mpr ⟨b,hb,rfl⟩))
   rw [kQ,kN g.np b m1 m2 m3] at this
   grind
abbrev fT:=(Str×Nat)×(Str→Rat×Rat)
def oK (pins:List aF)(m:fT)(x:Nat×List (Int×Int)):Prop:=(cJ pins)[x.1]? =some m.1∧dO pins m.2=x.2.map vl
theorem map_getD (l:List (Int×Int))(i:Nat):(l.map vl).getD i 0=vl (l.getD i (0,1)):=by
 rw [ado,ado,ir]
 cases l[i]? with
 | none=>exact mL.symm
 | some q=>rfl
theorem y_ {pins:List aF}{aq:List bu}(g:dN pins aq){os lv:List (List Int)}{nd:List (Nat×List Int)}{Z:Nat}(nj:tF 50 50 (2*pins.length) (bJ pins aq) os)(R:Red os (2*pins.length) (2*pins.length) Z nd lv){x:Nat×List (Int×Int)}(F:dE x.1 (2*pins.length) nd.length nd x.2)(fr:∀y∈nd,y.1≠x.1)(hc:x.1 < 2*pins.length){M:Str→Rat×Rat}(e:dO pins M=x.2.map vl):gB pins aq M:=by
 have len:∀qs∈bJ pins aq,qs.length=2*pins.length:=fun qs hq=>(eF g qs hq).1
 refine (oJ g M).mpr fun qs hq=> ?_
 have:=(oH nj len _).mp (Va.sol R hc (dE.z R F) fr) qs hq
 refine Eq.trans ?_ this
 congr 1
 funext j
 rw [e,map_getD]
theorem DF {pins:List aF}{aq:List bu}(g:dN pins aq){os lv:List (List Int)}{nd:List (Nat×List Int)}{ss:List (Nat×List (Int×Int))}{Z:Nat}{ms:List fT}(nj:tF 50 50 (2*pins.length) (bJ pins aq) os)(R:Red os (2*pins.length) (2*pins.length) Z nd lv)(hc:ss.map (·.1)=(adY (2*pins.length)).filter (free nd))(hF:∀x∈ss,dE x.1 (2*pins.length) nd.length nd x.2)(pr:Paired (oK pins) ms ss){M:Str→Rat×Rat}(mo:gB pins aq M){j:Nat}(hj:j < 2*pins.length):(dO pins M).getD j 0=(ms.map fun m=>gD m.1.2 (M m.1.1)*(dO pins m.2).getD j 0).sum:=by
 have len:∀qs∈bJ pins aq,qs.length=2*pins.length:=fun qs hq=>(eF g qs hq).1
 have nodup:(ss.map (·.1)).Nodup:=by
  rw [hc]
  exact aeI.filter _
 have hz:∀o∈os,ev o (fun i=>(dO pins M).getD i 0)=0:=(oH nj len _).mpr fun qs hq=>(oJ g M).mp mo qs hq
 obtain ⟨gg,hg⟩:=QM (fun x=>vl (x.2.getD j (0,1))) nodup
 have key:=y6 (D:=fun i=>(dO pins M).getD i 0) R hc hF hz hj (g:=gg) (fun x hx q e=>by
  rw [hg x hx,ado,e]
  rfl)
 rw [← key]
 refine (mM (R:=fun m x=>x∈ss∧oK pins m x) (fun m x hx=> ?_) (jY pr)).symm
 obtain ⟨mx,e1,e2⟩:=hx
 rw [hg x mx,e2,map_getD]
 congr 1
 show _=(dO pins M).getD x.1 0
 rw [fD,ado,ir,e1]
 rfl
theorem DG {pins:List aF}{os lv:List (List Int)}{nd:List (Nat×List Int)}{Z:Nat}(R:Red os (2*pins.length) (2*pins.length) Z nd lv){x y:Nat×List (Int×Int)}{m n:fT}(F:dE x.1 (2*pins.length) nd.length nd x.2)(fr:∀z∈nd,z.1≠y.1)(hm:oK pins m x)(hn:oK pins n y):gD n.1.2 (m.2 n.1.1)=if x.1=y.1 then 1 else 0:=by
 have e:(dO pins m.2)[y.1]? =some (gD n.1.2 (m.2 n.1.1)):=by rw [fD,ir,hn.1];rfl
 have hy:y.1 < 2*pins.length:=by
  have:=(be.mp hn.1).1
  rw [dk] at this
  exact this
 rw [hm.2,ir] at e
 by_cases c:x.1=y.1
 ·rw [if_pos c, ← vk]
  rw [← c,F.2.1] at e
  exact (adB e).symm
 ·rw [if_neg c, ← mL]
  rw [F.2.2.2 y.1 hy (adG c) (fun i _ z ez=>fr z (aa_ ez))] at e
  exact (adB e).symm
def mN (K:Frag)(H:Hp)(pins:List aF)(N:Nat)(kv:List Key×V)(m:fT):Prop:=∃(dM:Addr) (kM:List (Key×V)),kv=([.inr m.1.1,.inl (m.1.2:Int)],.ref dM)∧ID K H pins dM kM m.2 N
theorem mN.same {H H' :Hp}{pins:List aF}{N:Nat}{kv:List Key×V}{m:fT}(h:mN K H pins N kv m)(s:au H H'):mN K H' pins N kv m:=by
 obtain ⟨dM,kM,a,b⟩:=h
 exact ⟨dM,kM,a,b.same s⟩
theorem mN.ks {H H' :Hp}{pins:List aF}{N:Nat}{kv:List Key×V}{m:fT}{d:Addr}{u:HO}(h:mN K H pins N kv m)(e:H d=some u)(n:iV u)(n2:∀kM,u≠.dK kM)(k:aH d H H'):mN K H' pins N kv m:=by
 obtain ⟨dM,kM,a,b⟩:=h
 refine ⟨dM,kM,a,b.ksG e n (fun z=> ?_) k⟩
 have:=b.hM
 rw [z,e] at this
 exact n2 _ (adB this)
structure fU (K:Frag)(H:Hp)(pins:List aF)(aq:List bu)(kvs:List (List Key×V))(ms:List fT)(N:Nat):Prop where
 pr:Paired (mN K H pins N) kvs ms
 nk:(kvs.map (·.1)).Nodup
 mo:∀m∈ms,gB pins aq m.2
 XN:∀m∈ms,m.1.1∈pins.map (·.nm)∧m.1.2≤1
 lm:ms.length≤18
 ones:∀(i j:Nat) (m n:fT),ms[i]? =some m→ms[j]? =some n→gD n.1.2 (m.2 n.1.1)=if i=j then 1 else 0
 only:∀M:Str→Rat×Rat,gB pins aq M→∀p∈pins,M p.nm=((ms.map fun m=>gD m.1.2 (M m.1.1)*(m.2 p.nm).1).sum,(ms.map fun m=>gD m.1.2 (M m.1.1)*(m.2 p.nm).2).sum)
theorem fU.same {H H' :Hp}{pins:List aF}{aq:List bu}{kvs:List (List Key×V)}{ms:List fT}{N:Nat}(h:fU K H pins aq kvs ms N)(s:au H H'):fU K H' pins aq kvs ms N:=⟨Paired.bZ h.pr fun _ _ z=>z.same s,h.nk,h.mo,h.XN,h.lm,h.ones,h.only⟩
theorem fU.work {H:Hp}{pins:List aF}{aq:List bu}{kvs:List (List Key×V)}{ms:List fT}{N:Nat}(h:fU K H pins aq kvs ms N){M:Str→Rat×Rat}(mo:gB pins aq M)(L:Str→Option (Rat×Rat)):b8 pins L M=(ms.map fun m=>gD m.1.2 (M m.1.1)*b8 pins L m.2).sum:=by
 unfold b8
 have e1:∀p∈pins,dt (mv L p.nm) (M p.nm)=(ms.map fun m=>gD m.1.2 (M m.1.1)*dt (mv L p.nm) (m.2 p.nm)).sum:=fun p hp=>by
  rw [h.only M mo p hp]
  generalize mv L p.nm=l
  clear h
  induction ms with
  | nil=>
   simp only [adZ,aeu]
   unfold dt
   grind
  | cons m ms ih=>
   simp only [ada,adF] at ih ⊢
   rw [← ih]
   unfold dt
   grind
 rw [ady e1,iT (fun (p:aF) (m:fT)=>gD m.1.2 (M m.1.1)*dt (mv L p.nm) (m.2 p.nm)) ms pins]
 congr 1
 refine ady fun m _=> ?_
 exact iU (gD m.1.2 (M m.1.1)) (fun p:aF=>dt (mv L p.nm) (m.2 p.nm)) pins
inductive vn (K:Frag)(C:Addr)(vs:List V)(H:Hp)(Q:VK)(E_:XK):Prop where
 | mk (a:Addr) (pins:List aF) (aq:List bu) (_:vs=[.ref a]) (_:wg K H C a pins aq) (_:dN pins aq) (_:∀(d:Addr) (kvs:List (List Key×V)) (ms:List fT) (H' :Hp),au H H' →H d=none→H' d=some (.dT kvs)→fU K H' pins aq kvs ms 20000→Q (.ref d) H'):vn K C vs H Q E_
theorem mO {α β:Type}{R:α→β→Prop}:∀{us:List α} {l:List β},Paired R us l→∀{i:Nat} {b:β},l[i]? =some b→∃u,us[i]? =some u∧R u b
 | _,_,.nil,i,b,e=>by simp at e
 | _,_,.cons h t,0,b,e=>by
  cases e
  exact ⟨_,rfl,h⟩
 | _,_,.cons h t,i+1,b,e=>by
  obtain ⟨u,a,c⟩:=mO t (i:=i) (b:=b) (by simpa using e)
  exact ⟨u,by simpa using a,c⟩
theorem za {pins:List aF}(np:(pins.map (·.nm)).Nodup):(cJ pins).Nodup:=by
 induction pins with
 | nil=>exact aeS
 | cons p ps ih=>
  rw [ada,adH] at np
  have e:cJ (p::ps)=[(p.nm,0),(p.nm,1)]++cJ ps:=rfl
  rw [e,aei]
  refine ⟨by simp,ih np.2,fun a ha b hb z=>np.1 ?_⟩
  have h1:=(oI hb).1
  rw [← z] at h1
  rcases adz.mp ha with y | y
  ·rw [y] at h1
   exact h1
  ·rw [adj.mp y] at h1
   exact h1
theorem cK:aC ["F","pairs","motions","column","numbers"] ["F"] (af cB):=sq
theorem nA {C:Addr}(D:Def K mg "motions_of" cB ["F"])(bw:mg "len"=none)
  (vo:Fn P w K mg base (aS P w) 2 "pairs_of" ["F"] (qD K C)) (L_:Fn P w K mg base (aS P w) 38 "draw_rows" ["F"] (fO K C)) (kg:Fn P w K mg base (aS P w) 36 "spare_columns" ["rows","many"] (mH K)) (Ma:Fn P w K mg base (aS P w) 2 "motion_from" ["F","numbers"] (iR K C)):
  Fn P w K mg base (aS P w) 39 "motions_of" ["F"] (vn K C):=by
 refine D.ok cK (fun vs H Q E h=> ?_) (fun f bj A outer s H vs Q E hr h=> ?_)
 ·obtain ⟨a,pins,aq,rfl,_⟩:=h
  rfl
 obtain ⟨a,pins,aq,rfl,R,g,q⟩:=h
 have gl:=g.lp
 have gb:=g.lb
 have wl:(pins.flatMap fun p=>p.ws).length≤2*pins.length:=iP pins g.lw
 have dl:(bJ pins aq).length=(pins.flatMap fun p=>p.ws).length+aq.length:=oC pins aq
 refine ⟨_,(ae (ax (i:=1) cK.nd rfl (adi rfl) (aD vo hr.mo pX (ar (pv 0) aa)))
  (ae (ax (i:=2) cK.nd rfl (adi rfl) AX)
  (ae (iE (bo PassesOwn.never rfl (iD (aD kg hr.mo pX (ar (aD L_ hr.mo pX (ar (pv 0) aa)) (ar (a8 aY rfl bw dA (ar (pv 1) aa)) aa)))) (eW rfl (aX (aE (i:=3) cK.nd rfl (adi rfl)) (aX (aE (i:=4) cK.nd rfl (adi rfl)) cN))) (ak (cV (cf hr) (pv 2) (bc a_ (pv 1) (pv 3) (fun _ _=>rfl)) (aD Ma hr.mo pX (ar (pv 0) (ar (pv 4) aa))) rfl))))
  (ak (aG (pv 2)))))),?_⟩
 refine ⟨_,rfl,a,pins,aq,rfl,R,g,fun r us H1 s1 nr er pr=> ?_⟩
 intro d CB;generalize eX:upd _ d _=H2;have ⟨s2,e2⟩:=nw CB eX;clear eX
 have CT:=s1.trans s2
 have lus:us.length=2*pins.length:=by rw [Paired.length pr,dk]
 refine ⟨_,rfl,a,pins,aq,rfl,R.same CT,g,fun rr ls bL H3 s3 nrr RR=> ?_⟩
 have r3:=s3 _ _ (s2 _ _ er)
 refine ⟨_,rfl,r,_,rfl,.inl (aU.of r3),?_⟩
 have sh:Shape 50 50 (2*pins.length) (bJ pins aq):=eF g
 have zz:bb (50+50*(2*pins.length)) (min (2*pins.length) (bJ pins aq).length)≤20000:=by
  unfold bb
  have h1:min (2*pins.length) (bJ pins aq).length+1≤19:=by omega
  have h2:50+50*(2*pins.length)+11≤961:=by omega
  exact adb (ad5 h1 h2) (by decide)
 refine ⟨rr,2*pins.length,ls,bL,bJ pins aq,50,50,20000,(by rw [lus];rfl),RR.jB,RR.num,sh,by omega,by omega,by decide,by omega,by decide,zz,by decide,fun sd qC ss os lv nd H6 s6 Nk IC hSp nj RZ JT hF=> ?_⟩
 have XO:=s3.trans s6
 have QN:=CT.trans XO
 have Nl:H sd=none:=(CT.trans s3).free Nk
 have Hd:H d=none:=s1.free CB
 have ed6:=XO _ _ e2
 have XQ:=s6 _ _ r3
 have QH:d≠sd:=fun z=>by
  have:=s3 _ _ e2
  rw [z,Nk] at this
  cases this
 refine ⟨sd,qC,rfl,IC,fun o=> ?_⟩
 have k0:aH sd H6 (upd H6 sd (.bP o (.dK qC))):=aH.upd
 have lsk:qC.length=ss.length:=hSp.1
 have Nf:ss.length≤2*pins.length:=by
  have:=congrArg aee JT
  rw [Wp] at this
  have h2:=aeD (free nd) (adY (2*pins.length))
  rw [alK] at h2
  omega
 have nodup:(ss.map (·.1)).Nodup:=by
  rw [JT]
  exact aeI.filter _
 have Vb:∀x∈ss,x.1 < 2*pins.length∧∀y∈nd,y.1≠x.1:=fun x mx=>by
  have:x.1∈ss.map (·.1):=ab_.mpr ⟨x,mx,rfl⟩
  rw [JT] at this
  obtain ⟨h1,h2⟩:=ad_.mp this
  exact ⟨ad1.mp h1,eG.mp h2⟩
 have pr6:Paired (f_ H6) us (cJ pins):=Paired.bZ pr fun _ _ z=>z.same (s2.trans XO)
 refine fm (d:=sd) (o:=o) (kvs:=qC) (fun t σ H' =>∃(o3 o4:Option V) (kvs:List (List Key×V)) (ms:List fT),σ=[some (.ref a),some (.ref r),some (.ref d),o3,o4]∧au H H' ∧H' r=some (.lst us)∧Paired (f_ H') us (cJ pins)∧DB K H' qC ss∧H' sd=some (.bP o (.dK qC))∧H' d=some (.dT kvs)∧Paired (mN K H' pins 20000) kvs ms∧Paired (oK pins) ms (ss.take t)∧(kvs.map (·.1)).Nodup) ⟨none,none,[],[],rfl,fun b o' e=>k0 _ _ (ao e Nl) (QN _ _ e),k0 _ _ (fun z=>by rw [z,IC] at XQ;cases XQ) XQ,Paired.bZ pr6 fun _ _ z=>z.ks IC wW k0,hSp.ks (.inl IC) k0,ag,k0 _ _ QH ed6,.nil,by simpa using Paired.nil,aeS⟩ (fun t σ H' _ h=>by
   obtain ⟨_,_,_,_,_,_,_,_,_,h,_⟩:=h
   exact h) ?_ ?_
 ·rintro t k y σ H7 p7 qd ⟨o3,o4,kvs,ms,rfl,s7,QO,XR,Vc,Vd,d7,QP,J5,XS⟩ n7
  have ht:t < qC.length:=(be.mp qd).1
  obtain ⟨x,ex⟩:∃x,ss[t]? =some x:=⟨_,gE (by omega)⟩
  have mx:=aa_ ex
  obtain ⟨ek,lx,xs,ey,hlx,hus⟩:=Vc.2 t (k,y) x qd ex
  have XT :k=.inl (x.1:Int):=ek
  have zB :y=.ref lx:=ey
  subst XT
  subst zB
  have t7:=ay n7 (.tup [kV (.inl (x.1:Int)),.ref lx])
  have e7:(upd H7 p7 (.tup [kV (.inl (x.1:Int)),.ref lx])) p7=some (.tup [kV (.inl (x.1:Int)),.ref lx]):=ag
  generalize upd H7 p7 (.tup [kV (.inl (x.1:Int)),.ref lx])=H8 at t7 e7 ⊢
  have s8:=s7.trans t7
  refine ⟨p7,_,rfl,bH.of e7,rfl,_,_,rfl,_,_,rfl,rfl,?_⟩
  obtain ⟨cx,fx⟩:=Vb x mx
  have Fx:=hF x mx
  have smx:=dE.XM RZ Fx
  have lxx:x.2.length=2*pins.length:=Fx.1
  refine ⟨_,rfl,_,rfl,a,lx,pins,aq,xs,x.2.map vl,rfl,R.same s8,g,t7 _ _ hlx,iS (hus.same t7) smx,by rw [Wp];exact lxx,fun M dM kM H9 s9 er9 nM hM kMk tM=> ?_⟩
  have al:dO pins M=x.2.map vl:=er9.symm
  have IE:=t7.trans s9
  have d9:=IE _ _ d7
  obtain ⟨pq,XU⟩:∃pq,(cJ pins)[x.1]? =some pq:=⟨_,gE (by rw [dk];exact cx)⟩
  obtain ⟨u,eu,tp,rfl,htp⟩:=mO XR XU
  have ht9:H9 tp=some (.tup (([.inr pq.1,.inl (pq.2:Int)]:List Key).map kV)):=IE _ _ htp
  have ai:i8 us (x.1:Int)=some (.ref tp):=cU eu
  have lk:kvs.length=ms.length:=Paired.length QP
  have lo:ms.length=t:=by
   have:=Paired.length J5
   rw [adJ] at this
   omega
  refine ⟨_,rfl,_,rfl,_,rfl,r,_,_,_,rfl,rfl,aU.of (IE _ _ QO),ai,d,_,rfl,gf.t d9 ht9 (adm (show kvs.length≤1000 by omega) (by decide)),?_⟩
  have hnm:([.inr pq.1,.inl (pq.2:Int)]:List Key)∉kvs.map (·.1):=fun z=>by
   obtain ⟨kv,QQ,QR⟩:=ab_.mp z
   obtain ⟨i,ei⟩:=adg QQ
   obtain ⟨m,em,dM',kM',Mg,_⟩:=aK QP ei
   obtain ⟨x',FN,rC⟩:=aK J5 em
   have hi:i < t:=by
    have:=(be.mp FN).1
    rw [adJ] at this
    omega
   rw [alN hi] at FN
   rw [Mg] at QR
   have ek2:([.inr m.1.1,.inl (m.1.2:Int)]:List Key)=[.inr pq.1,.inl (pq.2:Int)]:=QR
   injection ek2 with h1 h2
   injection h2 with h2 _
   have f1:m.1.1=pq.1:=ad4 h1
   have f2:m.1.2=pq.2:=by
    have:=alp h2
    omega
   have f3:m.1=pq:=alC f1 f2
   have e5:=rC.1
   rw [f3] at e5
   have e6:=ff (za g.np) e5 XU
   have f4:(ss.map (·.1))[t]? =some x.1:=by rw [ir,ex];rfl
   have f5:(ss.map (·.1))[i]? =some x.1:=by
    rw [ir,FN, ← e6]
    rfl
   have:=ff nodup f4 f5
   omega
  rw [cw _ (b6 hnm)]
  have ks:aH d H9 (upd H9 d (.dT (kvs++[([.inr pq.1,.inl (pq.2:Int)],.ref dM)]))):=aH.upd
  have zm:∀rr∈x.2.map vl,Zb 20000 rr:=fun rr hr=>by
   obtain ⟨q',ja,rfl⟩:=ab_.mp hr
   exact CZ (m:=0) (smx q' ja) (adf _) (adf _)
  have nw:mN K H9 pins 20000 ([.inr pq.1,.inl (pq.2:Int)],.ref dM) (pq,M):=⟨dM,kM,rfl,hM,kMk,tM,fun p hp=>by
   refine ⟨zm _ ?_,zm _ ?_⟩
   ·rw [← al]
    exact adP.mpr ⟨p,hp,adh⟩
   ·rw [← al]
    exact adP.mpr ⟨p,hp,ade _ adh⟩,by decide⟩
  have n2:∀kM',(HO.dT kvs)≠.dK kM' :=fun _ z=>nomatch z
  refine ⟨_,_,kvs++[([.inr pq.1,.inl (pq.2:Int)],.ref dM)],ms++[(pq,M)],rfl,fun b' o' e=> ?_,?_,Paired.bZ XR fun _ _ z=>(z.same IE).ks d9 jZ ks,?_,?_,ag,dF (Paired.bZ QP fun _ _ z=>(z.same IE).ks d9 jZ n2 ks) (nw.ks d9 jZ n2 ks),?_,?_⟩
  ·exact ks _ _ (ao e Hd) (s9 _ _ (s8 _ _ e))
  ·exact ks _ _ (fun z=>by rw [z,d7] at QO;cases QO) (IE _ _ QO)
  ·refine ⟨Vc.1,fun i kv x e1 e2=> ?_⟩
   obtain ⟨c1,c2,c3,c4,c5,c6⟩:=Vc.2 i kv x e1 e2
   exact ⟨c1,c2,c3,c4,ks _ _ (fun z=>by rw [z,d7] at c5;cases c5) (IE _ _ c5),(c6.same IE).aJ (cI d9 jZ ks)⟩
  ·exact ks _ _ (adG QH) (IE _ _ Vd)
  ·rw [take_snoc ex]
   exact dF J5 ⟨XU,al⟩
  ·rw [adv,aei]
   refine ⟨XS,by simp,fun a1 h1 b1 h2 z=>hnm ?_⟩
   have h3:b1=([.inr pq.1,.inl (pq.2:Int)]:List Key):=by simpa using h2
   rw [← h3, ← z]
   exact h1
 ·rintro σ H7 ⟨o3,o4,kvs,ms,rfl,s7,QO,XR,Vc,Vd,d7,QP,J5,XS⟩
  rw [lsk,adQ] at J5
  have kS:aH sd H7 (upd H7 sd (.dK qC)):=aH.upd
  have Ve:∀(i:Nat) (m:fT),ms[i]? =some m→∃x,ss[i]? =some x∧oK pins m x:=fun i m em=>aK J5 em
  refine ⟨sd,o,qC,Vd,fun o' u' z=>(by have z' :H sd=some (.bP o' u'):=z;rw [Nl] at z';cases z'),_,rfl,?_⟩
  refine q d kvs ms _ (fun b' o' e=>kS _ _ (ao e Nl) (s7 _ _ e)) Hd (kS _ _ QH d7) ⟨Paired.bZ QP fun kv m z=>z.ks Vd Me (fun _ z=>nomatch z) kS,XS,fun m hm=> ?_,fun m hm=> ?_,by have:=Paired.length J5;omega,fun i j m n em en=> ?_,fun M mo p hp=> ?_⟩
  ·obtain ⟨i,ei⟩:=adg hm
   obtain ⟨x,ex,hx⟩:=Ve i m ei
   have mx:=aa_ ex
   exact y_ g nj RZ (hF x mx) (Vb x mx).2 (Vb x mx).1 hx.2
  ·obtain ⟨i,ei⟩:=adg hm
   obtain ⟨x,ex,hx⟩:=Ve i m ei
   exact oI (aa_ hx.1)
  ·obtain ⟨x,ex,hx⟩:=Ve i m em
   obtain ⟨y,ey,hy⟩:=Ve j n en
   have mx:=aa_ ex
   have my:=aa_ ey
   rw [DG RZ (hF x mx) (Vb y my).2 hx hy]
   by_cases c:i=j
   ·subst c
    rw [ex] at ey
    cases ey
    rw [if_pos rfl,if_pos rfl]
   ·rw [if_neg c,if_neg (fun z=>c ?_)]
    have f1:(ss.map (·.1))[i]? =some x.1:=by rw [ir,ex];rfl
    have f2:(ss.map (·.1))[j]? =some x.1:=by rw [ir,ey,z];rfl
    exact ff nodup f1 f2
  ·obtain ⟨k,ek⟩:=adg hp
   have hk:=(be.mp ek).1
   obtain ⟨a0,a1⟩:=tJ ek
   have one:∀(j c:Nat),(cJ pins)[j]? =some (p.nm,c)→gD c (M p.nm)=(ms.map fun m=>gD m.1.2 (M m.1.1)*gD c (m.2 p.nm)).sum:=fun j c ej=>by
    have hj:j < 2*pins.length:=by
     have:=(be.mp ej).1
     rw [dk] at this
     exact this
    have at' :∀M' :Str→Rat×Rat,(dO pins M').getD j 0=gD c (M' p.nm):=fun M' =>by
     rw [fD,ado,ir,ej]
     rfl
    have key:=DF g nj RZ JT hF J5 mo hj
    rw [at'] at key
    rw [key]
    congr 1
    exact ady fun m _=>by rw [at']
   exact alC (one _ 0 a0) (one _ 1 a1)
def cell (ns:List Int)(k:Int):Int:=if k < (ns.length:Int) then (ns[k.toNat]?).getD 0 else ((((k+5)*(k+5)*48271).fmod 2147483647)*(((k+5)*(k+5)*48271).fmod 2147483647)).fmod 2147483629
theorem fV {x m:Int}(h:0 < m):0≤x.fmod m∧x.fmod m < m:=⟨aey x h,alB x h⟩
inductive jI (K:Frag)(vs:List V)(H:Hp)(Q:VK)(E_:XK):Prop where
 | mk (a:Addr) (ns:List Int) (k:Int) (_:vs=[.ref a,.int k]) (_:aU K H a (ns.map V.int)) (_:0≤k) (_:k≤1000) (_:Q (.int (cell ns k)) H):jI K vs H Q E_
theorem cell_in {ns:List Int}{k:Int}(h0:0≤k)(h:k < (ns.length:Int)):i8 (ns.map V.int) k=some (.int (cell ns k)):=by
 have hk:k.toNat < ns.length:=by omega
 have ek:k=((k.toNat:Nat):Int):=by omega
 have q:i8 (ns.map V.int) ((k.toNat:Nat):Int)=some (.int (cell ns k)):=cU (by
  unfold cell
  rw [if_pos h,ir,gE hk]
  rfl)
 rw [← ek] at q
 exact q
theorem fW {i:Int}{k:Nat}(h:i.natAbs < 2^k):intBits i≤k:=intBits_le_iff.mpr h
theorem ze {ns:List Int}(hb:∀i∈ns,intBits i≤1048576)(k:Int):intBits (cell ns k)≤1048576:=by
 unfold cell
 split
 ·cases e:ns[k.toNat]? with
  | none=>exact intBits_le_iff.mpr (by show 0 < 2^1048576;exact al3 _)
  | some v=>exact hb v (aa_ e)
 ·have:=fV (x:=((((k+5)*(k+5)*48271).fmod 2147483647)*(((k+5)*(k+5)*48271).fmod 2147483647))) (m:=2147483629) (by decide)
  exact adb (fW (k:=40) (by show _ < 1099511627776;omega)) (by decide)
theorem J7:aC ["_law_script","_law_k","_law_part"] ["_law_script","_law_k"] (af yq):=sq
theorem QS (D:Def K mg "_law_cell_at" yq ["_law_script","_law_k"])(bw:mg "len"=none):Fn P w K mg base CX 1 "_law_cell_at" ["_law_script","_law_k"] (jI K):=by
 refine D.ok J7 (fun vs H Q E h=> ?_) (fun f bj A outer s H vs Q E hr h=> ?_)
 ·obtain ⟨a,ns,k,rfl,_⟩:=h
  rfl
 obtain ⟨a,ns,k,rfl,hS,h0,h1,q⟩:=h
 refine ⟨_,(ae (bC (aL nR (pv 1) (a8 aY rfl bw dA (ar (pv 0) aa)) (aZ _)) (ak (aG (bc a_ (pv 0) (pv 1) (fun _ _=>rfl)))) aQ)
  (ae (ax (i:=2) J7.nd rfl (adi rfl) (aA dq (aA bN (aA bN (aA bx (pv 1) ah) (aA bx (pv 1) ah)) ah) ah))
  (ak (aG (aA dq (aA bN (pv 2) (pv 2)) ah))))),?_⟩
 have hl:(ns.map V.int).length=ns.length:=Wp _
 refine ⟨_,rfl,_,rfl,a,_,rfl,.inl hS,_,_,rfl,rfl,_,rfl,?_⟩
 refine bB (fun c=> ?_) (fun c=> ?_)
 ·have c' :k < (((ns.map V.int).length:Nat):Int):=of_decide_eq_true c
  rw [hl] at c'
  exact ⟨_,rfl,_,rfl,a,_,k,_,rfl,rfl,hS,cell_in h0 c',q⟩
 ·have c' :¬ k < (((ns.map V.int).length:Nat):Int):=of_decide_eq_false (ag_.mpr c)
  rw [hl] at c'
  have b5:intBits (k+5)≤11:=fW (by show _ < 2048;omega)
  have e1:=fV (x:=(k+5)*(k+5)*48271) (m:=2147483647) (by decide)
  have bp:intBits (((k+5)*(k+5)*48271).fmod 2147483647)≤31:=fW (by show _ < 2147483648;omega)
  refine ⟨_,rfl,_,_,rfl,rfl,_,rfl,_,_,rfl,rfl,_,_,rfl,rfl,⟨adb b5 (by decide),adb b5 (by decide)⟩,?_⟩
  refine ⟨_,_,rfl,rfl,⟨adb (intBits_mul_le b5 b5) (by decide),by decide+kernel⟩,_,_,rfl,rfl,nz (by decide),?_⟩
  refine ⟨_,rfl,_,rfl,_,_,rfl,rfl,⟨adb bp (by decide),adb bp (by decide)⟩,_,_,rfl,rfl,nz (by decide),?_⟩
  have e:cell ns k=((((k+5)*(k+5)*48271).fmod 2147483647)*(((k+5)*(k+5)*48271).fmod 2147483647)).fmod 2147483629:=by
   unfold cell
   rw [if_neg c']
  rw [e] at q
  exact q
def field (c p m:Int):Int:=(((c.fmod p+11)*48271).fmod p).fmod m
theorem aT {c p m:Int}(h:0 < m):0≤field c p m∧field c p m < m:=fV h
inductive dR (vs:List V)(H:Hp)(Q:VK)(E_:XK):Prop where
 | mk (c p m:Int) (_:vs=[.int c,.int p,.int m]) (_:0 < p) (_:p≤2000000) (_:0 < m) (_:Q (.int (field c p m)) H):dR vs H Q E_
theorem QT:aC ["_law_cell","_law_prime","_law_many"] ["_law_cell","_law_prime","_law_many"] (af yr):=sq
theorem QU (D:Def K mg "_law_field" yr ["_law_cell","_law_prime","_law_many"]):Fn P w K mg base CX 1 "_law_field" ["_law_cell","_law_prime","_law_many"] dR:=by
 refine D.ok QT (fun vs H Q E h=> ?_) (fun f bj A outer s H vs Q E hr h=> ?_)
 ·obtain ⟨c,p,m,rfl,_⟩:=h
  rfl
 obtain ⟨c,p,m,rfl,hp,Ox,hm,q⟩:=h
 refine ⟨_,(ak (aG (aA dq (aA dq (aA bN (aA bx (aA dq (pv 0) (pv 1)) ah) ah) (pv 1)) (pv 2)))),?_⟩
 have e1:=fV (x:=c) hp
 refine ⟨_,rfl,_,rfl,_,_,rfl,rfl,nz (by omega),_,_,rfl,rfl,_,_,rfl,rfl,⟨adb (fW (k:=22) (by show _ < 4194304;omega)) (by decide),by decide+kernel⟩,?_⟩
 exact ⟨_,rfl,_,_,rfl,rfl,nz (by omega),_,rfl,_,_,rfl,rfl,nz (by omega),q⟩
inductive cj (vs:List V)(H:Hp)(Q:VK)(E_:XK):Prop where
 | mk (t b:Int) (_:vs=[.int t,.int b]) (_:0 < b) (_:gives H Q (low t b)):cj vs H Q E_
theorem wY:aC ["_law_top","_law_bottom","_law_one","_law_other"] ["_law_top","_law_bottom"] (af yt):=sq
theorem QV (ht:P.given.tree=none)(D:Def K mg "_law_lowest" yt ["_law_top","_law_bottom"])(iH:mg "abs"=none):Fn P w K mg base (aS P w) 33 "_law_lowest" ["_law_top","_law_bottom"] cj:=by
 refine D.ok wY (fun vs H Q E h=> ?_) (fun f bj A outer s H vs Q E hr h=> ?_)
 ·obtain ⟨t,b,rfl,_⟩:=h
  rfl
 obtain ⟨t,b,rfl,hb,q⟩:=h
 refine ⟨_,(ae (ax (i:=2) wY.nd rfl (adi rfl) (a8 k9 rfl iH AJ (ar (pv 0) aa)))
  (ae (ax (i:=3) wY.nd rfl (adi rfl) (pv 1))
  (ae (kY PassesOwn.never (aL vN (pv 3) ah (aZ _)) (ak (KL (i:=2) (j:=3) rfl wY.nd rfl rfl (by decide) rfl rfl (ar (pv 3) (ar (aA dq (pv 2) (pv 3)) aa)) rfl)))
  (ak (aG (aI (ar (aA (eg ht (Ty.bV.py hr (by decide)) rfl rfl rfl rfl rfl) (pv 0) (pv 2)) (ar (aA (eg ht (Ty.bV.py hr (by decide)) rfl rfl rfl rfl rfl) (pv 1) (pv 2)) aa)))))))),?_⟩
 refine ⟨_,rfl,t,rfl,?_⟩
 refine ⟨_,rfl,?_⟩
 refine rL (fun σ H' =>∃x y:Int,σ=[some (.int t),some (.int b),some (.int x),some (.int y)]∧H' =H∧0≤x∧0≤y∧adW x y=adW t b) (fun σ _=>match σ with | [_,_,_,some (.int y)]=>y.natAbs | _=>0) ⟨_,b,rfl,rfl,?_,by omega,?_⟩ ?_ ?_
 ·split <;> omega
 ·split
  ·exact Int.neg_gcd
  ·rfl
 ·rintro σ H' ⟨x,y,rfl,rfl,hx,hy,g⟩
  refine ⟨_,rfl,rfl,_,rfl,?_⟩
  refine bB (fun c=> ?_) (fun c=> ?_)
  ·have yQ:y≠0:=by
    intro z
    subst z
    simp at c
   refine ⟨_,rfl,_,rfl,_,rfl,_,_,rfl,rfl,yQ,_,_,rfl,?_⟩
   exact ⟨⟨_,_,rfl,rfl,hy,aey _ (by omega),by rw [rS];exact g⟩,oa yQ⟩
  ·have yQ:y=0:=by
    have:=ag_.mpr c
    simp at this
    exact this
   subst yQ
   have e:x=sg t b:=by
    rw [ame] at g
    unfold sg
    rw [if_neg (by omega)]
    unfold gz
    rw [← g]
    omega
   subst e
   have hbn:b≠0:=by omega
   have c:=lE (t:=t) hbn
   refine ⟨_,rfl,_,rfl,_,_,rfl,rfl,c,_,rfl,_,rfl,_,_,rfl,rfl,c,(by show 2≤sizeLine;decide),fun p hp=> ?_⟩
   exact q p _ (ay hp _) ag
 ·rintro σ H' Q1 Q2 h ⟨v,e1,e2,k,ek,z⟩
  exact ⟨v,e1,e2,k,ek,h _ _ z⟩
structure Ns (n:Nat)(q:Int×Int):Prop where
 top:q.1.natAbs≤2^n
 bot:q.2.natAbs≤2^n
theorem Ns.up {m n:Nat}{q:Int×Int}(h:Ns m q)(l:m≤n):Ns n q:=⟨adb h.top (adA (by decide) l),adb h.bot (adA (by decide) l)⟩
def jJ (K:Frag)(H:Hp)(v:V)(n:Nat)(r:Rat):Prop:=∃q:Int×Int,jR K H v q∧0 < q.2∧vl q=r∧Ns n q
theorem jJ.same {H H' :Hp}{v:V}{n:Nat}{r:Rat}(h:jJ K H v n r)(s:au H H'):jJ K H' v n r:=by
 obtain ⟨q,h1,h2⟩:=h
 exact ⟨q,h1.same s,h2⟩
theorem jJ.aJ {H H' :Hp}{v:V}{n:Nat}{r:Rat}(h:jJ K H v n r)(s:bg H H'):jJ K H' v n r:=by
 obtain ⟨q,h1,h2⟩:=h
 exact ⟨q,h1.aJ s,h2⟩
theorem jJ.up {H:Hp}{v:V}{m n:Nat}{r:Rat}(h:jJ K H v m r)(l:m≤n):jJ K H v n r:=by
 obtain ⟨q,h1,h2,h3,h4⟩:=h
 exact ⟨q,h1,h2,h3,h4.up l⟩
theorem mP {H:Hp}{v:V}{n:Nat}{r:Rat}(h:fe K H v r)(z:Zb n r):jJ K H v n r:=⟨qr r,h,b7 r,eh r,⟨z.top,z.bot⟩⟩
theorem wZ {k n:Nat}{r:Rat}(h:Sz k r)(l:k≤n):Zb n r:=⟨aec (adx (intBits_le_iff.mp h.top) (adA (by decide) l)),aec (adx (intBits_le_iff.mp h.bot) (adA (by decide) l))⟩
theorem IF {q:Int×Int}(h:0 < q.2):q.1=0 ↔ vl q=0:=by
 unfold vl
 have z:((q.2:Int):Rat)≠0:=bW (adV h)
 constructor
 ·intro e
  rw [e]
  have:((0:Int):Rat)=0:=by rfl
  rw [this]
  grind
 ·intro e
  apply adN
  intro n
  have y:((q.1:Int):Rat)≠0:=bW n
  exact (by grind:¬ ((q.1:Int):Rat) / ((q.2:Int):Rat)=0) e
def gF (x y:Int×Int):Int×Int:=(x.1*y.2+y.1*x.2,x.2*y.2)
def nE (x y:Int×Int):Int×Int:=(x.1*y.1,x.2*y.2)
theorem dG {a b:Int}{m n:Nat}(h1:a.natAbs≤2^m)(h2:b.natAbs≤2^n):(a*b).natAbs≤2^(m+n):=by
 rw [aef,alq]
 exact ad5 h1 h2
theorem IG {x y:Int×Int}{m n:Nat}(hx:0 < x.2)(hy:0 < y.2)(zx:Ns m x)(zy:Ns n y):0 < (gF x y).2∧vl (gF x y)=vl x+vl y∧Ns (m+n+1) (gF x y):=by
 refine ⟨aes hx hy,?_,?_,?_⟩
 ·unfold vl gF
  have z1:((x.2:Int):Rat)≠0:=bW (adV hx)
  have z2:((y.2:Int):Rat)≠0:=bW (adV hy)
  push_cast
  grind
 ·have h1:=dG zx.top zy.bot
  have h2:=dG zy.top zx.bot
  rw [alX n m] at h2
  have h3:=aeF (x.1*y.2) (y.1*x.2)
  show (x.1*y.2+y.1*x.2).natAbs≤2^(m+n+1)
  rw [aeR]
  omega
 ·exact adb (dG zx.bot zy.bot) (adA (by decide) (by omega))
theorem IH {x y:Int×Int}{m n:Nat}(hx:0 < x.2)(hy:0 < y.2)(zx:Ns m x)(zy:Ns n y):0 < (nE x y).2∧vl (nE x y)=vl x*vl y∧Ns (m+n) (nE x y):=by
 refine ⟨aes hx hy,?_,dG zx.top zy.top,dG zx.bot zy.bot⟩
 unfold vl nE
 have z1:((x.2:Int):Rat)≠0:=bW (adV hx)
 have z2:((y.2:Int):Rat)≠0:=bW (adV hy)
 push_cast
 grind
inductive cQ (K:Frag)(f:Int×Int→Int×Int→Int×Int)(vs:List V)(H:Hp)(Q:VK)(E_:XK):Prop where
 | mk (u v:V) (x y:Int×Int) (m n:Nat) (_:vs=[u,v]) (_:jR K H u x) (_:jR K H v y) (_:Ns m x) (_:Ns n y) (_:m+n≤130000000) (_:gives H Q (f x y)):cQ K f vs H Q E_
theorem qE {H:Hp}{u v:V}{m n:Nat}{x y:Rat}{Q:VK}{E:XK}(h1:jJ K H u m x)(h2:jJ K H v n y)(l:m+n≤130000000)(k:∀(p:Addr) (H' :Hp),au H H' →jJ K H' (.ref p) (m+n+1) (x+y)→Q (.ref p) H'):cQ K gF [u,v] H Q E:=by
 obtain ⟨q1,a1,a2,a3,a4⟩:=h1
 obtain ⟨q2,b1,b2,b3,b4⟩:=h2
 obtain ⟨c1,c2,c3⟩:=IG a2 b2 a4 b4
 exact ⟨u,v,q1,q2,m,n,rfl,a1,b1,a4,b4,l,fun p H' s e=>k p H' s ⟨gF q1 q2,⟨p,rfl,bH.of e⟩,c1,by rw [c2,a3,b3],c3⟩⟩
theorem w4 {H:Hp}{u v:V}{m n:Nat}{x y:Rat}{Q:VK}{E:XK}(h1:jJ K H u m x)(h2:jJ K H v n y)(l:m+n≤130000000)(k:∀(p:Addr) (H' :Hp),au H H' →jJ K H' (.ref p) (m+n) (x*y)→Q (.ref p) H'):cQ K nE [u,v] H Q E:=by
 obtain ⟨q1,a1,a2,a3,a4⟩:=h1
 obtain ⟨q2,b1,b2,b3,b4⟩:=h2
 obtain ⟨c1,c2,c3⟩:=IH a2 b2 a4 b4
 exact ⟨u,v,q1,q2,m,n,rfl,a1,b1,a4,b4,l,fun p H' s e=>k p H' s ⟨nE q1 q2,⟨p,rfl,bH.of e⟩,c1,by rw [c2,a3,b3],c3⟩⟩
inductive iW (K:Frag)(vs:List V)(H:Hp)(Q:VK)(E_:XK):Prop where
 | mk (u:V) (x:Int×Int) (_:vs=[u]) (_:jR K H u x) (_:gives H Q (0 - x.1,x.2)):iW K vs H Q E_
theorem DH {H:Hp}{u:V}{m:Nat}{x:Rat}{Q:VK}{E:XK}(h1:jJ K H u m x)(k:∀(p:Addr) (H' :Hp),au H H' →jJ K H' (.ref p) m (-x)→Q (.ref p) H'):iW K [u] H Q E:=by
 obtain ⟨q1,a1,a2,a3,a4⟩:=h1
 refine ⟨u,q1,rfl,a1,fun p H' s e=>k p H' s ⟨(0 - q1.1,q1.2),⟨p,rfl,bH.of e⟩,a2,?_,?_,a4.bot⟩⟩
 ·rw [← a3]
  unfold vl
  push_cast
  grind
 ·have:=a4.top
  show (0 - q1.1).natAbs≤2^m
  omega
theorem QW:aC ["_law_one","_law_other"] ["_law_one","_law_other"] (af yu):=sq
theorem QX (D:Def K mg "_law_sum" yu ["_law_one","_law_other"]):Fn P w K mg base (aS P w) 1 "_law_sum" ["_law_one","_law_other"] (cQ K gF):=by
 refine D.ok QW (fun vs H Q E h=> ?_) (fun f bj A outer s H vs Q E hr h=> ?_)
 ·obtain ⟨u,v,x,y,m,n,rfl,_⟩:=h
  rfl
 obtain ⟨u,v,x,y,m,n,rfl,⟨p1,rfl,h1⟩,⟨p2,rfl,h2⟩,zx,zy,l,q⟩:=h
 refine ⟨_,(ak (aG (aI (ar (aA bx (aA gK (aR (pv 0)) (aR (pv 1))) (aA gK (aR (pv 1)) (aR (pv 0)))) (ar (aA gK (aR (pv 0)) (aR (pv 1))) aa))))),?_⟩
 refine ⟨_,rfl,p1,_,_,_,rfl,rfl,h1,gZ,_,rfl,p2,_,_,_,rfl,rfl,h2,ig,_,_,rfl,rfl,fo zx.top zy.bot (by omega),?_⟩
 refine ⟨_,rfl,p2,_,_,_,rfl,rfl,h2,gZ,_,rfl,p1,_,_,_,rfl,rfl,h1,ig,_,_,rfl,rfl,fo zy.top zx.bot (by omega),?_⟩
 refine ⟨_,_,rfl,rfl,?_⟩
 refine ⟨_,rfl,p1,_,_,_,rfl,rfl,h1,ig,_,rfl,p2,_,_,_,rfl,rfl,h2,ig,_,_,rfl,rfl,fo zx.bot zy.bot (by omega),(by show 2≤sizeLine;decide),?_⟩
 intro p3 n3;generalize eX:upd _ p3 _=H3;have ⟨s3,e3⟩:=nw n3 eX;clear eX
 exact q p3 H3 s3 e3
theorem QY:aC ["_law_one","_law_other"] ["_law_one","_law_other"] (af yv):=sq
theorem QZ (D:Def K mg "_law_times" yv ["_law_one","_law_other"]):Fn P w K mg base (aS P w) 1 "_law_times" ["_law_one","_law_other"] (cQ K nE):=by
 refine D.ok QY (fun vs H Q E h=> ?_) (fun f bj A outer s H vs Q E hr h=> ?_)
 ·obtain ⟨u,v,x,y,m,n,rfl,_⟩:=h
  rfl
 obtain ⟨u,v,x,y,m,n,rfl,⟨p1,rfl,h1⟩,⟨p2,rfl,h2⟩,zx,zy,l,q⟩:=h
 refine ⟨_,(ak (aG (aI (ar (aA gK (aR (pv 0)) (aR (pv 1))) (ar (aA gK (aR (pv 0)) (aR (pv 1))) aa))))),?_⟩
 refine ⟨_,rfl,p1,_,_,_,rfl,rfl,h1,gZ,_,rfl,p2,_,_,_,rfl,rfl,h2,gZ,_,_,rfl,rfl,fo zx.top zy.top (by omega),?_⟩
 refine ⟨_,rfl,p1,_,_,_,rfl,rfl,h1,ig,_,rfl,p2,_,_,_,rfl,rfl,h2,ig,_,_,rfl,rfl,fo zx.bot zy.bot (by omega),(by show 2≤sizeLine;decide),?_⟩
 intro p3 n3;generalize eX:upd _ p3 _=H3;have ⟨s3,e3⟩:=nw n3 eX;clear eX
 exact q p3 H3 s3 e3
theorem Q0:aC ["_law_one"] ["_law_one"] (af yw):=sq
theorem Q3 (D:Def K mg "_law_turned" yw ["_law_one"]):Fn P w K mg base (aS P w) 1 "_law_turned" ["_law_one"] (iW K):=by
 refine D.ok Q0 (fun vs H Q E h=> ?_) (fun f bj A outer s H vs Q E hr h=> ?_)
 ·obtain ⟨u,x,rfl,_⟩:=h
  rfl
 obtain ⟨u,x,rfl,⟨p1,rfl,h1⟩,q⟩:=h
 refine ⟨_,(ak (aG (aI (ar (aA c8 ah (aR (pv 0))) (ar (aR (pv 0)) aa))))),?_⟩
 refine ⟨_,rfl,p1,_,_,_,rfl,rfl,h1,gZ,_,_,rfl,rfl,_,rfl,p1,_,_,_,rfl,rfl,h1,ig,(by show 2≤sizeLine;decide),?_⟩
 intro p3 n3;generalize eX:upd _ p3 _=H3;have ⟨s3,e3⟩:=nw n3 eX;clear eX
 exact q p3 H3 s3 e3
def nameOf (st a k:Int):Str:=if st=0 then Txt.mul "p" (k+1) else if st=1 then Txt.mul "p" a++⟨#[(i8 (Str.ofString "bcdefghijklm").cps.toList k).getD 0]⟩++Txt.mul "p" (5 - a) else Txt.slice "12345" none (some a)++(toString k:String)
theorem tK:∀st:Fin 3,∀a:Fin 6,∀k:Fin 12,∀j:Fin 12,k≠j→nameOf (st.val:Int) (a.val:Int) (k.val:Int)≠nameOf (st.val:Int) (a.val:Int) (j.val:Int):=by decide+kernel
theorem Mh:∀n:Fin 20,MulOk "p" (n.val:Int):=by
 intro n
 unfold MulOk
 revert n
 decide+kernel
theorem Mi:∀k:Fin 12,i8 (Str.ofString "bcdefghijklm").cps.toList (k.val:Int)=some ((i8 (Str.ofString "bcdefghijklm").cps.toList (k.val:Int)).getD 0):=by decide+kernel
theorem DI:∀a:Fin 6,∀k:Fin 12,(Txt.mul "p" (a.val:Int)).length+(⟨#[(i8 (Str.ofString "bcdefghijklm").cps.toList (k.val:Int)).getD 0]⟩:Str).length≤1000∧
  (Txt.mul "p" (a.val:Int)++(⟨#[(i8 (Str.ofString "bcdefghijklm").cps.toList (k.val:Int)).getD 0]⟩:Str)).length+(Txt.mul "p" (5 - (a.val:Int))).length≤1000∧(Txt.slice "12345" none (some (a.val:Int))).length+(Str.ofString (toString (k.val:Int))).length≤1000:=by decide+kernel
inductive qF (vs:List V)(H:Hp)(Q:VK)(E_:XK):Prop where
 | mk (c k:Int) (_:vs=[.int c,.int k]) (_:0≤k) (_:k < 12) (_:Q (.str (nameOf (field c 3001 3) (field c 4001 6) k)) H):qF vs H Q E_
theorem DJ:aC ["_law_cell","_law_k","_law_style","_law_at"] ["_law_cell","_law_k"] (af u3):=sq
theorem Q4 (hM:rY CX)(D:Def K mg "_law_name" u3 ["_law_cell","_law_k"])(DK:mg "str"=none)(cL:Fn P w K mg base CX 1 "_law_field" ["_law_cell","_law_prime","_law_many"] dR):Fn P w K mg base CX 2 "_law_name" ["_law_cell","_law_k"] qF:=by
 refine D.ok DJ (fun vs H Q E h=> ?_) (fun f bj A outer s H vs Q E hr h=> ?_)
 ·obtain ⟨c,k,rfl,_⟩:=h
  rfl
 obtain ⟨c,k,rfl,h0,XW,q⟩:=h
 have px:=rZ (X:=j8 CX P w K mg base ["_law_cell","_law_k","_law_style","_law_at"] "_law_name" (af u3) f bj A outer s H E) hM
 refine ⟨_,(ae (ax (i:=2) DJ.nd rfl (adi rfl) (aD cL hr.mo px (ar (pv 0) (ar ah (ar ah aa)))))
  (ae (ax (i:=3) DJ.nd rfl (adi rfl) (aD cL hr.mo px (ar (pv 0) (ar ah (ar ah aa)))))
  (ae (bC (aL cZ (pv 2) ah (aZ _)) (ak (aG (aA pJ dH (aA bx (pv 1) ah)))) aQ)
  (ae (bC (aL cZ (pv 2) ah (aZ _)) (ak (aG (aA g8 (aA g8 (aA pJ dH (pv 3)) (bc KW dH (pv 1) (fun _ _=>rfl))) (aA pJ dH (aA c8 ah (pv 3)))))) aQ)
  (ak (aG (aA g8 (d6 K_ dH gH (eQ (pv 3))) (cz oV rfl DK Oe (ar (pv 1) aa))))))))),?_⟩
 have i1:=aT (c:=c) (p:=3001) (m:=3) (by decide)
 have i2:=aT (c:=c) (p:=4001) (m:=6) (by decide)
 refine ⟨_,rfl,_,_,_,rfl,by decide,by decide,by decide,?_⟩
 refine ⟨_,rfl,_,_,_,rfl,by decide,by decide,by decide,?_⟩
 generalize field c 3001 3=st at i1 q ⊢
 generalize field c 4001 6=a at i2 q ⊢
 obtain ⟨kn,rfl⟩:∃n:Nat,k=(n:Int):=⟨k.toNat,by omega⟩
 obtain ⟨an,rfl⟩:∃n:Nat,a=(n:Int):=⟨a.toNat,by omega⟩
 have mk:∀i:Int,0≤i→i < 20→MulOk "p" i:=fun i a b=>by
  have:=Mh ⟨i.toNat,by omega⟩
  rwa [show ((⟨i.toNat,by omega⟩:Fin 20).val:Int)=i by show ((i.toNat:Nat):Int)=i;omega] at this
 refine ⟨_,rfl,rfl,_,rfl,?_⟩
 refine bB (fun z=> ?_) (fun z=> ?_)
 ·have z' :st=0:=by simpa [m9] using z
  subst z'
  refine ⟨_,rfl,_,_,rfl,rfl,_,_,rfl,rfl,mk _ (by omega) (by omega),?_⟩
  exact q
 have z' :¬ st=0:=by simpa [m9] using z
 have nl:=DI ⟨an,by omega⟩ ⟨kn,by omega⟩
 refine ⟨_,rfl,rfl,_,rfl,?_⟩
 refine bB (fun z3=> ?_) (fun z3=> ?_)
 ·have XX :st=1:=by simpa [m9] using z3
  subst XX
  refine ⟨_,rfl,_,_,rfl,rfl,mk _ (by omega) (by omega),_,rfl,_,_,_,rfl,rfl,(by decide+kernel),Mi ⟨kn,by omega⟩,?_⟩
  refine ⟨_,_,rfl,rfl,adb nl.1 (by decide),_,rfl,_,_,rfl,rfl,_,_,rfl,rfl,mk _ (by omega) (by omega),_,_,rfl,rfl,adb nl.2.1 (by decide),?_⟩
  exact q
 ·have XX :¬ st=1:=by simpa [m9] using z3
  refine ⟨_,rfl,_,rfl,_,rfl,(by decide+kernel),?_⟩
  have lg:(kn:Int).natAbs.log2 < 1920:=adm (Nat.log2_le_self _) (by show kn < 1920;omega)
  refine ⟨_,rfl,_,rfl,lg,_,_,rfl,rfl,adb nl.2.2 (by decide),?_⟩
  have e:nameOf st (an:Int) (kn:Int)=Txt.slice "12345" none (some (an:Int))++Str.ofString (toString (kn:Int)):=by
   unfold nameOf
   rw [if_neg z',if_neg XX]
  rw [e] at q
  exact q
def ib (ws:List (Rat×Rat)):Prop:=ws=[]∨(∃x y:Rat,ws=[(x,y)]∧¬ (x=0∧y=0)∧Sz 22 x∧Sz 22 y)∨ws=[(1,0),(0,1)]
theorem vp {K:Frag}{H:Hp}{p:Addr}(i:Int)(h:H p=some (.tup [.int i,.int 1])):fe K H (.ref p) (i:Rat):=⟨p,rfl,by rw [l_];exact bH.of h⟩
theorem f' {K:Frag}{H:Hp}{p:Addr}{r:Rat}(h:H p=some (.tup [.int (qr r).1,.int (qr r).2])):fe K H (.ref p) r:=⟨p,rfl,bH.of h⟩
theorem j0 {K:Frag}{H:Hp}{p:Addr}{u v:V}{r s:Rat}(h:H p=some (.tup [u,v]))(h1:fe K H u r)(h2:fe K H v s):d0 K H (.ref p) (r,s):=⟨p,u,v,rfl,bH.of h,h1,h2⟩
theorem iX {k:Nat}{i:Int}(h:i.natAbs < 1048576)(hk:20≤k):Sz k (i:Rat):=uQ (adx h (show 2^20≤2^k from adA (by decide) hk)) (by omega)
theorem gP {t b:Int}(h:0 < b)(h1:t.natAbs < 1048576)(h2:b < 1048576):Sz 20 ((t:Rat) / (b:Rat)):=uP (adV h) (intBits_le_iff.mpr (by show _ < 1048576;omega)) (intBits_le_iff.mpr (by show _ < 1048576;omega))
theorem DL {i:Int}(h:i≤500002):(i:Rat)≤500002:=by
 have:=ah_.mpr h
 simpa using this
theorem w6 {t b:Int}(hb:0 < b)(h:t≤500002):(t:Rat) / (b:Rat)≤500002:=by
 have fG :(0:Rat) < (b:Rat):=by
  have:=Rat.intCast_lt_intCast.mpr hb
  simpa using this
 have h1:t≤500002*b:=by
  have:(500002:Int)*1≤500002*b:=Int.mul_le_mul_of_nonneg_left (by omega) (by decide)
  omega
 have h2:(t:Rat)≤500002*(b:Rat):=by
  have:=ah_.mpr h1
  simpa using this
 have e:(t:Rat) / (b:Rat)*(b:Rat)=(t:Rat):=by
  have zv:(b:Rat)≠0:=by grind
  grind
 generalize (t:Rat) / (b:Rat)=z at e
 by_cases c:z≤500002
 ·exact c
 ·have c' :500002 < z:=by grind
  have:=Rat.mul_lt_mul_of_pos_right c' fG
  grind
inductive qG (K:Frag)(vs:List V)(H:Hp)(Q:VK)(E_:XK):Prop where
 | mk (c k:Int) (_:vs=[.int c,.int k]) (_:∀(p:Addr) (x y:Rat) (H' :Hp),au H H' →Sz 20 x→Sz 20 y→x≤500002→d0 K H' (.ref p) (x,y)→Q (.ref p) H'):qG K vs H Q E_
theorem DM:aC ["_law_cell","_law_kind","_law_x"] ["_law_cell","_law_kind"] (af yx):=sq
theorem Q6 (D:Def K mg "_law_spot" yx ["_law_cell","_law_kind"])(cL:Fn P w K mg base (aS P w) 1 "_law_field" ["_law_cell","_law_prime","_law_many"] dR)(kh:Fn P w K mg base (aS P w) 33 "_law_lowest" ["_law_top","_law_bottom"] cj):Fn P w K mg base (aS P w) 34 "_law_spot" ["_law_cell","_law_kind"] (qG K):=by
 refine D.ok DM (fun vs H Q E h=> ?_) (fun f bj A outer s H vs Q E hr h=> ?_)
 ·obtain ⟨c,k,rfl,_⟩:=h
  rfl
 obtain ⟨c,k,rfl,q⟩:=h
 have L2:2≤sizeLine:=by decide
 refine ⟨_,(ae (bC (aL cZ (pv 1) ah (aZ _)) (ak (aG (aI (ar (aI (ar (aD cL hr.mo pX (ar (pv 0) (ar ah (ar ah aa)))) (ar ah aa))) (ar (aI (ar (aD cL hr.mo pX (ar (pv 0) (ar ah (ar ah aa)))) (ar ah aa))) aa))))) aQ)
  (ae (bC (aL cZ (pv 1) ah (aZ _)) (ae (ax (i:=2) DM.nd rfl (adi rfl) (aD kh hr.mo pX (ar (aA c8 (aD cL hr.mo pX (ar (pv 0) (ar ah (ar ah aa)))) ah) (ar (aA bx ah (aD cL hr.mo pX (ar (pv 0) (ar ah (ar ah aa))))) aa))))
   (ak (aG (aI (ar (pv 2) (ar (aD kh hr.mo pX (ar (aA c8 (aD cL hr.mo pX (ar (pv 0) (ar ah (ar ah aa)))) ah) (ar (aA bx ah (aD cL hr.mo pX (ar (pv 0) (ar ah (ar ah aa))))) aa))) aa)))))) aQ)
  (ae (ax (i:=2) DM.nd rfl (adi rfl) (aD kh hr.mo pX (ar (aA c8 (aD cL hr.mo pX (ar (pv 0) (ar ah (ar ah aa)))) ah) (ar (aA bx ah (aD cL hr.mo pX (ar (pv 0) (ar ah (ar ah aa))))) aa))))
  (ak (aG (aI (ar (pv 2) (ar (aD kh hr.mo pX (ar (aA c8 (aD cL hr.mo pX (ar (pv 0) (ar ah (ar ah aa)))) ah) (ar (aA bx ah (aD cL hr.mo pX (ar (pv 0) (ar ah (ar ah aa))))) aa))) aa)))))))),?_⟩
 refine ⟨_,rfl,rfl,_,rfl,?_⟩
 refine bB (fun _=> ?_) (fun _=> ?_)
 ·have i1:=aT (c:=c) (p:=1009) (m:=4) (by decide)
  have i2:=aT (c:=c) (p:=2003) (m:=4) (by decide)
  refine ⟨_,rfl,_,_,_,rfl,by decide,by decide,by decide,L2,?_⟩
  intro p1 n1;generalize eX:upd _ p1 _=H1;have ⟨s1,e1⟩:=nw n1 eX;clear eX
  refine ⟨_,rfl,_,_,_,rfl,by decide,by decide,by decide,L2,?_⟩
  intro p2 n2;generalize eX:upd _ p2 _=H2;have ⟨s2,e2⟩:=nw n2 eX;clear eX
  refine ⟨L2,?_⟩
  intro p3 n3;generalize eX:upd _ p3 _=H3;have ⟨s3,e3⟩:=nw n3 eX;clear eX
  exact q p3 _ _ H3 ((s1.trans s2).trans s3) (iX (by omega) (by decide)) (iX (by omega) (by decide)) (DL (by omega)) (j0 e3 (((vp _ e1).same s2).same s3) ((vp _ e2).same s3))
 refine ⟨_,rfl,rfl,_,rfl,?_⟩
 refine bB (fun _=> ?_) (fun _=> ?_)
 ·have i1:=aT (c:=c) (p:=1009) (m:=13) (by decide)
  have i2:=aT (c:=c) (p:=3001) (m:=3) (by decide)
  have i3:=aT (c:=c) (p:=2003) (m:=13) (by decide)
  have i4:=aT (c:=c) (p:=4001) (m:=2) (by decide)
  refine ⟨_,rfl,_,_,_,rfl,by decide,by decide,by decide,_,_,rfl,rfl,_,rfl,_,_,_,rfl,by decide,by decide,by decide,_,_,rfl,rfl,_,_,rfl,by omega,fun p1 H1 s1 e1=> ?_⟩
  rw [de (by omega)] at e1
  refine ⟨_,rfl,_,rfl,_,_,_,rfl,by decide,by decide,by decide,_,_,rfl,rfl,_,rfl,_,_,_,rfl,by decide,by decide,by decide,_,_,rfl,rfl,_,_,rfl,by omega,fun p2 H2 s2 e2=>⟨L2,?_⟩⟩
  rw [de (by omega)] at e2
  intro p3 n3;generalize eX:upd _ p3 _=H3;have ⟨s3,e3⟩:=nw n3 eX;clear eX
  exact q p3 _ _ H3 ((s1.trans s2).trans s3) (gP (by omega) (by omega) (by omega)) (gP (by omega) (by omega) (by omega)) (w6 (by omega) (by omega)) (j0 e3 (((f' e1).same s2).same s3) ((f' e2).same s3))
 ·have i1:=aT (c:=c) (p:=1000003) (m:=1000003) (by decide)
  have i2:=aT (c:=c) (p:=3001) (m:=997) (by decide)
  have i3:=aT (c:=c) (p:=1000033) (m:=1000003) (by decide)
  have i4:=aT (c:=c) (p:=4001) (m:=997) (by decide)
  refine ⟨_,rfl,_,_,_,rfl,by decide,by decide,by decide,_,_,rfl,rfl,_,rfl,_,_,_,rfl,by decide,by decide,by decide,_,_,rfl,rfl,_,_,rfl,by omega,fun p1 H1 s1 e1=> ?_⟩
  rw [de (by omega)] at e1
  refine ⟨_,rfl,_,rfl,_,_,_,rfl,by decide,by decide,by decide,_,_,rfl,rfl,_,rfl,_,_,_,rfl,by decide,by decide,by decide,_,_,rfl,rfl,_,_,rfl,by omega,fun p2 H2 s2 e2=>⟨L2,?_⟩⟩
  rw [de (by omega)] at e2
  intro p3 n3;generalize eX:upd _ p3 _=H3;have ⟨s3,e3⟩:=nw n3 eX;clear eX
  exact q p3 _ _ H3 ((s1.trans s2).trans s3) (gP (by omega) (by omega) (by omega)) (gP (by omega) (by omega) (by omega)) (w6 (by omega) (by omega)) (j0 e3 (((f' e1).same s2).same s3) ((f' e2).same s3))
inductive qH (K:Frag)(vs:List V)(H:Hp)(Q:VK)(E_:XK):Prop where
 | mk (c:Int) (_:vs=[.int c]) (_:∀(l:Addr) (us:List V) (ws:List (Rat×Rat)) (H' :Hp),ib ws→au H H' →H l=none→H' l=some (.lst us)→gS K H' us ws→Q (.ref l) H'):qH K vs H Q E_
theorem II {r:Rat}:(qr r).1=0 ↔ r=0:=⟨qm,fun e=>by rw [e,cg]⟩
theorem tN:aC ["_law_cell","_law_kind","_law_x","_law_y"] ["_law_cell"] (af yy):=sq
theorem Q7 (D:Def K mg "_law_ways" yy ["_law_cell"])(cL:Fn P w K mg base (aS P w) 1 "_law_field" ["_law_cell","_law_prime","_law_many"] dR)(kh:Fn P w K mg base (aS P w) 33 "_law_lowest" ["_law_top","_law_bottom"] cj):Fn P w K mg base (aS P w) 34 "_law_ways" ["_law_cell"] (qH K):=by
 refine D.ok tN (fun vs H Q E h=> ?_) (fun f bj A outer s H vs Q E hr h=> ?_)
 ·obtain ⟨c,rfl,_⟩:=h
  rfl
 obtain ⟨c,rfl,q⟩:=h
 have L0:0≤sizeLine:=by decide
 have L1:1≤sizeLine:=by decide
 have L2:2≤sizeLine:=by decide
 refine ⟨_,(ae (ax (i:=1) tN.nd rfl (adi rfl) (aD cL hr.mo pX (ar (pv 0) (ar ah (ar ah aa)))))
  (ae (bC (aL nR (pv 1) ah (aZ _)) (ak (aG (bG aa))) aQ)
  (ae (bC (aL nR (pv 1) ah (aZ _)) (ak (aG (bG (ar (aI (ar (aI (ar ah (ar ah aa))) (ar (aI (ar ah (ar ah aa))) aa))) (ar (aI (ar (aI (ar ah (ar ah aa))) (ar (aI (ar ah (ar ah aa))) aa))) aa))))) aQ)
  (ae (ax (i:=2) tN.nd rfl (adi rfl) (aD kh hr.mo pX (ar (aA c8 (aD cL hr.mo pX (ar (pv 0) (ar ah (ar ah aa)))) ah) (ar (aA bx ah (aD cL hr.mo pX (ar (pv 0) (ar ah (ar ah aa))))) aa))))
  (ae (ax (i:=3) tN.nd rfl (adi rfl) (aD kh hr.mo pX (ar (aA c8 (aD cL hr.mo pX (ar (pv 0) (ar ah (ar ah aa)))) ah) (ar (aA bx ah (aD cL hr.mo pX (ar (pv 0) (ar ah (ar ah aa))))) aa))))
  (ae (bC (PW.pt (zN (aL cZ (aR (pv 2)) ah (aZ _)) (vH (aL cZ (aR (pv 3)) ah (aZ _))))) (ak (ax (i:=3) tN.nd rfl (adi rfl) (aI (ar ah (ar ah aa))))) aQ)
  (ak (aG (bG (ar (aI (ar (pv 2) (ar (pv 3) aa))) aa)))))))))),?_⟩
 refine ⟨_,rfl,_,_,_,rfl,by decide,by decide,by decide,?_⟩
 refine ⟨_,rfl,_,_,rfl,rfl,_,rfl,?_⟩
 refine bB (fun _=> ?_) (fun _=> ?_)
 ·refine ⟨L0,?_⟩
  intro l nl;generalize eX:upd _ l _=H1;have ⟨s1,e1⟩:=nw nl eX;clear eX
  exact q l [] [] H1 (.inl rfl) s1 nl e1 .nil
 refine ⟨_,rfl,_,_,rfl,rfl,_,rfl,?_⟩
 refine bB (fun _=> ?_) (fun _=> ?_)
 ·refine ⟨L2,?_⟩
  intro p1 n1;generalize eX:upd _ p1 _=H1;have ⟨s1,e1⟩:=nw n1 eX;clear eX
  refine ⟨L2,?_⟩
  intro p2 n2;generalize eX:upd _ p2 _=H2;have ⟨s2,e2⟩:=nw n2 eX;clear eX
  refine ⟨L2,?_⟩
  intro p3 n3;generalize eX:upd _ p3 _=H3;have ⟨s3,e3⟩:=nw n3 eX;clear eX
  refine ⟨L2,?_⟩
  intro p4 n4;generalize eX:upd _ p4 _=H4;have ⟨s4,e4⟩:=nw n4 eX;clear eX
  refine ⟨L2,?_⟩
  intro p5 n5;generalize eX:upd _ p5 _=H5;have ⟨s5,e5⟩:=nw n5 eX;clear eX
  refine ⟨L2,?_⟩
  intro p6 n6;generalize eX:upd _ p6 _=H6;have ⟨s6,e6⟩:=nw n6 eX;clear eX
  refine ⟨L2,?_⟩
  intro p7 n7;generalize eX:upd _ p7 _=H7;have ⟨s7,e7⟩:=nw n7 eX;clear eX
  have sh:=s1.trans (s2.trans (s3.trans (s4.trans (s5.trans s6))))
  have w1:d0 K H7 (.ref p3) (1,0):=tw qt cg (s7 _ _ (s6 _ _ (s5 _ _ (s4 _ _ e3)))) (s7 _ _ (s6 _ _ (s5 _ _ (s4 _ _ (s3 _ _ (s2 _ _ e1)))))) (s7 _ _ (s6 _ _ (s5 _ _ (s4 _ _ (s3 _ _ e2)))))
  have w2:d0 K H7 (.ref p6) (0,1):=tw cg qt (s7 _ _ e6) (s7 _ _ (s6 _ _ (s5 _ _ e4))) (s7 _ _ (s6 _ _ e5))
  exact q p7 _ [(1,0),(0,1)] _ (.inr (.inr rfl)) (sh.trans s7) (sh.free n7) e7 (.cons w1 (.cons w2 .nil))
 have i1:=aT (c:=c) (p:=6007) (m:=7) (by decide)
 have i2:=aT (c:=c) (p:=7001) (m:=3) (by decide)
 have i3:=aT (c:=c) (p:=8009) (m:=7) (by decide)
 have i4:=aT (c:=c) (p:=9001) (m:=2) (by decide)
 refine ⟨_,rfl,_,_,_,rfl,by decide,by decide,by decide,_,_,rfl,rfl,_,rfl,_,_,_,rfl,by decide,by decide,by decide,_,_,rfl,rfl,_,_,rfl,by omega,fun p1 H1 s1 e1=> ?_⟩
 rw [de (by omega)] at e1
 refine ⟨_,rfl,_,_,_,rfl,by decide,by decide,by decide,_,_,rfl,rfl,_,rfl,_,_,_,rfl,by decide,by decide,by decide,_,_,rfl,rfl,_,_,rfl,by omega,fun p2 H2 s2 e2=> ?_⟩
 rw [de (by omega)] at e2
 have z1:=gP (t:=field c 6007 7 - 3) (b:=1+field c 7001 3) (by omega) (by omega) (by omega)
 have z2:=gP (t:=field c 8009 7 - 3) (b:=1+field c 9001 2) (by omega) (by omega) (by omega)
 generalize ((field c 6007 7 - 3:Int):Rat) / ((1+field c 7001 3:Int):Rat)=x at e1 z1 ⊢
 generalize ((field c 8009 7 - 3:Int):Rat) / ((1+field c 9001 2:Int):Rat)=y at e2 z2 ⊢
 have xw :=s2 _ _ e1
 have zD:=s1.trans s2
 have fin:∀(v:V) (y' :Rat) (H3:Hp),au H2 H3→fe K H3 v y' →Sz 22 y' →¬ (x=0∧y' =0)→∀(p:Addr) (l:Addr) (H5:Hp),au H3 H5→H3 l=none→H5 p=some (.tup [.ref p1,v])→H5 l=some (.lst [.ref p])→Q (.ref l) H5:=fun v y' H3 s3 hv zy hn p l H5 s5 nl ep el=>
  q l [.ref p] [(x,y')] H5 (.inr (.inl ⟨x,y',rfl,hn,z1.up (by decide),zy⟩)) (zD.trans (s3.trans s5)) ((zD.trans s3).free nl) el (.cons (j0 ep (((f' xw).same s3).same s5) (hv.same s5)) .nil)
 refine ⟨_,rfl,p1,_,_,_,rfl,rfl,bH.of xw,gZ,rfl,_,rfl,?_⟩
 refine bB (fun c1=> ?_) (fun c1=> ?_)
 ·have c1' :x=0:=II.mp (by simpa using of_decide_eq_true c1)
  refine ⟨_,rfl,p2,_,_,_,rfl,rfl,bH.of e2,gZ,rfl,_,rfl,?_⟩
  refine bB (fun c2=> ?_) (fun c2=> ?_)
  ·refine ⟨L2,?_⟩
   intro p3 n3;generalize eX:upd _ p3 _=H3;have ⟨s3,e3⟩:=nw n3 eX;clear eX
   refine ⟨_,rfl,_,rfl,L2,?_⟩
   intro p4 n4;generalize eX:upd _ p4 _=H4;have ⟨s4,e4⟩:=nw n4 eX;clear eX
   refine ⟨L1,?_⟩
   intro l5 n5;generalize eX:upd _ l5 _=H5;have ⟨s5,e5⟩:=nw n5 eX;clear eX
   exact fin (.ref p3) 1 H3 s3 (vp 1 e3) (iX (i:=1) (by decide) (by decide)) (fun z=>absurd z.2 (by decide)) p4 l5 H5 (s4.trans s5) (s4.free n5) (s5 _ _ e4) e5
  ·have c2' :¬ y=0:=fun z=>c2 (by rw [z,cg];decide)
   refine ⟨_,rfl,_,rfl,L2,?_⟩
   intro p4 n4;generalize eX:upd _ p4 _=H4;have ⟨s4,e4⟩:=nw n4 eX;clear eX
   refine ⟨L1,?_⟩
   intro l5 n5;generalize eX:upd _ l5 _=H5;have ⟨s5,e5⟩:=nw n5 eX;clear eX
   exact fin (.ref p2) y H2 (au.refl _) (f' e2) (z2.up (by decide)) (fun z=>c2' z.2) p4 l5 H5 (s4.trans s5) (s4.free n5) (s5 _ _ e4) e5
 ·have c1' :¬ x=0:=fun z=>c1 (by rw [z,cg];decide)
  refine N_ ?_
  refine ⟨_,rfl,_,rfl,L2,?_⟩
  intro p4 n4;generalize eX:upd _ p4 _=H4;have ⟨s4,e4⟩:=nw n4 eX;clear eX
  refine ⟨L1,?_⟩
  intro l5 n5;generalize eX:upd _ l5 _=H5;have ⟨s5,e5⟩:=nw n5 eX;clear eX
  exact fin (.ref p2) y H2 (au.refl _) (f' e2) (z2.up (by decide)) (fun z=>c1' z.1) p4 l5 H5 (s4.trans s5) (s4.free n5) (s5 _ _ e4) e5
inductive iY (K:Frag)(H:Hp)(d:Addr)(v:V)(p:aF):Prop where
 | mk (a l:Addr) (s:V) (us:List V) (_:v=.ref a) (_:bH K H a [.str p.nm,s,.ref l]) (_:d0 K H s p.sp) (_:H l=some (.lst us)) (_:gS K H us p.ws) (_:l≠d):iY K H d v p
inductive nF (K:Frag)(H:Hp)(v:V)(p:aF):Prop where
 | mk (a l:Addr) (s:V) (us:List V) (_:v=.ref a) (_:bH K H a [.str p.nm,s,.ref l]) (_:d0 K H s p.sp) (_:H l=some (.lst us)) (_:gS K H us p.ws):nF K H v p
inductive qI (K:Frag)(H:Hp)(pins:List aF)(v:V)(b:bu):Prop where
 | mk (a:Addr) (i j:Nat) (_:v=.ref a) (_:bH K H a [.str b.nm,.int (i:Int),.int (j:Int)]) (_:pins[i]? =some b.one) (_:pins[j]? =some b.other):qI K H pins v b
section
variable {K:Frag}{H H' :Hp}{v:V}{p:aF}{d:Addr}
theorem iY.same (h:iY K H d v p)(s:au H H'):iY K H' d v p:=by
 obtain ⟨a,l,sv,us,e,h1,h2,h3,h4,h5⟩:=h
 exact ⟨a,l,sv,us,e,Ty.au.fK s h1,h2.same s,s _ _ h3,h4.same s,h5⟩
theorem iY.upd {xs:List V}{o:HO}(h:iY K H d v p)(e:H d=some (.lst xs)):iY K (L2.upd H d o) d v p:=by
 obtain ⟨a,l,sv,us,ev,h1,h2,h3,h4,h5⟩:=h
 have t:bg H (L2.upd H d o):=.list e
 exact ⟨a,l,sv,us,ev,t.fK h1,h2.aJ t,by rw [aj h5];exact h3,h4.aJ t,h5⟩
theorem iY.r (h:iY K H d v p):nF K H v p:=by
 obtain ⟨a,l,sv,us,e,h1,h2,h3,h4,_⟩:=h
 exact ⟨a,l,sv,us,e,h1,h2,h3,h4⟩
theorem nF.same (h:nF K H v p)(s:au H H'):nF K H' v p:=by
 obtain ⟨a,l,sv,us,e,h1,h2,h3,h4⟩:=h
 exact ⟨a,l,sv,us,e,Ty.au.fK s h1,h2.same s,s _ _ h3,h4.same s⟩
theorem qI.same {pins:List aF}{b:bu}(h:qI K H pins v b)(s:au H H'):qI K H' pins v b:=by
 obtain ⟨a,i,j,e,h1,h2,h3⟩:=h
 exact ⟨a,i,j,e,Ty.au.fK s h1,h2,h3⟩
end
structure mQ (pins:List aF):Prop where
 np:(pins.map (·.nm)).Nodup
 ns:(pins.map (·.sp)).Nodup
 sz:∀p∈pins,Sz 24 p.sp.1∧Sz 24 p.sp.2
 ws:∀p∈pins,ib p.ws
theorem ib.sz {ws:List (Rat×Rat)}(h:ib ws):∀w∈ws,Sz 22 w.1∧Sz 22 w.2:=fun w hw=>by
 rcases h with rfl | ⟨x,y,rfl,_,h1,h2⟩ | rfl
 ·cases hw
 ·have:w=(x,y):=by simpa using hw
  rw [this]
  exact ⟨h1,h2⟩
 ·have e1:Sz 22 (1:Rat):=iX (k:=22) (i:=1) (by decide) (by decide)
  have e0:Sz 22 (0:Rat):=dy (by decide)
  have:w=(1,0)∨w=(0,1):=by simpa using hw
  rcases this with rfl | rfl
  ·exact ⟨e1,e0⟩
  ·exact ⟨e0,e1⟩
theorem ib.len {ws:List (Rat×Rat)}(h:ib ws):ws.length≤2:=by
 rcases h with rfl | ⟨x,y,rfl,_⟩ | rfl <;> simp
theorem mQ.snoc {pins:List aF}{p:aF}(g:mQ pins)(h1:p.nm∉pins.map (·.nm))(h2:p.sp∉pins.map (·.sp))(h3:Sz 24 p.sp.1∧Sz 24 p.sp.2)(h4:ib p.ws):mQ (pins++[p]):=by
 refine ⟨?_,?_,fun q hq=> ?_,fun q hq=> ?_⟩
 ·rw [adv,aei]
  refine ⟨g.np,by simp,fun a ha b hb e=>h1 ?_⟩
  have:b=p.nm:=by simpa using hb
  rw [← this, ← e]
  exact ha
 ·rw [adv,aei]
  refine ⟨g.ns,by simp,fun a ha b hb e=>h2 ?_⟩
  have:b=p.sp:=by simpa using hb
  rw [← this, ← e]
  exact ha
 ·rcases adq.mp hq with z | z
  ·exact g.sz q z
  ·rw [adj.mp z]
   exact h3
 ·rcases adq.mp hq with z | z
  ·exact g.ws q z
  ·rw [adj.mp z]
   exact h4
structure mR (pins:List aF)(aq:List bu):Prop where
 nb:(aq.map (·.nm)).Nodup
 ends:∀b∈aq,b.one∈pins∧b.other∈pins∧b.one.nm≠b.other.nm
theorem gG {α β:Type}{F:α→β→Prop}:∀{l₁:List α} {l₂:List β} {a:α} {b:β},Paired F l₁ l₂→F a b→Paired F (l₁++[a]) (l₂++[b])
 | _,_,_,_,.nil,h=>.cons h .nil
 | _,_,_,_,.cons h t,h' =>.cons h (gG t h')
theorem eI {t u:TS}{D:Ends}{σ:L2.St}{H:Hp}(inv:L2.St→Hp→Prop)(h1:∀N:L2.St→Hp→Prop,(∀σ' H',inv σ' H' →N σ' H')→t {D with nx:=N} σ H)(h2:∀σ' H',inv σ' H' →u D σ' H'):NI t u D σ H:=h1 _ h2
theorem Q8 {pins:List aF}{aq:List bu}(g:mQ pins)(b:mR pins aq)(lp:pins.length≤9)(lb:aq.length≤14):dN pins aq:=
 ⟨g.np,b.nb,b.ends,fun p hp=>⟨(g.sz p hp).1,(g.sz p hp).2,(g.ws p hp).sz⟩,lp,lb,fun p hp=>(g.ws p hp).len⟩
theorem Q9:bootBuiltins "min"=some (.builtin "min"):=by decide+kernel
def cnt (pins:List aF)(x:Rat):Nat:=(pins.filter fun p=>decide (x≤p.sp.1)).length
theorem DN (x:Rat):∀pins:List aF,cnt pins (x+1)≤cnt pins x
 | []=>adf _
 | p::ps=>by
  have ih:=DN x ps
  unfold cnt at ih ⊢
  rw [ak_,ak_]
  by_cases c:x+1≤p.sp.1
  ·have c2:x≤p.sp.1:=by grind
   rw [if_pos (decide_eq_true c),if_pos (decide_eq_true c2)]
   simpa using ih
  ·rw [if_neg (by simpa using c)]
   split
   ·rw [adI]
    omega
   ·exact ih
theorem DO {x:Rat}:∀{pins:List aF},(∃p∈pins,p.sp.1=x)→cnt pins (x+1) < cnt pins x
 | [],⟨p,h,_⟩=>by simp at h
 | p::ps,⟨q,hq,e⟩=>by
  unfold cnt
  rw [ak_,ak_]
  by_cases c0:p.sp.1=x
  ·have c:¬ x+1≤p.sp.1:=by grind
   have c2:x≤p.sp.1:=by grind
   rw [if_neg (by simpa using c),if_pos (decide_eq_true c2),adI]
   have:=DN x ps
   unfold cnt at this
   omega
  ·have ja :q∈ps:=by
    rcases adz.mp hq with z | z
    ·exact absurd (by rw [← z];exact e) c0
    ·exact z
   have ih:=DO (pins:=ps) ⟨q,ja,e⟩
   unfold cnt at ih
   by_cases c:x+1≤p.sp.1
   ·have c2:x≤p.sp.1:=by grind
    rw [if_pos (decide_eq_true c),if_pos (decide_eq_true c2)]
    simpa using ih
   ·rw [if_neg (by simpa using c)]
    split
    ·rw [adI]
     omega
    ·exact ih
theorem IJ (pins:List aF)(x:Rat):cnt pins x≤pins.length:=aeD _ _
theorem IK (r:Rat):gF (qr r) (1,1)=qr (r+1):=by
 have e:gF (qr r) (1,1)=((qr r).1+(qr r).2,(qr r).2):=by
  unfold gF
  simp
 have g:adW ((qr r).1+(qr r).2) (qr r).2=1:=by
  have:=pS r
  rw [← this]
  simp
 rw [e,sO (q:=((qr r).1+(qr r).2,(qr r).2)) (b7 r) g]
 congr 1
 have z:=sQ (r:=r)
 have v:=eh r
 unfold vl at v ⊢
 push_cast
 grind
theorem Q_ {k:Nat}{r:Rat}(h:Sz k r):Ns k (qr r):=⟨aec (intBits_le_iff.mp h.top),aec (intBits_le_iff.mp h.bot)⟩
theorem IL:∀i:Fin 10,∃N:Fin 6,i8 [V.int 0,.int 1,.int 2,.int 2,.int 3,.int 3,.int 3,.int 4,.int 4,.int 5] (i.val:Int)=some (.int (N.val:Int)):=by decide+kernel
theorem zf:∀st:Fin 3,∀a:Fin 6,∀k:Fin 12,1≤(nameOf (st.val:Int) (a.val:Int) (k.val:Int)).length∧(nameOf (st.val:Int) (a.val:Int) (k.val:Int)).length≤40:=by decide+kernel
inductive qJ (K:Frag)(vs:List V)(H:Hp)(Q:VK)(E_:XK):Prop where
 | mk (sA:Addr) (ns:List Int) (_:vs=[.ref sA]) (_:aU K H sA (ns.map V.int)) (_:∀(l:Addr) (us:List V) (pins:List aF) (H' :Hp),au H H' →H l=none→H' l=some (.lst us)→Paired (nF K H') us pins→mQ pins→pins.length≤5→(∀p∈pins,(1≤p.nm.length∧p.nm.length≤40)∧p.sp.1≤500010)→Q (.ref l) H'):qJ K vs H Q E_
theorem iZ:aC ["_law_script","_law_cell","_law_many","_law_kind","_law_pins_here","_law_k","_law_spot_here"] ["_law_script"] (af yz):=sq
theorem Ra (D:Def K mg "_law_pins" yz ["_law_script"])(bO:mg "range"=none)(DP:mg "min"=none)(mS:Fn P w K mg base (aS P w) 1 "_law_cell_at" ["_law_script","_law_k"] (jI K))(cL:Fn P w K mg base (aS P w) 1 "_law_field" ["_law_cell","_law_prime","_law_many"] dR)
  (XY:Fn P w K mg base (aS P w) 34 "_law_spot" ["_law_cell","_law_kind"] (qG K)) (XZ:Fn P w K mg base (aS P w) 34 "_law_ways" ["_law_cell"] (qH K)) (Mj:Fn P w K mg base (aS P w) 2 "_law_name" ["_law_cell","_law_k"] qF) (vq:Fn P w K mg base (aS P w) 1 "_law_sum" ["_law_one","_law_other"] (cQ K gF)):
  Fn P w K mg base (aS P w) 35 "_law_pins" ["_law_script"] (qJ K):=by
 refine D.ok iZ (fun vs H Q E h=> ?_) (fun f bj A outer s H vs Q E hr h=> ?_)
 ·obtain ⟨sA,ns,rfl,_⟩:=h
  rfl
 obtain ⟨sA,ns,rfl,hS,q⟩:=h
 have L2:2≤sizeLine:=by decide
 have L3:3≤sizeLine:=by decide
 refine ⟨_,(ae (ax (i:=1) iZ.nd rfl (adi rfl) (aD mS hr.mo pX (ar (pv 0) (ar ah aa))))
  (ae (ax (i:=2) iZ.nd rfl (adi rfl) (bc a_ (bG (ar ah (ar ah (ar ah (ar ah (ar ah (ar ah (ar ah (ar ah (ar ah (ar ah aa))))))))))) (aD cL hr.mo pX (ar (pv 1) (ar ah (ar ah aa)))) (fun _ _=>rfl)))
  (ae (ax (i:=3) iZ.nd rfl (adi rfl) (aD cL hr.mo pX (ar (pv 1) (ar ah (ar ah aa)))))
  (ae (bC (aL cZ (pv 3) ah (aZ _)) (ak (ax (i:=2) iZ.nd rfl (adi rfl) (a8 (xi rfl) rfl DP Q9 (ar (pv 2) (ar ah aa))))) aQ)
  (ae (ax (i:=4) iZ.nd rfl (adi rfl) (bG aa))
  (ae (bo PassesOwn.never rfl (dS rfl bO (ar (pv 2) aa)) (aE (i:=5) iZ.nd rfl (adi rfl)) (ae (ax (i:=6) iZ.nd rfl (adi rfl) (aD XY hr.mo pX (ar (aD mS hr.mo pX (ar (pv 0) (ar (aA bx ah (pv 5)) aa))) (ar (pv 3) aa))))
   (ae (kY PassesOwn.never (aL (HN hr.units) (pv 6) (du (tn:=["_law_pin"]) (fr:=[]) (caps:=[]) rfl ⟨rfl,by decide+kernel,rfl,by decide+kernel,by decide+kernel,rfl,trivial,trivial⟩ (bF (pv 4)) (fun _ _ _ _=>(aE (i:=0) (show (["_law_pin"]:List Str).Nodup from by decide+kernel) rfl (adi rfl))) (fun _ _ _ _=>c_) (fun _ _ _ _=>(bc (dP (K:=K) rfl) (pv 0) ah (fun _ _=>rfl)))) rfl) (ak (ax (i:=6) iZ.nd rfl (adi rfl) (aI (ar (aD vq hr.mo pX (ar (aR (pv 6)) (ar (aI (ar ah (ar ah aa))) aa))) (ar (aR (pv 6)) aa))))))
   (ak (bX (lh PySem.F.plainAttrs_list PySem.F.slot_list_append PySem.F.type_list_append dX (pv 4) (ar (aI (ar (aD Mj hr.mo pX (ar (pv 1) (ar (pv 5) aa))) (ar (pv 6) (ar (aD XZ hr.mo pX (ar (aD mS hr.mo pX (ar (pv 0) (ar (aA bx ah (pv 5)) aa))) aa)) aa)))) aa)))))))
  (ak (aG (pv 4))))))))),?_⟩
 refine ⟨_,rfl,sA,ns,0,rfl,hS,by decide,by decide,?_⟩
 generalize cell ns 0=c0
 refine ⟨(by show 10≤sizeLine;decide),?_⟩
 intro t0 nt0;generalize eX:upd _ t0 _=H0;have ⟨st0,et0⟩:=nw nt0 eX;clear eX
 have i1:=aT (c:=c0) (p:=1009) (m:=10) (by decide)
 refine ⟨_,rfl,_,_,_,rfl,by decide,by decide,by decide,?_⟩
 generalize field c0 1009 10=fi at i1 ⊢
 obtain ⟨fn,rfl⟩:∃n:Nat,fi=(n:Int):=⟨fi.toNat,by omega⟩
 obtain ⟨N,eN⟩:=IL ⟨fn,by omega⟩
 refine ⟨t0,_,_,_,rfl,rfl,aU.of et0,eN,?_⟩
 refine ⟨_,rfl,_,_,_,rfl,by decide,by decide,by decide,?_⟩
 generalize field c0 2003 3=kind
 dsimp only
 refine eI (fun σ' H' =>∃N:Nat,N≤5∧σ' =[some (.ref sA),some (.int c0),some (.int (N:Int)),some (.int kind),none,none,none]∧H' =H0) (fun Nx tO=> ?_) ?_
 ·refine ⟨_,rfl,rfl,_,rfl,?_⟩
  refine bB (fun _=> ?_) (fun _=> ?_)
  ·have hN:=N.isLt
   refine ⟨_,rfl,_,_,rfl,?_⟩
   refine tO _ _ ⟨min N.val 4,by omega,?_,rfl⟩
   have:(if (4:Int) < (N.val:Int) then (4:Int) else (N.val:Int))=((min N.val 4:Nat):Int):=by
    split <;> omega
   rw [this]
   rfl
  ·exact tO _ _ ⟨N.val,by have:=N.isLt;omega,rfl,rfl⟩
 rintro σ' H' ⟨N,hN,rfl,rfl⟩
 refine ⟨(by show 0≤sizeLine;decide),?_⟩
 intro lp np;generalize eX:upd _ lp _=H1;have ⟨sp,ep⟩:=nw np eX;clear eX
 have XE:=st0.trans sp
 have rE:H lp=none:=st0.free np
 refine ⟨_,rfl,(N:Int),rfl,by omega,by omega,dW (lo:=0) (n:=N) (fun i σ H' =>∃(o5 o6:Option V) (us:List V) (pins:List aF),σ=[some (.ref sA),some (.int c0),some (.int (N:Int)),some (.int kind),some (.ref lp),o5,o6]∧au H H' ∧H' lp=some (.lst us)∧Paired (iY K H' lp) us pins∧mQ pins∧pins.length=i∧∀p∈pins,∃j,j < i∧p.nm=nameOf (field c0 3001 3) (field c0 4001 6) (j:Int)∧p.sp.1≤500010) ⟨none,none,[],[],rfl,XE,ep,.nil,⟨by simp,by simp,by simp,by simp⟩,rfl,by simp⟩ ?_ ?_⟩
 ·rintro i σ H2 hi ⟨o5,o6,us,pins,rfl,s2,e2,pp,gp,lpi,nm⟩
  have ei:(0:Int)+(i:Int)=(i:Int):=aed _
  rw [ei]
  have lu:us.length=pins.length:=Paired.length pp
  refine ⟨_,rfl,_,rfl,_,_,rfl,rfl,sA,ns,_,rfl,s2.seq hS,by omega,by omega,_,rfl,?_⟩
  refine ⟨_,_,rfl,fun p3 x0 y0 H3 s3 zx zy xb h3=> ?_⟩
  have W7:=s2.trans s3
  have h30:d0 K H3 (.ref p3) (x0+((0:Nat):Rat),y0):=by
   have e:x0+((0:Nat):Rat)=x0:=by
    have:((0:Nat):Rat)=0:=by rfl
    rw [this]
    grind
   rw [e]
   exact h3
  dsimp only
  refine eI (fun σ' H' =>∃(sv:V) (x:Rat),σ' =[some (.ref sA),some (.int c0),some (.int (N:Int)),some (.int kind),some (.ref lp),some (.int (i:Int)),some sv]∧au H3 H' ∧d0 K H' sv (x,y0)∧(Sz 24 x∧x≤500010)∧(x,y0)∉pins.map (·.sp)) (fun Nx tO=> ?_) ?_
  ·refine ⟨fun m σ H' =>∃(sv:V) (j:Nat),σ=[some (.ref sA),some (.int c0),some (.int (N:Int)),some (.int kind),some (.ref lp),some (.int (i:Int)),some sv]∧au H3 H' ∧d0 K H' sv (x0+(j:Rat),y0)∧m=cnt pins (x0+(j:Rat))∧j+cnt pins (x0+(j:Rat))≤pins.length,⟨_,_,0,rfl,au.refl _,h30,rfl,by have:=IJ pins (x0+((0:Nat):Rat));omega⟩,?_⟩
   rintro m σ H4 ⟨sv,j,rfl,s4,h4,rfl,hj⟩
   have e4:=(s3.trans s4) _ _ e2
   have X0:Paired (iY K H4 lp) us pins:=Paired.bZ pp fun _ _ z=>z.same (s3.trans s4)
   have zj:Sz 24 (x0+(j:Rat)):=(zx.add (uQ (i:=(j:Int)) (k:=3) (show _ < 8 by omega) (by decide))).up (by decide)
   refine ⟨_,rfl,_,rfl,lp,rfl,⟨_,aU.of e4⟩,fun D1 n1=> ?_⟩
   refine dZ (cap:=[]) (K:=K) (a:=lp) (xs:=us) (fun i v H=>∃p,pins[i]? =some p∧d0 K H v p.sp) n1 (by rw [lu];exact adm (show pins.length≤1000 by omega) (by decide)) (fun H2 s2=>aU.of (s2 _ _ e4)) (fun _ _ _ _ _ h0 ks h=>by
     obtain ⟨p,h1,h2⟩:=h
     refine ⟨p,h1,h2.aJ fun b xs r=> ?_⟩
     rcases r with r | ⟨o',r⟩
     ·exact .inl (ks _ _ (fun e=>by rw [e,h0] at r;cases r) r)
     ·exact .inr ⟨o',ks _ _ (fun e=>by rw [e,h0] at r;cases r) r⟩) ?_ ?_
   ·intro jj u H6 R hu s6 k
    obtain ⟨p,uq,hp⟩:=aK X0 hu
    obtain ⟨a,l,sv,kJ,rfl,h1,h2,_⟩:=hp
    exact ⟨_,rfl,a,_,_,_,rfl,rfl,Ty.au.fK s6 h1,rfl,k _ _ (au.refl _) ⟨p,uq,h2.same s6⟩⟩
   intro ys H6 hy gx s6 hD
   have pq:gS K H6 ys (pins.map (·.sp)):=jn (by rw [Wp,hy,lu]) fun j u q' xw Vf =>by
    obtain ⟨p,h1,h2⟩:=gx j u xw
    rw [ir,h1] at Vf
    cases Vf
    exact h2
   have h6:=h4.same s6
   refine ⟨(x0+(j:Rat),y0),D1,ys,_,rfl,aU.of hD,h6,pq,_,rfl,?_⟩
   refine bB (fun cc=> ?_) (fun cc=> ?_)
   ·have mem:(x0+(j:Rat),y0)∈pins.map (·.sp):=by simpa using cc
    obtain ⟨p,hp,uq⟩:=ab_.mp mem
    have lt:=DO (x:=x0+(j:Rat)) ⟨p,hp,by rw [uq]⟩
    have ej:x0+(j:Rat)+1=x0+((j+1:Nat):Rat):=by
     push_cast
     grind
    rw [ej] at lt
    refine ⟨fun σ' H' =>∃(sv:V),σ' =[some (.ref sA),some (.int c0),some (.int (N:Int)),some (.int kind),some (.ref lp),some (.int (i:Int)),some sv]∧au H3 H' ∧d0 K H' sv (x0+((j+1:Nat):Rat),y0),fun σ' H' ⟨sv',h1,h2,h3⟩=>⟨_,lt,sv',j+1,h1,h2,h3,rfl,by omega⟩,?_⟩
    obtain ⟨sa,u1,u2,rfl,IM,X1,M3⟩:=h6
    refine ⟨_,rfl,sa,_,_,_,rfl,rfl,IM,gZ,L2,?_⟩
    intro p7 n7;generalize eX:upd _ p7 _=H7;have ⟨s7,e7⟩:=nw n7 eX;clear eX
    refine ⟨u1,.ref p7,qr (x0+(j:Rat)),(1,1),24,1,rfl,X1.same s7,⟨p7,rfl,bH.of e7⟩,Q_ zj,⟨by decide,by decide⟩,by decide,fun p8 H8 s8 e8=> ?_⟩
    rw [IK,ej] at e8
    refine ⟨_,rfl,sa,_,_,_,rfl,rfl,Ty.au.fK (s7.trans s8) IM,ig,L2,?_⟩
    intro p9 n9;generalize eX:upd _ p9 _=H9;have ⟨s9,e9⟩:=nw n9 eX;clear eX
    have s69:=(s7.trans s8).trans s9
    exact ⟨.ref p9,rfl,(s4.trans s6).trans s69,j0 e9 ((f' e8).same s9) (M3.same s69)⟩
   ·have fresh:(x0+(j:Rat),y0)∉pins.map (·.sp):=by simpa using cc
    exact tO _ _ ⟨sv,x0+(j:Rat),rfl,s4.trans s6,h6,⟨zj,(by have OS :((j:Int):Rat)≤((5:Int):Rat):=ah_.mpr (by omega);have e1:((j:Int):Rat)=(j:Rat):=rfl;have e2:((5:Int):Rat)=5:=rfl;rw [e1,e2] at OS;grind)⟩,fresh⟩
  rintro σ' H4 ⟨sv,x,rfl,s4,h4,⟨zx',xb'⟩,fresh⟩
  have QG:=s3.trans s4
  have Mb:=s2.trans QG
  have e4:=QG _ _ e2
  have X0:Paired (iY K H4 lp) us pins:=Paired.bZ pp fun _ _ z=>z.same QG
  refine ⟨_,rfl,.inl ⟨rfl,_,aU.of e4⟩,_,rfl,_,rfl,_,_,rfl,by omega,by omega,_,rfl,?_⟩
  refine ⟨_,rfl,_,rfl,_,_,rfl,rfl,sA,ns,_,rfl,Mb.seq hS,by omega,by omega,?_⟩
  refine ⟨_,rfl,fun l8 us8 ws H8 wk s8 n8 e8 p8=>⟨L3,?_⟩⟩
  intro p9 n9;generalize eX:upd _ p9 _=H9;have ⟨s9,e9⟩:=nw n9 eX;clear eX
  have Vg:=s8.trans s9
  have X2:=Vg _ _ e4
  have pp9:Paired (iY K H9 lp) us pins:=Paired.bZ X0 fun _ _ z=>z.same Vg
  refine ⟨lp,_,_,rfl,rfl,X2,(by rw [lu];exact adm (show pins.length≤1000 by omega) (by decide)),?_⟩
  have ue:iY K H9 lp (.ref p9) ⟨nameOf (field c0 3001 3) (field c0 4001 6) (i:Int),(x,y0),ws⟩:=⟨p9,l8,sv,us8,rfl,bH.of e9,h4.same Vg,s9 _ _ e8,p8.same s9,fun z=>by rw [z,e4] at n8;cases n8⟩
  refine ⟨_,_,_,pins++[⟨nameOf (field c0 3001 3) (field c0 4001 6) (i:Int),(x,y0),ws⟩],rfl,fun b o z=> ?_,ag,gG (Paired.bZ pp9 fun _ _ z=>z.upd X2) (ue.upd X2),gp.snoc (fun z=> ?_) fresh ⟨zx',zy.up (by decide)⟩ wk,by simp [lpi],fun p hp=> ?_⟩
  ·rw [aj (ao z rE)]
   exact Vg _ _ (Mb _ _ z)
  ·obtain ⟨p,hp,uq⟩:=ab_.mp z
   obtain ⟨j,hj,ej,_⟩:=nm p hp
   have i3:=aT (c:=c0) (p:=3001) (m:=3) (by decide)
   have i4:=aT (c:=c0) (p:=4001) (m:=6) (by decide)
   have:=tK ⟨(field c0 3001 3).toNat,by omega⟩ ⟨(field c0 4001 6).toNat,by omega⟩ ⟨j,by omega⟩ ⟨i,by omega⟩ (fun z=>by
    have:=congrArg Fin.val z
    simp at this
    omega)
   refine this ?_
   show nameOf (((field c0 3001 3).toNat:Nat):Int) (((field c0 4001 6).toNat:Nat):Int) (j:Int)=nameOf (((field c0 3001 3).toNat:Nat):Int) (((field c0 4001 6).toNat:Nat):Int) (i:Int)
   rw [show (((field c0 3001 3).toNat:Nat):Int)=field c0 3001 3 by omega,show (((field c0 4001 6).toNat:Nat):Int)=field c0 4001 6 by omega, ← ej]
   exact uq
  ·rcases adq.mp hp with z | z
   ·obtain ⟨j,hj,ej,eb⟩:=nm p z
    exact ⟨j,by omega,ej,eb⟩
   ·rw [adj.mp z]
    exact ⟨i,by omega,rfl,xb'⟩
 ·rintro σ H2 ⟨o5,o6,us,pins,rfl,s2,e2,pp,gp,lpi,nm⟩
  refine ⟨_,rfl,q lp us pins H2 s2 rE e2 (Paired.bZ pp fun _ _ z=>z.r) gp (by omega) fun p hp=> ?_⟩
  obtain ⟨j,hj,ej,eb⟩:=nm p hp
  refine ⟨?_,eb⟩
  rw [ej]
  have f1:=aT (c:=c0) (p:=3001) (m:=3) (by decide)
  have f2:=aT (c:=c0) (p:=4001) (m:=6) (by decide)
  obtain ⟨u,hu⟩:∃n:Nat,field c0 3001 3=(n:Int):=⟨(field c0 3001 3).toNat,by omega⟩
  obtain ⟨v,hv⟩:∃n:Nat,field c0 4001 6=(n:Int):=⟨(field c0 4001 6).toNat,by omega⟩
  rw [hu,hv]
  exact zf ⟨u,by omega⟩ ⟨v,by omega⟩ ⟨j,by omega⟩
inductive qK (K:Frag)(vs:List V)(H:Hp)(Q:VK)(E_:XK):Prop where
 | mk (sA pA:Addr) (ns:List Int) (us:List V) (pins:List aF) (_:vs=[.ref sA,.ref pA]) (_:aU K H sA (ns.map V.int)) (_:H pA=some (.lst us)) (_:us.length=pins.length) (_:(pins.map (·.nm)).Nodup) (_:pins.length≤6) (_:∀(l:Addr) (mG :List V) (aq:List bu) (H' :Hp),au H H' →H l=none→H' l=some (.lst mG)→Paired (qI K H' pins) mG aq→mR pins aq→aq.length≤7→Q (.ref l) H'):qK K vs H Q E_
theorem mR.snoc {pins:List aF}{aq:List bu}{b:bu}(g:mR pins aq)(h1:b.nm∉aq.map (·.nm))(h2:b.one∈pins∧b.other∈pins∧b.one.nm≠b.other.nm):mR pins (aq++[b]):=by
 refine ⟨?_,fun q hq=> ?_⟩
 ·rw [adv,aei]
  refine ⟨g.nb,by simp,fun a ha c hc e=>h1 ?_⟩
  have:c=b.nm:=by simpa using hc
  rw [← this, ← e]
  exact ha
 ·rcases adq.mp hq with z | z
  ·exact g.ends q z
  ·rw [adj.mp z]
   exact h2
theorem j3:aC ["_law_script","_law_pins_here","_law_cell","_law_many","_law_bars_here","_law_k","_law_one","_law_step"] ["_law_script","_law_pins_here"] (af yA):=sq
theorem Rb (D:Def K mg "_law_bars" yA ["_law_script","_law_pins_here"])(bO:mg "range"=none)(bw:mg "len"=none)(mS:Fn P w K mg base (aS P w) 1 "_law_cell_at" ["_law_script","_law_k"] (jI K))(cL:Fn P w K mg base (aS P w) 1 "_law_field" ["_law_cell","_law_prime","_law_many"] dR)(Mj:Fn P w K mg base (aS P w) 2 "_law_name" ["_law_cell","_law_k"] qF):
  Fn P w K mg base (aS P w) 3 "_law_bars" ["_law_script","_law_pins_here"] (qK K):=by
 refine D.ok j3 (fun vs H Q E h=> ?_) (fun f bj A outer s H vs Q E hr h=> ?_)
 ·obtain ⟨sA,pA,ns,us,pins,rfl,_⟩:=h
  rfl
 obtain ⟨sA,pA,ns,us,pins,rfl,hS,hp,lu,np,lp,q⟩:=h
 have L3:3≤sizeLine:=by decide
 refine ⟨_,(ae (ax (i:=2) j3.nd rfl (adi rfl) (aD mS hr.mo pX (ar (pv 0) (ar ah aa))))
  (ae (ax (i:=3) j3.nd rfl (adi rfl) (aD cL hr.mo pX (ar (pv 2) (ar ah (ar ah aa)))))
  (ae (bC (aL nR (a8 aY rfl bw dA (ar (pv 1) aa)) ah (aZ _)) (ak (ax (i:=3) j3.nd rfl (adi rfl) ah)) aQ)
  (ae (ax (i:=4) j3.nd rfl (adi rfl) (bG aa))
  (ae (bo PassesOwn.never rfl (dS rfl bO (ar (pv 3) aa)) (aE (i:=5) j3.nd rfl (adi rfl)) (ae (ax (i:=6) j3.nd rfl (adi rfl) (aD cL hr.mo pX (ar (aD mS hr.mo pX (ar (pv 0) (ar (aA bx ah (pv 5)) aa))) (ar ah (ar (a8 aY rfl bw dA (ar (pv 1) aa)) aa)))))
   (ae (ax (i:=7) j3.nd rfl (adi rfl) (aA bx ah (aD cL hr.mo pX (ar (aD mS hr.mo pX (ar (pv 0) (ar (aA bx ah (pv 5)) aa))) (ar ah (ar (aA c8 (a8 aY rfl bw dA (ar (pv 1) aa)) ah) aa))))))
   (ak (bX (lh PySem.F.plainAttrs_list PySem.F.slot_list_append PySem.F.type_list_append dX (pv 4) (ar (aI (ar (aD Mj hr.mo pX (ar (pv 2) (ar (pv 5) aa))) (ar (pv 6) (ar (aA dq (aA bx (pv 6) (pv 7)) (a8 aY rfl bw dA (ar (pv 1) aa))) aa)))) aa)))))))
  (ak (aG (pv 4)))))))),?_⟩
 refine ⟨_,rfl,sA,ns,1,rfl,hS,by decide,by decide,?_⟩
 generalize cell ns 1=c0
 have i1:=aT (c:=c0) (p:=1009) (m:=8) (by decide)
 refine ⟨_,rfl,_,_,_,rfl,by decide,by decide,by decide,?_⟩
 generalize field c0 1009 8=fi at i1 ⊢
 obtain ⟨fn,rfl⟩:∃n:Nat,fi=(n:Int):=⟨fi.toNat,by omega⟩
 dsimp only
 refine eI (fun σ' H' =>∃N:Nat,N≤7∧(0 < N→2≤pins.length)∧σ' =[some (.ref sA),some (.ref pA),some (.int c0),some (.int (N:Int)),none,none,none,none]∧H' =H) (fun Nx tO=> ?_) ?_
 ·refine ⟨_,rfl,pA,_,rfl,.inl (aU.of hp),_,_,rfl,rfl,_,rfl,?_⟩
  refine bB (fun _=> ?_) (fun c=> ?_)
  ·exact tO _ _ ⟨0,by omega,by omega,rfl,rfl⟩
  ·have c' :¬ (us.length:Int) < 2:=fun z=>c (decide_eq_true z)
   exact tO _ _ ⟨fn,by omega,fun _=>by omega,rfl,rfl⟩
 rintro σ' Hy ⟨N,hN,Wy,rfl,rfl⟩
 refine ⟨(by show 0≤sizeLine;decide),?_⟩
 intro lb nb;generalize eX:upd _ lb _=H1;have ⟨sb,eb⟩:=nw nb eX;clear eX
 refine ⟨_,rfl,(N:Int),rfl,by omega,by omega,dW (lo:=0) (n:=N) (fun i σ H' =>∃(o5 o6 o7:Option V) (mG :List V) (aq:List bu),σ=[some (.ref sA),some (.ref pA),some (.int c0),some (.int (N:Int)),some (.ref lb),o5,o6,o7]∧au Hy H' ∧H' lb=some (.lst mG)∧Paired (qI K H' pins) mG aq∧mR pins aq∧aq.length=i∧∀b∈aq,∃j,j < i∧b.nm=nameOf (field c0 3001 3) (field c0 4001 6) (j:Int)) ⟨none,none,none,[],[],rfl,sb,eb,.nil,⟨by simp,by simp⟩,rfl,by simp⟩ ?_ ?_⟩
 ·rintro i σ H2 hi ⟨o5,o6,o7,mG,aq,rfl,s2,e2,pb,gb,lbi,nm⟩
  have ei:(0:Int)+(i:Int)=(i:Int):=aed _
  rw [ei]
  have n2:2≤pins.length:=Wy (by omega)
  have lv:mG.length=aq.length:=Paired.length pb
  have sp:=aU.of (K:=K) (s2 _ _ hp)
  refine ⟨_,rfl,_,rfl,_,_,rfl,rfl,sA,ns,_,rfl,s2.seq hS,by omega,by omega,_,rfl,pA,_,rfl,.inl sp,_,_,_,rfl,by decide,by decide,by omega,?_⟩
  have j1:=aT (c:=cell ns (8+(i:Int))) (p:=1009) (m:=(us.length:Int)) (by omega)
  have j2:=aT (c:=cell ns (8+(i:Int))) (p:=2003) (m:=(us.length:Int) - 1) (by omega)
  refine ⟨_,rfl,_,rfl,_,_,rfl,rfl,sA,ns,_,rfl,s2.seq hS,by omega,by omega,_,rfl,pA,_,rfl,.inl sp,_,_,rfl,rfl,_,_,_,rfl,by decide,by decide,by omega,_,_,rfl,rfl,?_⟩
  generalize field (cell ns (8+(i:Int))) 1009 (us.length:Int)=one at j1 ⊢
  generalize field (cell ns (8+(i:Int))) 2003 ((us.length:Int) - 1)=step at j2 ⊢
  obtain ⟨on,rfl⟩:∃n:Nat,one=(n:Int):=⟨one.toNat,by omega⟩
  have oo:∃m:Nat,((on:Int)+(1+step)).fmod (us.length:Int)=(m:Int)∧m < us.length∧m≠on:=by
   have f:=fV (x:=(on:Int)+(1+step)) (m:=(us.length:Int)) (by omega)
   refine ⟨(((on:Int)+(1+step)).fmod (us.length:Int)).toNat,by omega,by omega,fun z=> ?_⟩
   have e:((on:Int)+(1+step)).fmod (us.length:Int)=(on:Int):=by omega
   rw [Int.fmod_eq_emod_of_nonneg _ (by omega)] at e
   by_cases c:(on:Int)+(1+step) < (us.length:Int)
   ·rw [amq (by omega) c] at e
    omega
   ·rw [← Int.sub_emod_right,amq (by omega) (by omega)] at e
    omega
  obtain ⟨Vh,Vf,l2',ne2⟩:=oo
  refine ⟨_,rfl,.inl ⟨rfl,_,aU.of e2⟩,_,rfl,_,rfl,_,_,rfl,by omega,by omega,_,rfl,_,rfl,_,rfl,_,_,rfl,rfl,_,rfl,pA,_,rfl,.inl sp,_,_,rfl,rfl,nz (by omega),L3,?_⟩
  intro p9 n9;generalize eX:upd _ p9 _=H9;have ⟨s9,e9⟩:=nw n9 eX;clear eX
  have e9:H9 p9=some (.tup [.str (nameOf (field c0 3001 3) (field c0 4001 6) (i:Int)),.int (on:Int),.int (((on:Int)+(1+step)).fmod (us.length:Int))]):=e9
  rw [Vf] at e9
  have Ni:=s9 _ _ e2
  refine ⟨lb,_,_,rfl,rfl,Ni,(by rw [lv];exact adm (show aq.length≤1000 by omega) (by decide)),?_⟩
  have l1:on < pins.length:=by omega
  have l2:Vh < pins.length:=by omega
  have st:bg H9 (upd H9 lb (.lst (mG ++[.ref p9]))):=.list Ni
  have ns9:∀(v:V) (b:bu),qI K H2 pins v b→qI K (upd H9 lb (.lst (mG ++[.ref p9]))) pins v b:=fun v b h=>by
   obtain ⟨a,i',j',e,h1,h2,h3⟩:=h.same s9
   exact ⟨a,i',j',e,st.fK h1,h2,h3⟩
  refine ⟨_,_,_,mG ++[.ref p9],aq++[⟨nameOf (field c0 3001 3) (field c0 4001 6) (i:Int),pins[on],pins[Vh]⟩],rfl,fun b o z=> ?_,ag,gG (Paired.bZ pb fun _ _ z=>ns9 _ _ z) ?_,gb.snoc (fun z=> ?_) ⟨aea l1,aea l2,fun z=> ?_⟩,by simp [lbi],fun b hb=> ?_⟩
  ·rw [aj (ao z nb)]
   exact s9 _ _ (s2 _ _ z)
  ·exact ⟨p9,on,Vh,rfl,st.fK (bH.of e9),gE l1,gE l2⟩
  ·obtain ⟨b,hb,uq⟩:=ab_.mp z
   obtain ⟨j,hj,ej⟩:=nm b hb
   have i3:=aT (c:=c0) (p:=3001) (m:=3) (by decide)
   have i4:=aT (c:=c0) (p:=4001) (m:=6) (by decide)
   have:=tK ⟨(field c0 3001 3).toNat,by omega⟩ ⟨(field c0 4001 6).toNat,by omega⟩ ⟨j,by omega⟩ ⟨i,by omega⟩ (fun z=>by
    have:=congrArg Fin.val z
    simp at this
    omega)
   refine this ?_
   show nameOf (((field c0 3001 3).toNat:Nat):Int) (((field c0 4001 6).toNat:Nat):Int) (j:Int)=nameOf (((field c0 3001 3).toNat:Nat):Int) (((field c0 4001 6).toNat:Nat):Int) (i:Int)
   rw [show (((field c0 3001 3).toNat:Nat):Int)=field c0 3001 3 by omega,show (((field c0 4001 6).toNat:Nat):Int)=field c0 4001 6 by omega, ← ej]
   exact uq
  ·have q1:(pins.map (·.nm))[on]? =some pins[on].nm:=by rw [ir,gE l1];rfl
   have q2:(pins.map (·.nm))[Vh]? =some pins[on].nm:=by rw [ir,gE l2];exact congrArg some z.symm
   exact ne2 ((aeT (by rw [Wp];omega) np).mp (q1.trans q2.symm)).symm
  ·rcases adq.mp hb with z | z
   ·obtain ⟨j,hj,ej⟩:=nm b z
    exact ⟨j,by omega,ej⟩
   ·rw [adj.mp z]
    exact ⟨i,by omega,rfl⟩
 ·rintro σ H2 ⟨o5,o6,o7,mG,aq,rfl,s2,e2,pb,gb,lbi,nm⟩
  exact ⟨_,rfl,q lb mG aq H2 s2 nb e2 pb gb (by omega)⟩
theorem IP (v:V):aep ("ways":Str) [(("way":Str),v)]=none:=by
 have h:(("ways":Str)=="way")=false:=by decide+kernel
 simp [aep,h]
inductive mT (K:Frag)(C:Addr)(vs:List V)(H:Hp)(Q:VK)(E_:XK):Prop where
 | mk (pA bA:Addr) (us mG :List V) (pins:List aF) (aq:List bu) (_:vs=[.ref pA,.ref bA]) (_:H pA=some (.lst us)) (_:Paired (nF K H) us pins) (_:H bA=some (.lst mG)) (_:Paired (qI K H pins) mG aq) (_:mQ pins) (_:mR pins aq) (_:pins.length≤9) (_:aq.length≤14) (_:∀(a:Addr) (H' :Hp),au H H' →wg K H' C a pins aq→Q (.ref a) H'):mT K C vs H Q E_
theorem j4:aC ["_law_pins_here","_law_bars_here","_law_frame_here","_law_name_here","_law_spot_here","_law_ways_here","_law_one","_law_other"] ["_law_pins_here","_law_bars_here"] (af yB):=sq
theorem Rc {C CR CF fI fR:Addr}{fdI fdR:FuncData}(D:Def K mg "_law_frame" yB ["_law_pins_here","_law_bars_here"])(bw:mg "len"=none)(Ml:Mk K C fI)(Mm:mg "Frame"=some (.ref C))(X3:ck P w K mg base (aS P w) 1 fI fdI ["self"] (qj K C))(Mn:Binds K fdI ["self"] [])
  (Mo:mg "Roller"=some (.ref CR)) (Mp:mg "Fixed"=some (.ref CF)) (Mq:Ol K CF) (Mr:Mk K CR fR) (X4:ck P w K mg base (aS P w) 1 fR fdR ["self","x","y"] (qp K CR)) (Ms:Binds K fdR ["self","x","y"] [])
  (wR:bq P w K mg base (aS P w) 2 CR "ways" ["self"] (iM K CR)) (wF:bq P w K mg base (aS P w) 2 CF "ways" ["self"] (iN K))
  (X5:bq P w K mg base (aS P w) 3 C "put_bar" ["self","name","one","other"] (iO K C)) (Vi:bq P w K mg base (aS P w) 3 C "put_pin" ["self","name","x","y","hold"] (di P w K mg base C)) (X6:uO P w K mg base (aS P w) 3 C "put_pin" ["self","name","x","y","hold"] [.none] (di P w K mg base C)):
  Fn P w K mg base (aS P w) 4 "_law_frame" ["_law_pins_here","_law_bars_here"] (mT K C):=by
 refine D.ok j4 (fun vs H Q E h=> ?_) (fun f bj A outer s H vs Q E hr h=> ?_)
 ·obtain ⟨pA,bA,us,mG,pins,aq,rfl,_⟩:=h
  rfl
 obtain ⟨pA,bA,us,mG,pins,aq,rfl,hp,pp,hb,pb,gp,gb,lp6,lb8,q⟩:=h
 have lu:us.length=pins.length:=Paired.length pp
 refine ⟨_,(ae (ax (i:=2) j4.nd rfl (adi rfl) (z_ Ml X3 hr.mo rfl Mm Mn .nil (pY P w)))
  (ae (bo PassesOwn.never rfl (bF (pv 0)) (eW rfl (aX (aE (i:=3) j4.nd rfl (adi rfl)) (aX (aE (i:=4) j4.nd rfl (adi rfl)) (aX (aE (i:=5) j4.nd rfl (adi rfl)) cN)))) (ae (bC (aL cZ (a8 aY rfl bw dA (ar (pv 5) aa)) ah (aZ _)) (ak (bX (HM (k:=3) (pv 2) hr.mo (pY P w) (ar (pv 3) (ar (aR (pv 4)) (ar (aR (pv 4)) aa)))))) aQ)
   (ae (bC (aL cZ (a8 aY rfl bw dA (ar (pv 5) aa)) ah (aZ _)) (ak (bX (dc (k:=3) (pv 2) hr.mo (pY P w) (ar (pv 3) (ar (aR (pv 4)) (ar (aR (pv 4)) (ar (GK Mr X4 hr.mo rfl Mo Ms .nil (pY P w) (ar (aR (wD (pv 5))) (ar (aR (wD (pv 5))) aa))) aa))))))) aQ)
   (ak (bC (aL cZ (a8 aY rfl bw dA (ar (pv 5) aa)) ah (aZ _)) (ak (bX (dc (k:=3) (pv 2) hr.mo (pY P w) (ar (pv 3) (ar (aR (pv 4)) (ar (aR (pv 4)) (ar (K9 Mq rfl Mp) aa))))))) aQ)))))
  (ae (bo PassesOwn.never rfl (bF (pv 1)) (eW rfl (aX (aE (i:=3) j4.nd rfl (adi rfl)) (aX (aE (i:=6) j4.nd rfl (adi rfl)) (aX (aE (i:=7) j4.nd rfl (adi rfl)) cN)))) (ak (bX (dc (k:=3) (pv 2) hr.mo (pY P w) (ar (pv 3) (ar (aR (bc a_ (pv 0) (pv 6) (fun _ _=>rfl))) (ar (aR (bc a_ (pv 0) (pv 7) (fun _ _=>rfl))) aa)))))))
  (ak (aG (pv 2)))))),?_⟩
 intro a dx na ndx nad
 have sF:au H (upd (upd H dx (.own a)) a (.ins C dx [])):=fun b o e=>by rw [aj (ao e na),aj (ao e ndx)];exact e
 refine ⟨a,dx,rfl,ag,fun pP pW pB H1 k1 nP nW nB R1=>⟨rfl,?_⟩⟩
 have s1:au H H1:=fun b o e=>k1 b o (ao e na) (sF _ _ e)
 have nP:=jv sF nP
 have nW:=jv sF nW
 have nB:=jv sF nB
 refine ⟨_,rfl,pA,rfl,⟨_,aU.of (s1 _ _ hp)⟩,cv (K:=K) (a:=pA) (xs:=us) (fun i σ H' =>∃(o4 o5 o6:Option V) (kP kW:List (Key×V)),σ=[some (.ref pA),some (.ref bA),some (.ref a),o4,o5,o6,none,none]∧au H H' ∧eK K H' C a dx pP pW pB ((pins.take i).map fun p=>(p.nm,sR p.sp)) [] kP kW []∧ug K H' ((pins.take i).map fun p=>(p.nm,p.ws)) kW) ⟨none,none,none,[],[],rfl,s1,R1,.nil⟩ (fun i σ H' _ h=>by
   obtain ⟨_,_,_,_,_,_,s,_⟩:=h
   exact aU.of (s _ _ hp)) ?_ ?_⟩
 ·rintro i u σ H2 hu ⟨o4,o5,o6,kP,kW,rfl,s2,R2,W2⟩
  obtain ⟨p,ep,X7⟩:=aK pp hu
  have mp:p∈pins:=aa_ ep
  obtain ⟨ta,l,sv,ws,rfl,h1,h2,h3,h4⟩:=X7.same s2
  obtain ⟨sa,x1,y1,rfl,IM,X1,M3⟩:=h2
  refine ⟨ta,_,rfl,h1,rfl,_,_,rfl,_,_,rfl,_,_,rfl,rfl,?_⟩
  have tk:=take_snoc ep
  have il:i < pins.length:=(be.mp ep).1
  have nlP:l≠pP:=fun z=>by rw [z,R2.pl] at h3;cases h3
  have nlW:l≠pW:=fun z=>by rw [z,R2.wy] at h3;cases h3
  have fin:∀(hv:V) (H5:Hp) (Q5:VK) (E5:XK),au H2 H5→JY P w K mg base H5 hv p.ws→
    (∀H' CM sM,au H H' →H' l=some (.lst ws)→eK K H' C a dx pP pW pB ((pins.take (i+1)).map fun p=>(p.nm,sR p.sp)) [] CM sM []→ug K H' ((pins.take (i+1)).map fun p=>(p.nm,p.ws)) sM →Q5 .cp H')→di P w K mg base C [.ref a,.str p.nm,x1,y1,hv] H5 Q5 E5:=fun hv H5 Q5 E5 s5 hY fin=>by
   refine ⟨a,dx,pP,pW,pB,_,_,kP,kW,_,_,p.nm,x1,y1,hv,sR p.sp,p.ws,rfl,R2.same s5,W2.same s5,by rw [adC,adC];rfl,X1.same s5,M3.same s5,fun z=> ?_,fun z hz e=> ?_,?_,hY,fun H' CM sM k' R' W' => ?_⟩
   ·rw [adC] at z
    obtain ⟨p',jD,e'⟩:=ab_.mp z
    exact fq (nm:=aF.nm) gp.np ep jD e'
   ·obtain ⟨p',jD,e'⟩:=ab_.mp hz
    rw [← e'] at e
    have e1:=congrArg ang e
    have e2:=congrArg anh e
    have e3:p'.sp=p.sp:=alC (h7 e1) (h7 e2)
    obtain ⟨j,hj,ej⟩:=ad9.mp jD
    rw [amn] at ej
    rw [adJ] at hj
    have q1:(pins.map (·.sp))[j]? =some p.sp:=by rw [ir,gE (by omega),ej, ← e3];rfl
    have q2:(pins.map (·.sp))[i]? =some p.sp:=by rw [ir,ep];rfl
    have:=(aeT (by rw [Wp];omega) gp.ns).mp (q1.trans q2.symm)
    omega
   ·rw [Wp,adJ]
    omega
   ·refine fin H' CM sM (fun b o z=>k' b o (ao z nP) (ao z nW) (s5 _ _ (s2 _ _ z))) (k' _ _ nlP nlW (s5 _ _ h3)) ?_ ?_
    ·rw [tk,adv]
     exact R'
    ·rw [tk,adv]
     exact W'
  have l2:=aU.of (K:=K) h3
  have lw:ws.length=p.ws.length:=Paired.length h4
  refine ⟨_,rfl,l,_,rfl,.inl l2,rfl,_,rfl,?_⟩
  rcases gp.ws p mp with hw | ⟨wx,wy,hw,wn,_,_⟩ | hw
  ·rw [hw] at lw
   refine bB (fun _=> ?_) (fun c=>by rw [lw] at c;simp at c)
   refine ⟨_,rfl,a,C,dx,_,_,_,rfl,R2.obj,rfl,X6,_,rfl,_,rfl,sa,_,_,_,rfl,rfl,IM,gZ,_,rfl,sa,_,_,_,rfl,rfl,IM,ig,?_⟩
   dsimp only [iu]
   refine fin .cp H2 _ _ (au.refl _) (.inl ⟨rfl,hw⟩) fun H' CM sM s' l' R' W' => ?_
   have l' :=aU.of (K:=K) l'
   refine ⟨_,rfl,l,_,rfl,.inl l',rfl,_,rfl,?_⟩
   refine bB (fun c=>by rw [lw] at c;simp at c) (fun _=> ?_)
   refine ⟨_,rfl,l,_,rfl,.inl l',rfl,_,rfl,?_⟩
   refine bB (fun c=>by rw [lw] at c;simp at c) (fun _=> ?_)
   exact ⟨_,_,_,CM,sM,rfl,s',R',W'⟩
  ·rw [hw] at lw h4
   obtain ⟨w0,rfl⟩:∃w0,ws=[w0]:=by
    match ws,lw with
    | [w0],_=>exact ⟨w0,rfl⟩
   have hw0:d0 K H2 w0 (wx,wy):=by
    cases h4 with
    | cons h _=>exact h
   obtain ⟨wa,y2,y3,rfl,UM,M8,hm2⟩:=hw0
   refine bB (fun c=>by simp at c) (fun _=> ?_)
   refine ⟨_,rfl,l,_,rfl,.inl l2,rfl,_,rfl,?_⟩
   refine bB (fun _=> ?_) (fun c=>absurd rfl c)
   refine ⟨_,rfl,a,C,dx,_,_,_,rfl,R2.obj,rfl,Vi,_,rfl,_,rfl,sa,_,_,_,rfl,rfl,IM,gZ,_,rfl,sa,_,_,_,rfl,rfl,IM,ig,?_⟩
   refine ⟨_,rfl,l,_,_,_,rfl,rfl,l2,rfl,wa,_,_,_,rfl,rfl,UM,gZ,_,rfl,l,_,_,_,rfl,rfl,l2,rfl,wa,_,_,_,rfl,rfl,UM,ig,?_⟩
   intro gR d1 Vj X8 ne1
   have s4:au H2 (upd (upd H2 d1 (.own gR)) gR (.ins CR d1 [])):=fun b o e=>by rw [aj (ao e Vj),aj (ao e X8)];exact e
   have e4:(upd (upd H2 d1 (.own gR)) gR (.ins CR d1 [])) gR =some (.ins CR d1 []):=ag
   generalize upd (upd H2 d1 (.own gR)) gR (.ins CR d1 [])=H4 at s4 e4 ⊢
   refine ⟨gR,d1,y2,y3,wx,wy,rfl,e4,M8.same s4,hm2.same s4,wn,fun p5 n5=>⟨rfl,?_⟩⟩
   have zv:p5≠gR :=fun z=>by rw [z,e4] at n5;cases n5
   have s5:au H2 (upd (upd H4 p5 (.tup [y2,y3])) gR (.ins CR d1 [("way",.ref p5)])):=fun b o e=>by
    have z:b≠gR :=fun z=>by rw [z,Vj] at e;cases e
    rw [aj z]
    exact ay n5 _ _ _ (s4 _ _ e)
   have e5:(upd (upd H4 p5 (.tup [y2,y3])) gR (.ins CR d1 [("way",.ref p5)])) gR =some (.ins CR d1 [("way",.ref p5)]):=ag
   have t5:(upd (upd H4 p5 (.tup [y2,y3])) gR (.ins CR d1 [("way",.ref p5)])) p5=some (.tup [y2,y3]):=by rw [aj zv,ag]
   generalize upd (upd H4 p5 (.tup [y2,y3])) gR (.ins CR d1 [("way",.ref p5)])=H5 at s5 e5 t5 ⊢
   have X9:d0 K H5 (.ref p5) (wx,wy):=j0 t5 (M8.same s5) (hm2.same s5)
   dsimp only [iu]
   refine fin (.ref gR) H5 _ _ s5 (.inr ⟨gR,CR,d1,_,["self"],iM K CR,rfl,e5,IP _,wR,fun H6 e6 t6 Q' an=>⟨gR,d1,p5,(wx,wy),rfl,e6,X9.aJ t6,by rw [hw] at an;exact an⟩⟩) fun H' CM sM s' l' R' W' => ?_
   refine ⟨_,rfl,l,_,rfl,.inl (aU.of (K:=K) l'),rfl,_,rfl,?_⟩
   refine bB (fun c=>by simp at c) (fun _=> ?_)
   exact ⟨_,_,_,CM,sM,rfl,s',R',W'⟩
  ·rw [hw] at lw
   refine bB (fun c=>by rw [lw] at c;simp at c) (fun _=> ?_)
   refine ⟨_,rfl,l,_,rfl,.inl l2,rfl,_,rfl,?_⟩
   refine bB (fun c=>by rw [lw] at c;simp at c) (fun _=> ?_)
   refine ⟨_,rfl,l,_,rfl,.inl l2,rfl,_,rfl,?_⟩
   refine bB (fun _=> ?_) (fun c=>by rw [lw] at c;simp at c)
   refine ⟨_,rfl,a,C,dx,_,_,_,rfl,R2.obj,rfl,Vi,_,rfl,_,rfl,sa,_,_,_,rfl,rfl,IM,gZ,_,rfl,sa,_,_,_,rfl,rfl,IM,ig,?_⟩
   intro gR d1 Vj X8 ne1
   have s4:au H2 (upd (upd H2 d1 (.own gR)) gR (.ins CF d1 [])):=fun b o e=>by rw [aj (ao e Vj),aj (ao e X8)];exact e
   have e4:(upd (upd H2 d1 (.own gR)) gR (.ins CF d1 [])) gR =some (.ins CF d1 []):=ag
   generalize upd (upd H2 d1 (.own gR)) gR (.ins CF d1 [])=H4 at s4 e4 ⊢
   dsimp only [iu]
   refine fin (.ref gR) H4 _ _ s4 (.inr ⟨gR,CF,d1,_,["self"],iN K,rfl,e4,rfl,wF,fun H6 _ _ Q' an=>⟨gR,rfl,by rw [hw] at an;exact an⟩⟩) fun H' CM sM s' l' R' W' => ?_
   exact ⟨_,_,_,CM,sM,rfl,s',R',W'⟩
 ·rintro σ H2 ⟨o4,o5,o6,kP,kW,rfl,s2,R2,W2⟩
  rw [lu,adQ] at R2 W2
  have lv:mG.length=aq.length:=Paired.length pb
  refine ⟨_,rfl,bA,rfl,⟨_,aU.of (s2 _ _ hb)⟩,cv (K:=K) (a:=bA) (xs:=mG) (fun i σ H' =>∃(o3 o7 o8:Option V) (kB:List (Key×V)),σ=[some (.ref pA),some (.ref bA),some (.ref a),o3,o5,o6,o7,o8]∧au H H' ∧eK K H' C a dx pP pW pB (pins.map fun p=>(p.nm,sR p.sp)) ((aq.take i).map fun b=>(b.nm,b.one.nm,b.other.nm)) kP kW kB∧ug K H' (pins.map fun p=>(p.nm,p.ws)) kW) ⟨_,none,none,[],rfl,s2,R2,W2⟩ (fun i σ H' _ h=>by
    obtain ⟨_,_,_,_,_,s,_⟩:=h
    exact aU.of (s _ _ hb)) ?_ ?_⟩
  ·rintro i u σ H3 hu ⟨o3,o7,o8,kB,rfl,s3,R3,W3⟩
   obtain ⟨b,Vk,hbr⟩:=aK pb hu
   have mb:b∈aq:=aa_ Vk
   obtain ⟨ta,i1,j1,rfl,h1,g1,g2⟩:=hbr.same s3
   obtain ⟨m1,m2,m3⟩:=gb.ends b mb
   have tk:=take_snoc Vk
   have il:i < aq.length:=(be.mp Vk).1
   have Rf :∀(k:Nat) (p:aF),pins[k]? =some p→∃(c la:Addr) (sv:V),i8 us (k:Int)=some (.ref c)∧bH K H3 c [.str p.nm,sv,.ref la]:=fun k p ek=>by
    obtain ⟨u',eu',hu'⟩:=aK (eU pp) ek
    obtain ⟨c,la,sv,ws,rfl,q1,_⟩:=nF.same hu' s3
    exact ⟨c,la,sv,cU eu',q1⟩
   obtain ⟨c1,la1,sv1,ea1,q1⟩:=Rf _ _ g1
   obtain ⟨c2,la2,sv2,ea2,q2⟩:=Rf _ _ g2
   refine ⟨ta,_,rfl,h1,rfl,_,_,rfl,_,_,rfl,_,_,rfl,rfl,?_⟩
   have lp3:=aU.of (K:=K) (s3 _ _ hp)
   refine ⟨_,rfl,a,C,dx,_,_,_,rfl,R3.obj,rfl,X5,_,rfl,_,rfl,_,rfl,pA,_,_,_,rfl,rfl,lp3,ea1,c1,_,_,_,rfl,rfl,q1,rfl,_,rfl,_,rfl,pA,_,_,_,rfl,rfl,lp3,ea2,c2,_,_,_,rfl,rfl,q2,rfl,?_⟩
   refine ⟨a,dx,pP,pW,pB,_,_,kP,kW,kB,b.nm,b.one.nm,b.other.nm,rfl,R3,fun z=> ?_,?_,?_,m3,?_,fun H' Xm k' R' => ?_⟩
   ·rw [adC] at z
    obtain ⟨b',fG,e'⟩:=ab_.mp z
    exact fq (nm:=bu.nm) gb.nb Vk fG e'
   ·rw [adC]
    exact ab_.mpr ⟨_,m1,rfl⟩
   ·rw [adC]
    exact ab_.mpr ⟨_,m2,rfl⟩
   ·rw [Wp,adJ]
    omega
   ·refine ⟨_,_,_,Xm,rfl,fun c o z=>k' c o (ao z nB) (s3 _ _ z),?_,?_⟩
    ·rw [tk,adv]
     exact R'
    ·refine Paired.bZ W3 fun p' kv z=>⟨z.1,?_⟩
     obtain ⟨l',kJ,z1,z2,z3⟩:=z.2
     refine ⟨l',kJ,z1,k' _ _ (fun z=>by rw [z,R3.br] at z2;cases z2) z2,z3.aJ fun c xs r=> ?_⟩
     rcases r with r | ⟨o',r⟩
     ·exact .inl (k' _ _ (fun e=>by rw [e,R3.br] at r;cases r) r)
     ·exact .inr ⟨o',k' _ _ (fun e=>by rw [e,R3.br] at r;cases r) r⟩
  ·rintro σ H3 ⟨o3,o7,o8,kB,rfl,s3,R3,W3⟩
   rw [lv,adQ] at R3
   exact ⟨_,rfl,q a H3 s3 ⟨⟨dx,pP,pW,pB,kP,kW,kB,R3,W3⟩⟩⟩
inductive vt (K:Frag)(vs:List V)(H:Hp)(Q:VK)(E_:XK):Prop where
 | mk (l1 l2:Addr) (u1 u2 v1 v2:V) (x1 x2 y1 y2:Rat) (m n:Nat) (_:vs=[.ref l1,.ref l2]) (_:(aU K H l1 [u1,u2]∨bH K H l1 [u1,u2])) (_:(aU K H l2 [v1,v2]∨bH K H l2 [v1,v2])) (_:jJ K H u1 m x1) (_:jJ K H u2 m x2) (_:jJ K H v1 n y1) (_:jJ K H v2 n y2) (_:m+n≤30000000) (_:∀(v:V) (H' :Hp),au H H' →jJ K H' v (m+n+(m+n)+1) (x1*y1+x2*y2)→Q v H'):vt K vs H Q E_
theorem Rg:aC ["_law_one","_law_other"] ["_law_one","_law_other"] (af yC):=sq
theorem Rh (D:Def K mg "_law_dot" yC ["_law_one","_law_other"])(vq:Fn P w K mg base (aS P w) 1 "_law_sum" ["_law_one","_law_other"] (cQ K gF))(Ri:Fn P w K mg base (aS P w) 1 "_law_times" ["_law_one","_law_other"] (cQ K nE)):
  Fn P w K mg base (aS P w) 2 "_law_dot" ["_law_one","_law_other"] (vt K):=by
 refine D.ok Rg (fun vs H Q E h=> ?_) (fun f bj A outer s H vs Q E hr h=> ?_)
 ·obtain ⟨l1,l2,u1,u2,v1,v2,x1,x2,y1,y2,m,n,rfl,_⟩:=h
  rfl
 obtain ⟨l1,l2,u1,u2,v1,v2,x1,x2,y1,y2,m,n,rfl,h1,h2,a1,a2,b1,b2,le,q⟩:=h
 refine ⟨_,(ak (aG (aD vq hr.mo pX (ar (aD Ri hr.mo pX (ar (bc wo (pv 0) ah (fun _ _=>rfl)) (ar (bc wo (pv 1) ah (fun _ _=>rfl)) aa))) (ar (aD Ri hr.mo pX (ar (bc wo (pv 0) ah (fun _ _=>rfl)) (ar (bc wo (pv 1) ah (fun _ _=>rfl)) aa))) aa))))),?_⟩
 refine ⟨_,rfl,l1,_,_,_,rfl,rfl,h1,rfl,_,rfl,l2,_,_,_,rfl,rfl,h2,rfl,?_⟩
 dsimp only [iu]
 show cQ K nE [_,_] _ _ E0
 refine w4 a1 b1 (by omega) fun p3 H3 s3 n3=> ?_
 refine ⟨_,rfl,l1,_,_,_,rfl,rfl,(h1.imp s3.seq (Ty.au.fK s3)),rfl,_,rfl,l2,_,_,_,rfl,rfl,(h2.imp s3.seq (Ty.au.fK s3)),rfl,?_⟩
 dsimp only [iu]
 show cQ K nE [_,_] _ _ E0
 refine w4 (a2.same s3) (b2.same s3) (by omega) fun p4 H4 s4 n4=> ?_
 show cQ K gF [_,_] _ _ E0
 refine qE (n3.same s4) n4 (by omega) fun p5 H5 s5 n5=> ?_
 exact q (.ref p5) H5 (s3.trans (s4.trans s5)) n5
structure uk (K:Frag)(H:Hp)(d:Addr)(kvs:List (Key×V))(pins:List aF)(L:Str→Option (Rat×Rat))(B:Nat):Prop where
 hd:H d=some (.dK kvs)
 pt:uR K H kvs L
 nk:(kvs.map (·.1)).Nodup
 ks:∀kv∈kvs,∃x∈pins.map (·.nm),kv.1=.inr x
 sz:∀x,Sz B (mv L x).1∧Sz B (mv L x).2
 ll:kvs.length≤100
theorem uk.same {H H' :Hp}{d:Addr}{kvs:List (Key×V)}{pins:List aF}{L:Str→Option (Rat×Rat)}{B:Nat}(h:uk K H d kvs pins L B)(s:au H H'):uk K H' d kvs pins L B:=⟨s _ _ h.hd,h.pt.same s,h.nk,h.ks,h.sz,h.ll⟩
theorem uk.at {H:Hp}{d:Addr}{kvs:List (Key×V)}{pins:List aF}{L:Str→Option (Rat×Rat)}{B:Nat}(h:uk K H d kvs pins L B){t:Nat}{k:Key}{y:V}(e:kvs[t]? =some (k,y)):∃x,k=.inr x∧x∈pins.map (·.nm)∧d0 K H y (mv L x):=by
 obtain ⟨x,hx,ek⟩:=h.ks _ (aa_ e)
 have XT :k=.inr x:=ek
 subst XT
 refine ⟨x,rfl,hx,?_⟩
 have ev:=iJ h.nk e
 rcases h.pt x with ⟨z,_⟩ | ⟨v,p,z1,z2,z3⟩
 ·rw [ev] at z
  cases z
 ·rw [ev] at z1
  cases z1
  unfold mv
  rw [z2]
  exact z3
theorem DQ {f:Str→Rat}:∀{ks names:List Str},ks.Nodup→names.Nodup→(∀x∈ks,x∈names)→(∀x∈names,x∉ks→f x=0)→(ks.map f).sum=(names.map f).sum:=by
 have X_:∀{f:Str→Rat} {l:List Str},(∀x∈l,f x=0)→(l.map f).sum=0:=fun {f l} h=>by
  induction l with
  | nil=>rfl
  | cons a l ih=>
   rw [ada,adF,h a adh,ih fun x hx=>h x (ade _ hx)]
   grind
 have pull:∀{f:Str→Rat} {k:Str} {l:List Str},l.Nodup→k∈l→(l.map f).sum=f k+(l.map fun x=>if x=k then 0 else f x).sum:=fun {f k l} nd hk=>by
  induction l with
  | nil=>cases hk
  | cons a l ih=>
   rw [adH] at nd
   rw [ada,ada,adF,adF]
   by_cases c:a=k
   ·subst c
    rw [if_pos rfl]
    have e:(l.map fun x=>if x=a then 0 else f x)=l.map f:=ady fun x hx=>if_neg (fun z=>nd.1 (by rw [← z];exact hx))
    rw [e]
    grind
   ·have hk' :k∈l:=by
     rcases adz.mp hk with z | z
     ·exact absurd z.symm c
     ·exact z
    rw [ih nd.2 hk',if_neg c]
    grind
 intro ks
 induction ks generalizing f with
 | nil=>
  intro names _ _ _ h
  rw [X_ fun x hx=>h x hx (by simp)]
  rfl
 | cons k ks ih=>
  intro names nk nn sub h
  rw [adH] at nk
  rw [ada,adF,pull nn (sub k adh)]
  congr 1
  rw [← ih (f:=fun x=>if x=k then 0 else f x) nk.2 nn (fun x hx=>sub x (ade _ hx)) fun x hx nx=> ?_]
  ·exact congrArg List.sum (ady fun x hx=>(if_neg (fun z:x=k=>nk.1 (by rw [← z];exact hx))).symm)
  ·show (if x=k then 0 else f x)=0
   by_cases c:x=k
   ·rw [if_pos c]
   ·rw [if_neg c]
    exact h x hx (by
     intro z
     rcases adz.mp z with z | z
     ·exact c z
     ·exact nx z)
def ie:Key→Str
 | .inr x=>x
 | .inl _=> ""
theorem uk.sum {H:Hp}{d:Addr}{kvs:List (Key×V)}{pins:List aF}{L:Str→Option (Rat×Rat)}{B:Nat}(h:uk K H d kvs pins L B)(np:(pins.map (·.nm)).Nodup)(M:Str→Rat×Rat):(kvs.map fun kv=>dt (mv L (ie kv.1)) (M (ie kv.1))).sum=b8 pins L M:=by
 have nk:(kvs.map fun kv=>ie kv.1).Nodup:=by
  have e:(kvs.map fun kv=>ie kv.1)=(kvs.map (·.1)).map ie:=by rw [adC];rfl
  rw [e]
  unfold amc
  rw [ae_]
  refine alO (fun {a b} ha hb ne e=>ne ?_) h.nk
  obtain ⟨ka,hka,rfl⟩:=ab_.mp ha
  obtain ⟨kb,hkb,rfl⟩:=ab_.mp hb
  obtain ⟨x,_,ex⟩:=h.ks ka hka
  obtain ⟨y,_,ey⟩:=h.ks kb hkb
  rw [ex,ey] at e ⊢
  exact congrArg adU e
 have s:=DQ (f:=fun x=>dt (mv L x) (M x)) nk np (fun x hx=>by
  obtain ⟨kv,QQ,rfl⟩:=ab_.mp hx
  obtain ⟨y,hy,ey⟩:=h.ks kv QQ
  rw [ey]
  exact hy) fun x hx nx=>by
   rcases h.pt x with ⟨_,z⟩ | ⟨v,p,z1,_,_⟩
   ·unfold mv
    rw [z]
    exact fS _
   ·exact absurd (ab_.mpr ⟨_,lZ z1,rfl⟩) nx
 rw [adC,adC] at s
 exact s
inductive qL (K:Frag)(vs:List V)(H:Hp)(Q:VK)(E_:XK):Prop where
 | mk (d dM:Addr) (kvs kM:List (Key×V)) (pins:List aF) (L:Str→Option (Rat×Rat)) (M:Str→Rat×Rat) (N B:Nat) (_:vs=[.ref d,.ref dM]) (_:uk K H d kvs pins L B) (_:(pins.map (·.nm)).Nodup) (_:ID K H pins dM kM M N) (_:dM≠d) (_:kvs.length≤40) (_:N≤400000) (_:B≤400000) (_:∀(v:V) (H' :Hp),au H H' →jJ K H' v (1+40*(2*N+2*B+2)) (b8 pins L M)→Q v H'):qL K vs H Q E_
theorem tQ:aC ["_law_load_here","_law_motion","_law_total","_law_name_here","_law_drawn"] ["_law_load_here","_law_motion"] (af yD):=sq
theorem Rj (D:Def K mg "_law_work" yD ["_law_load_here","_law_motion"])(vq:Fn P w K mg base (aS P w) 1 "_law_sum" ["_law_one","_law_other"] (cQ K gF))(X':Fn P w K mg base (aS P w) 2 "_law_dot" ["_law_one","_law_other"] (vt K)):
  Fn P w K mg base (aS P w) 3 "_law_work" ["_law_load_here","_law_motion"] (qL K):=by
 refine D.ok tQ (fun vs H Q E h=> ?_) (fun f bj A outer s H vs Q E hr h=> ?_)
 ·obtain ⟨d,dM,kvs,kM,pins,L,M,N,B,rfl,_⟩:=h
  rfl
 obtain ⟨d,dM,kvs,kM,pins,L,M,N,B,rfl,ld,np,mo,ne,lk,hN,hB,q⟩:=h
 have L2:2≤sizeLine:=by decide
 have sm:=ld.sum np M
 refine ⟨_,(ae (ax (i:=2) tQ.nd rfl (adi rfl) (aI (ar ah (ar ah aa))))
  (ae (iE (bo PassesOwn.never rfl (iD (pv 0)) (eW rfl (aX (aE (i:=3) tQ.nd rfl (adi rfl)) (aX (aE (i:=4) tQ.nd rfl (adi rfl)) cN))) (ak (ax (i:=2) tQ.nd rfl (adi rfl) (aD vq hr.mo pX (ar (pv 2) (ar (aD X' hr.mo pX (ar (pv 4) (ar (fJ (cf hr) (pv 1) (pv 3) (fun _ _=>rfl)) aa))) aa)))))))
  (ak (aG (pv 2))))),?_⟩
 refine ⟨L2,?_⟩
 intro t1 n1;generalize eX:upd _ t1 _=H1;have ⟨s1,e1⟩:=nw n1 eX;clear eX
 have Nq:=ld.same s1
 have mo1:=mo.same s1
 have t0:jJ K H1 (.ref t1) (1+0*(2*N+2*B+2)) ((kvs.take 0).map fun kv=>dt (mv L (ie kv.1)) (M (ie kv.1))).sum:=by
  rw [Nat.zero_mul]
  exact ⟨(0,1),⟨t1,rfl,bH.of e1⟩,by decide,(show vl ((0,1):Int×Int)=0 by decide+kernel),by decide,by decide⟩
 refine ⟨_,rfl,d,kvs,rfl,Nq.hd,fun o=> ?_⟩
 have st:∀{H' :Hp},aH d H1 H' →bg H1 H' :=fun {H'} k b xs r=>by
  rcases r with r | ⟨o',r⟩
  ·exact .inl (k _ _ (fun e=>by rw [e,Nq.hd] at r;cases r) r)
  ·exact .inr ⟨o',k _ _ (fun e=>by rw [e,Nq.hd] at r;cases r) r⟩
 have k0:aH d H1 (upd H1 d (.bP o (.dK kvs))):=fun b o' n e=>by rw [aj n];exact e
 refine fm (d:=d) (o:=o) (kvs:=kvs) (fun t σ H' =>∃(tv:V) (o3 o4:Option V),σ=[some (.ref d),some (.ref dM),some tv,o3,o4]∧aH d H1 H' ∧H' d=some (.bP o (.dK kvs))∧jJ K H' tv (1+t*(2*N+2*B+2)) ((kvs.take t).map fun kv=>dt (mv L (ie kv.1)) (M (ie kv.1))).sum) ⟨.ref t1,none,none,rfl,k0,ag,t0.aJ (st k0)⟩ (fun t σ H' _ h=>by
   obtain ⟨_,_,_,_,_,h,_⟩:=h
   exact h) ?_ ?_
 ·rintro t k y σ H6 p7 qd ⟨tv,o3,o4,rfl,k6,yW,nt⟩ n7
  have ht:t < kvs.length:=(be.mp qd).1
  obtain ⟨x,rfl,hx,hv⟩:=Nq.at qd
  obtain ⟨p,mp,rfl⟩:=ab_.mp hx
  have s7:=ay n7 (.tup [kV (.inr p.nm),y])
  have e7:(upd H6 p7 (.tup [kV (.inr p.nm),y])) p7=some (.tup [kV (.inr p.nm),y]):=ag
  generalize upd H6 p7 (.tup [kV (.inr p.nm),y])=H7 at s7 e7 ⊢
  have k7:aH d H1 H7:=fun b o' n e=>s7 _ _ (k6 b o' n e)
  refine ⟨p7,_,rfl,bH.of e7,rfl,_,_,rfl,_,_,rfl,rfl,?_⟩
  obtain ⟨tm,v1,v2,dg,et,m1,m2⟩:=mo1.tM p mp
  have dg7:cT H7 dM (.str p.nm) (some (.ref tm)):=by
   have:=cT.k (k:=.inr p.nm) (k7 _ _ ne mo1.hM)
   rw [dg] at this
   exact this
  have et7:H7 tm=some (.tup [v1,v2]):=k7 _ _ (fun e=>by rw [e,Nq.hd] at et;cases et) et
  obtain ⟨da,u1,u2,rfl,Nr,CO,hd2⟩:=hv.aJ (st k7)
  have zd:=ld.sz p.nm
  have zm:=mo.zb p mp
  refine ⟨_,rfl,_,rfl,_,rfl,_,rfl,dM,_,rfl,dg7,?_⟩
  dsimp only [iu]
  refine ⟨da,tm,u1,u2,v1,v2,_,_,_,_,B,N,rfl,.inr Nr,.inr (bH.of et7),mP CO (wZ zd.1 (adf _)),mP hd2 (wZ zd.2 (adf _)),mP (m1.aJ (st k7)) zm.1,mP (m2.aJ (st k7)) zm.2,by omega,fun v8 H8 s8 n8=> ?_⟩
  show cQ K gF [_,_] _ _ E0
  have bt:t*(2*N+2*B+2)≤39*(2*N+2*B+2):=adR _ (by omega)
  refine qE ((nt.same s7).same s8) n8 (by omega) fun p9 H9 s9 n9=> ?_
  refine ⟨_,_,_,rfl,fun b o' n e=>s9 _ _ (s8 _ _ (k7 b o' n e)),s9 _ _ (s8 _ _ (s7 _ _ yW)),?_⟩
  have ew:((kvs.take (t+1)).map fun kv=>dt (mv L (ie kv.1)) (M (ie kv.1))).sum=((kvs.take t).map fun kv=>dt (mv L (ie kv.1)) (M (ie kv.1))).sum+((mv L p.nm).1*(M p.nm).1+(mv L p.nm).2*(M p.nm).2):=by
   rw [take_snoc qd,adv,List.sum_append,ada,adZ,adF,aeu]
   show _+(dt (mv L p.nm) (M p.nm)+0)=_
   unfold dt
   grind
  rw [ew]
  exact n9.up (by rw [aeN];omega)
 ·rintro σ H6 ⟨tv,o3,o4,rfl,k6,yW,nt⟩
  refine ⟨d,o,kvs,yW,fun o' u' z=>(by have z' :H d=some (.bP o' u'):=z;rw [ld.hd] at z';cases z'),?_⟩
  have s2:au H1 (upd H6 d (.dK kvs)):=fun b o' e=>by
   by_cases n:b=d
   ·subst n
    rw [Nq.hd] at e
    rw [ag]
    exact e
   ·rw [aj n]
    exact k6 b o' n e
  have t2:jJ K (upd H6 d (.dK kvs)) tv (1+kvs.length*(2*N+2*B+2)) ((kvs.take kvs.length).map fun kv=>dt (mv L (ie kv.1)) (M (ie kv.1))).sum:=nt.aJ fun b xs r=>by
   rcases r with r | ⟨o',r⟩
   ·exact .inl (by rw [aj (fun e=>by rw [e,yW] at r;cases r)];exact r)
   ·by_cases c:b=d
    ·rw [c,yW] at r
     cases r
    ·exact .inr ⟨o',by rw [aj c];exact r⟩
  generalize upd H6 d (.dK kvs)=H8 at s2 t2 ⊢
  rw [adQ,sm] at t2
  have bt:kvs.length*(2*N+2*B+2)≤40*(2*N+2*B+2):=adR _ lk
  exact ⟨_,rfl,q tv H8 (s1.trans s2) (t2.up (by omega))⟩
theorem DR {x:V}{ys:List V}:i8 (x::ys) 0=some x:=cU (xs:=x::ys) (j:=0) rfl
theorem uR.put {K:Frag}{H:Hp}{kvs:List (Key×V)}{F:Str→Option (Rat×Rat)}(h:uR K H kvs F){x:Str}{v:V}{q:Rat×Rat}(n:d0 K H v q):uR K H (putK kvs (.inr x) v) (fun nm=>if nm=x then some q else F nm):=fun nm=>by
 show (bE (putK kvs (.inr x) v) (.inr nm)=none∧(if nm=x then some q else F nm)=none)∨∃v' p,bE (putK kvs (.inr x) v) (.inr nm)=some v' ∧(if nm=x then some q else F nm)=some p∧d0 K H v' p
 rw [lO]
 by_cases c:nm=x
 ·subst c
  rw [if_pos rfl,if_pos rfl]
  exact .inr ⟨v,q,rfl,rfl,n⟩
 ·rw [if_neg (fun e=>c (by injection e)),if_neg c]
  exact h nm
theorem mU {kvs:List (Key×V)}{k:Key}{v:V}(h:(kvs.map (·.1)).Nodup):((putK kvs k v).map (·.1)).Nodup:=by
 unfold putK
 split
 ·have e:((kvs.map fun kv=>if kv.1=k then (kv.1,v) else kv).map (·.1))=kvs.map (·.1):=by
   rw [adC]
   refine ady fun kv _=> ?_
   show (if kv.1=k then (kv.1,v) else kv).1=kv.1
   split <;> rfl
  rw [e]
  exact h
 ·rename_i c
  rw [adv,aei]
  refine ⟨h,by simp,fun a ha b hb z=>c ?_⟩
  have fG :b=k:=by simpa using hb
  obtain ⟨kv,QQ,ek⟩:=ab_.mp ha
  rw [aex]
  exact ⟨kv,QQ,decide_eq_true (by rw [ek,z,fG])⟩
theorem p9:FZ 10 9:=⟨by decide,by decide,by decide⟩
theorem p18:FZ 10 18:=⟨by decide,by decide,by decide⟩
theorem DS {t b:Int}(h:0 < b)(h1:t.natAbs < 1073741824)(h2:b < 1073741824):Sz 30 ((t:Rat) / (b:Rat)):=uP (adV h) (intBits_le_iff.mpr (by show _ < 1073741824;omega)) (intBits_le_iff.mpr (by show _ < 1073741824;omega))
inductive qM (K:Frag)(vs:List V)(H:Hp)(Q:VK)(E_:XK):Prop where
 | mk (sA pA:Addr) (ns:List Int) (us:List V) (pins:List aF) (_:vs=[.ref sA,.ref pA]) (_:aU K H sA (ns.map V.int)) (_:(∀i∈ns,intBits i≤1048576)) (_:H pA=some (.lst us)) (_:Paired (nF K H) us pins) (_:pins.length≤9) (_:∀(d:Addr) (kM:List (Key×V)) (M:Str→Option (Rat×Rat)) (H' :Hp),au H H' →H d=none→uk K H' d kM pins M 30→kM.length≤9→Q (.ref d) H'):qM K vs H Q E_
theorem j5:aC ["_law_script","_law_pins_here","_law_load_here","_law_far","_law_k","_law_cell","_law_x","_law_other","_law_y"] ["_law_script","_law_pins_here"] (af s_by):=sq
theorem Rk (D:Def K mg "_law_load" s_by ["_law_script","_law_pins_here"])(bO:mg "range"=none)(bw:mg "len"=none)(oM:mg "int"=none)(mS:Fn P w K mg base (aS P w) 1 "_law_cell_at" ["_law_script","_law_k"] (jI K))(cL:Fn P w K mg base (aS P w) 1 "_law_field" ["_law_cell","_law_prime","_law_many"] dR)(kh:Fn P w K mg base (aS P w) 33 "_law_lowest" ["_law_top","_law_bottom"] cj):
  Fn P w K mg base (aS P w) 34 "_law_load" ["_law_script","_law_pins_here"] (qM K):=by
 refine D.ok j5 (fun vs H Q E h=> ?_) (fun f bj A outer s H vs Q E hr h=> ?_)
 ·obtain ⟨sA,pA,ns,us,pins,rfl,_⟩:=h
  rfl
 obtain ⟨sA,pA,ns,us,pins,rfl,hS,hb,hp,pp,lp,q⟩:=h
 have L2:2≤sizeLine:=by decide
 have lu:us.length=pins.length:=Paired.length pp
 refine ⟨_,(ae (ax (i:=2) j5.nd rfl (adi rfl) dC)
  (ae (ax (i:=3) j5.nd rfl (adi rfl) (aA oT ah ah))
  (ae (bo PassesOwn.never rfl (dS rfl bO (ar (a8 aY rfl bw dA (ar (pv 1) aa)) aa)) (aE (i:=4) j5.nd rfl (adi rfl)) (ae (ax (i:=5) j5.nd rfl (adi rfl) (aD mS hr.mo pX (ar (pv 0) (ar (aA bx ah (pv 4)) aa))))
   (ae (ax (i:=6) j5.nd rfl (adi rfl) (aD kh hr.mo pX (ar (aA c8 (aA dq (pv 5) (aA bx (aA bN ah (pv 3)) ah)) (pv 3)) (ar (aA bx ah (aD cL hr.mo pX (ar (pv 5) (ar ah (ar ah aa))))) aa))))
   (ae (ax (i:=7) j5.nd rfl (adi rfl) (bc a_ (bG (ar (aA bN (pv 5) ah) (ar (aA lH (pv 5) (aA bx (aA bN ah (pv 3)) ah)) aa))) (cz nS rfl oM JH (ar (KD (z4 NV nR ah (pv 5) (aA oT ah ah))) aa)) (fun _ _=>rfl)))
   (ae (ax (i:=8) j5.nd rfl (adi rfl) (aD kh hr.mo pX (ar (aA c8 (aA dq (pv 7) (aA bx (aA bN ah (pv 3)) ah)) (pv 3)) (ar (aA bx ah (aD cL hr.mo pX (ar (pv 5) (ar ah (ar ah aa))))) aa))))
   (ak (bC (aL zX (aD cL hr.mo pX (ar (pv 5) (ar ah (ar ah aa)))) ah (aZ _)) (ak (cV (cf hr) (pv 2) (aR (bc a_ (pv 1) (pv 4) (fun _ _=>rfl))) (aI (ar (pv 6) (ar (pv 8) aa))) rfl)) aQ)))))))
  (ak (aG (pv 2)))))),?_⟩
 intro d n1;generalize eX:upd _ d _=H1;have ⟨s1,e1⟩:=nw n1 eX;clear eX
 dsimp only
 refine eI (fun σ' H' =>σ' =[some (.ref sA),some (.ref pA),some (.ref d),some (.int 1000000000),none,none,none,none,none]∧H' =H1) (fun Nx tO=>⟨_,_,rfl,rfl,p9,tO _ _ ⟨rfl,rfl⟩⟩) ?_
 rintro σ' Hy ⟨rfl,rfl⟩
 refine ⟨_,rfl,pA,_,rfl,.inl (aU.of (s1 _ _ hp)),((us.length:Nat):Int),rfl,by omega,by omega,dW (lo:=0) (n:=((us.length:Nat):Int).toNat) (fun i σ H' =>∃(o4 o5 o6 o7 o8:Option V) (kM:List (Key×V)) (M:Str→Option (Rat×Rat)),σ=[some (.ref sA),some (.ref pA),some (.ref d),some (.int 1000000000),o4,o5,o6,o7,o8]∧au H H' ∧H' d=some (.dK kM)∧uR K H' kM M∧(∀x,Sz 30 (mv M x).1∧Sz 30 (mv M x).2)∧(∀kv∈kM,∃x∈pins.map (·.nm),kv.1=.inr x)∧(kM.map (·.1)).Nodup∧kM.length≤i) ⟨none,none,none,none,none,[],fun _=>none,rfl,s1,e1,fun nm=>.inl ⟨rfl,rfl⟩,fun x=>⟨dy (by decide),dy (by decide)⟩,fun kv h=>(nomatch h),aeS,adf _⟩ ?_ ?_⟩
 ·rintro i σ H2 hi ⟨o4,o5,o6,o7,o8,kM,M,rfl,s2,e2,pM,zM,ky,Vl,ll⟩
  have ek:(0:Int)+(i:Int)=(i:Int):=aed _
  rw [ek]
  have M6:i < us.length:=by omega
  refine ⟨_,rfl,_,rfl,_,_,rfl,rfl,sA,ns,_,rfl,s2.seq hS,by omega,by omega,?_⟩
  have cb:=ze hb (16+(i:Int))
  generalize cell ns (16+(i:Int))=c at cb ⊢
  have i1:=aT (c:=c) (p:=1009) (m:=997) (by decide)
  have i2:=aT (c:=c) (p:=2003) (m:=997) (by decide)
  have f1:=fV (x:=c) (m:=2*1000000000+1) (by decide)
  refine ⟨_,rfl,_,rfl,_,_,rfl,rfl,⟨by decide+kernel,by decide+kernel⟩,_,_,rfl,rfl,_,_,rfl,rfl,nz (by decide),_,rfl,_,_,rfl,rfl,_,rfl,_,_,_,rfl,by decide,by decide,by decide,_,_,rfl,rfl,_,_,rfl,by omega,fun p1 H3 s3 e3=> ?_⟩
  rw [de (by omega)] at e3
  have z3:=DS (t:=c.fmod (2*1000000000+1) - 1000000000) (b:=1+field c 1009 997) (by omega) (by omega) (by omega)
  generalize ((c.fmod (2*1000000000+1) - 1000000000:Int):Rat) / ((1+field c 1009 997:Int):Rat)=x at e3 z3
  dsimp only [cY]
  refine eI (fun σ' H' =>∃z:Int,σ' =[some (.ref sA),some (.ref pA),some (.ref d),some (.int 1000000000),some (.int (i:Int)),some (.int c),some (.ref p1),some (.int z),o8]∧au H3 H') (fun Nx tO=> ?_) ?_
  ·refine ⟨_,rfl,_,_,rfl,rfl,⟨adb cb (by decide),by decide+kernel⟩,_,rfl,_,rfl,_,_,rfl,rfl,⟨by decide+kernel,by decide+kernel⟩,_,_,rfl,rfl,_,_,rfl,rfl,⟨by decide,by decide+kernel⟩,L2,?_⟩
   intro t4 n4;generalize eX:upd _ t4 _=H4;have ⟨s4,e4⟩:=nw n4 eX;clear eX
   have done:∀k:Bool,∃z:Int,i8 [V.int (c*69621),.int (c.fdiv (2*1000000000+1))] (if k=true then 1 else 0)=some (.int z):=fun k=>by
    cases k
    ·exact ⟨_,rfl⟩
    ·exact ⟨_,rfl⟩
   refine ⟨_,rfl,_,_,rfl,rfl,_,rfl,?_⟩
   refine bB (fun _=> ?_) (fun _=> ?_)
   ·refine ⟨_,_,rfl,rfl,p18,_,_,rfl,rfl,_,rfl,.inr ⟨_,rfl,?_⟩⟩
    obtain ⟨z,ez⟩:=done (!decide (c < (10:Int)^(18:Int).toNat))
    exact ⟨t4,_,_,_,rfl,rfl,aU.of e4,ez,tO _ _ ⟨z,rfl,s4⟩⟩
   ·refine ⟨_,rfl,.inr ⟨_,rfl,?_⟩⟩
    obtain ⟨z,ez⟩:=done (!false)
    exact ⟨t4,_,_,_,rfl,rfl,aU.of e4,ez,tO _ _ ⟨z,rfl,s4⟩⟩
  rintro σ' H4 ⟨z,rfl,s4⟩
  have f2:=fV (x:=z) (m:=2*1000000000+1) (by decide)
  refine ⟨_,rfl,_,rfl,_,_,rfl,rfl,⟨by decide+kernel,by decide+kernel⟩,_,_,rfl,rfl,_,_,rfl,rfl,nz (by decide),_,rfl,_,_,rfl,rfl,_,rfl,_,_,_,rfl,by decide,by decide,by decide,_,_,rfl,rfl,_,_,rfl,by omega,fun p5 H5 s5 e5=> ?_⟩
  rw [de (by omega)] at e5
  have z5:=DS (t:=z.fmod (2*1000000000+1) - 1000000000) (b:=1+field c 2003 997) (by omega) (by omega) (by omega)
  generalize ((z.fmod (2*1000000000+1) - 1000000000:Int):Rat) / ((1+field c 2003 997:Int):Rat)=y at e5 z5
  have Rl:=s3.trans (s4.trans s5)
  have U5:=s2.trans Rl
  obtain ⟨p,ep,X7⟩:=aK pp (gE M6)
  have mp:p∈pins:=aa_ ep
  refine ⟨_,rfl,_,_,_,rfl,by decide,by decide,by decide,_,_,rfl,rfl,_,rfl,?_⟩
  refine bB (fun _=> ?_) (fun _=> ?_)
  ·refine ⟨_,rfl,_,rfl,L2,?_⟩
   intro va n6;generalize eX:upd _ va _=H6;have ⟨s6,e6⟩:=nw n6 eX;clear eX
   have QN:=U5.trans s6
   obtain ⟨ta,l,sv,ws,eu,h1,_⟩:=X7.same QN
   have ai:i8 us (i:Int)=some (.ref ta):=cU (by rw [gE M6,eu])
   have Ya:=s6 _ _ (Rl _ _ e2)
   refine ⟨_,rfl,_,rfl,_,rfl,pA,_,_,_,rfl,rfl,aU.of (QN _ _ hp),ai,ta,_,_,_,rfl,rfl,h1,DR,d,_,rfl,gf.k (k:=.inr p.nm) Ya (adm (show kM.length≤1000 by omega) (by decide)),?_⟩
   have t7:bg H6 (upd H6 d (.dK (putK kM (.inr p.nm) (.ref va)))):=fun b zs r=>by
    rcases r with r | ⟨o',r⟩
    ·exact .inl (by rw [aj (fun e=>by rw [e,Ya] at r;cases r)];exact r)
    ·exact .inr ⟨o',by rw [aj (fun e=>by rw [e,Ya] at r;cases r)];exact r⟩
   have hv:d0 K H6 (.ref va) (x,y):=j0 e6 ((f' e3).same (s4.trans (s5.trans s6))) ((f' e5).same s6)
   refine ⟨_,_,_,_,_,_,_,rfl,fun b o' z=> ?_,ag,uR.put (F:=M) (fun nm=> ?_) (hv.aJ t7),fun nm=> ?_,ou (fun k:Key=>∃x∈pins.map (·.nm),k=adU x) ky ⟨p.nm,ab_.mpr ⟨p,mp,rfl⟩,rfl⟩,mU Vl,adb (dB _ _ _) (by omega)⟩
   ·rw [aj (ao z n1)]
    exact QN _ _ z
   ·rcases (pM.same (Rl.trans s6)) nm with h | ⟨v,q',a1,a2,a3⟩
    ·exact .inl h
    ·exact .inr ⟨v,q',a1,a2,a3.aJ t7⟩
   ·show Sz 30 ((if nm=p.nm then some (x,y) else M nm).getD (0,0)).1∧Sz 30 ((if nm=p.nm then some (x,y) else M nm).getD (0,0)).2
    by_cases cc:nm=p.nm
    ·rw [if_pos cc]
     exact ⟨z3,z5⟩
    ·rw [if_neg cc]
     exact zM nm
  ·exact ⟨_,_,_,_,_,kM,M,rfl,U5,Rl _ _ e2,pM.same Rl,zM,ky,Vl,by omega⟩
 ·rintro σ H2 ⟨o4,o5,o6,o7,o8,kM,M,rfl,s2,e2,pM,zM,ky,Vl,ll⟩
  exact ⟨_,rfl,q d kM M H2 s2 n1 ⟨e2,pM,Vl,ky,zM,by omega⟩ (by omega)⟩
theorem DT {α:Type}{k:Nat}{f:α→Rat}:∀{l:List α},(∀x∈l,Sz k (f x))→Sz (l.length*(k+1)+1) (l.map f).sum
 | [],_=>by
  rw [adZ,aeu]
  exact dy (by simp)
 | x::l,h=>by
  rw [ada,adF,adI]
  refine ((h x adh).add (DT fun y hy=>h y (ade _ hy))).up ?_
  rw [aeN]
  omega
def jK (k:Nat)(y:Rat)(q:Rat×Rat):Rat×Rat:=if k=0 then (y,q.2) else (q.1,y)
theorem IQ {j k:Nat}{y:Rat}{q:Rat×Rat}(h:j≠k)(hj:j≤1)(hk:k≤1):gD j (jK k y q)=gD j q:=by
 unfold gD jK
 by_cases c:k=0
 ·rw [if_neg (show ¬ j=0 by omega),if_pos c,if_neg (show ¬ j=0 by omega)]
 ·rw [if_pos (show j=0 by omega),if_neg c,if_pos (show j=0 by omega)]
def IS (L:Str→Option (Rat×Rat))(x:Str)(k:Nat)(y:Rat):Str→Option (Rat×Rat):=fun nm=>if nm=x then some (jK k y (mv L x)) else L nm
theorem qN (L:Str→Option (Rat×Rat))(x:Str)(k:Nat)(y:Rat)(nm:Str):mv (IS L x k y) nm=if nm=x then jK k y (mv L x) else mv L nm:=by
 show (if nm=x then some (jK k y (mv L x)) else L nm).getD (0,0)=if nm=x then jK k y (mv L x) else (L nm).getD (0,0)
 by_cases c:nm=x
 ·rw [if_pos c,if_pos c]
  rfl
 ·rw [if_neg c,if_neg c]
theorem DU {pins:List aF}(np:(pins.map (·.nm)).Nodup){p:aF}(hp:p∈pins)(L:Str→Option (Rat×Rat))(k:Nat)(y:Rat)(M:Str→Rat×Rat):b8 pins (IS L p.nm k y) M=b8 pins L M+(y - gD k (mv L p.nm))*gD k (M p.nm):=by
 have e:∀q∈pins,dt (mv (IS L p.nm k y) q.nm) (M q.nm)=dt (mv L q.nm) (M q.nm)+dt (mv (dJ p.nm (jK k (y - gD k (mv L p.nm)) (0,0))) q.nm) (M q.nm):=fun q _=>by
  rw [qN,gA]
  by_cases c:q.nm=p.nm
  ·rw [if_pos c,if_pos c,c]
   unfold dt jK gD
   by_cases z:k=0
   ·simp only [if_pos z]
    grind
   ·simp only [if_neg z]
    grind
  ·rw [if_neg c,if_neg c,fS]
   grind
 unfold b8
 rw [ady e,sum_add,gO np hp]
 congr 1
 unfold dt jK gD
 by_cases z:k=0
 ·simp only [if_pos z]
  grind
 ·simp only [if_neg z]
  grind
theorem tS {n:Nat}{r:Rat}(h:Zb n r):Sz (n+1) r:=by
 have l:2^n < 2^(n+1):=al9 (by decide) (adO n)
 exact ⟨intBits_le_iff.mpr (adm h.top l),intBits_le_iff.mpr (adm h.bot l)⟩
theorem IT {pins:List aF}{L:Str→Option (Rat×Rat)}{M:Str→Rat×Rat}{N:Nat}(z:∀x,Sz 30 (mv L x).1∧Sz 30 (mv L x).2)(zm:∀p∈pins,Zb N (M p.nm).1∧Zb N (M p.nm).2)(lp:pins.length≤9):Sz (9*(2*N+64)+1) (b8 pins L M):=by
 have h:∀p∈pins,Sz (2*N+63) (dt (mv L p.nm) (M p.nm)):=fun p hp=>by
  unfold dt
  exact (((z p.nm).1.mul (tS (zm p hp).1)).add ((z p.nm).2.mul (tS (zm p hp).2))).up (by omega)
 unfold b8
 refine (DT h).up ?_
 have:=adR (2*N+63+1) lp
 omega
inductive vv (K:Frag)(vs:List V)(H:Hp)(Q:VK)(E_:XK):Prop where
 | mk (d dm:Addr) (kvs:List (Key×V)) (kT:List (List Key×V)) (pins:List aF) (aq:List bu) (L:Str→Option (Rat×Rat)) (ms:List fT) (_:vs=[.ref d,.ref dm]) (_:uk K H d kvs pins L 30) (_:kvs.length≤9) (_:(pins.map (·.nm)).Nodup) (_:pins.length≤9) (_:H dm=some (.dT kT)) (_:fU K H pins aq kT ms 20000) (_:(∀kv∈kT,kv.2≠.ref d)) (_:∀(ke :List (Key×V)) (L' :Str→Option (Rat×Rat)) (H' :Hp),aH d H H' →uk K H' d ke pins L' 400000→ke.length≤40→Q (.ref d) H'):vv K vs H Q E_
theorem cM:aC ["_law_load_here","_law_moves","_law_pair","_law_work_here","_law_here","_law_turned_here"] ["_law_load_here","_law_moves"] (af cC):=sq
theorem nG (D:Def K mg "_law_evened" cC ["_law_load_here","_law_moves"])(cn:mg "list"=none)(Mt:Fn P w K mg base (aS P w) 3 "_law_work" ["_law_load_here","_law_motion"] (qL K))(vq:Fn P w K mg base (aS P w) 1 "_law_sum" ["_law_one","_law_other"] (cQ K gF))(Yb:Fn P w K mg base (aS P w) 1 "_law_turned" ["_law_one"] (iW K))(kh:Fn P w K mg base (aS P w) 33 "_law_lowest" ["_law_top","_law_bottom"] cj):
  Fn P w K mg base (aS P w) 34 "_law_evened" ["_law_load_here","_law_moves"] (vv K):=by
 refine D.ok cM (fun vs H Q E h=> ?_) (fun f bj A outer s H vs Q E hr h=> ?_)
 ·obtain ⟨d,dm,kvs,kT,pins,aq,L,ms,rfl,_⟩:=h
  rfl
 obtain ⟨d,dm,kvs,kT,pins,aq,L,ms,rfl,ld,lk,np,lp,hm,mo,nd,q⟩:=h
 have L2:2≤sizeLine:=by decide
 have J8:dm≠d:=fun z=>by
  have:=ld.hd
  rw [← z,hm] at this
  cases this
 refine ⟨_,(ae (BX (bo PassesOwn.never rfl (sY (pv 1)) (aE (i:=2) cM.nd rfl (adi rfl)) (ae (ax (i:=3) cM.nd rfl (adi rfl) (aD Mt hr.mo pX (ar (pv 0) (ar (fJ (cf hr) (pv 1) (pv 2) (fun _ _=>rfl)) aa))))
   (ae (ax (i:=4) cM.nd rfl (adi rfl) (cz ph rfl cn jd (ar (so (cf hr) (pv 0) (aR (pv 2)) (aI (ar (aI (ar ah (ar ah aa))) (ar (aI (ar ah (ar ah aa))) aa))) ⟨rfl,rfl,rfl,rfl⟩) aa)))
   (ae (ax (i:=5) cM.nd rfl (adi rfl) (aD vq hr.mo pX (ar (bc a_ (pv 4) (aR (pv 2)) (fun _ _=>rfl)) (ar (aD Yb hr.mo pX (ar (pv 3) aa)) aa))))
   (ae (oR (aD kh hr.mo pX (ar (aR (pv 5)) (ar (aR (pv 5)) aa))) (oQ (pv 4) (aR (pv 2)) set_list))
   (ak (cV (cf hr) (pv 0) (aR (pv 2)) (aI (ar (wD (pv 4)) (ar (wD (pv 4)) aa))) rfl))))))))
  (ak (aG (pv 0)))),?_⟩
 refine ⟨_,rfl,dm,kT,rfl,hm,fun o=> ?_⟩
 have kf:aH dm H (upd H dm (.bP o (.dT kT))):=aH.upd
 have fz:(upd H dm (.bP o (.dT kT))) dm=some (.bP o (.dT kT)):=ag
 have pf:Paired (mN K (upd H dm (.bP o (.dT kT))) pins 20000) kT ms:=Paired.bZ mo.pr fun _ _ z=>z.ks hm jZ (fun _ z=>nomatch z) kf
 have Mu:uk K (upd H dm (.bP o (.dT kT))) d kvs pins L 400000:=⟨kf _ _ (adG J8) ld.hd,fun nm=>by
  rcases ld.pt nm with h | ⟨v,q',a1,a2,a3⟩
  ·exact .inl h
  ·exact .inr ⟨v,q',a1,a2,a3.aJ (cI hm jZ kf)⟩,ld.nk,ld.ks,fun x=>⟨(ld.sz x).1.up (by decide),(ld.sz x).2.up (by decide)⟩,ld.ll⟩
 have bk:∀H' :Hp,aH d (upd H dm (.bP o (.dT kT))) H' →aH d H (upd H' dm (.dT kT)):=fun H' k b o' n e=>by
  by_cases c:b=dm
  ·rw [c,hm] at e
   rw [c,ag]
   exact e
  ·rw [aj c]
   refine k _ _ n ?_
   rw [aj c]
   exact e
 generalize upd H dm (.bP o (.dT kT))=Hf at kf fz pf Mu bk ⊢
 refine x6 (d:=dm) (o:=o) (kvs:=kT) (fun i σ H' =>∃(o2 o3 o4 o5:Option V) (zG :List (Key×V)) (L' :Str→Option (Rat×Rat)),σ=[some (.ref d),some (.ref dm),o2,o3,o4,o5]∧aH d Hf H' ∧uk K H' d zG pins L' 400000∧zG.length≤9+i∧∀(j:Nat) (n:fT),i≤j→ms[j]? =some n→b8 pins L' n.2=b8 pins L n.2∧gD n.1.2 (mv L' n.1.1)=gD n.1.2 (mv L n.1.1)) ⟨none,none,none,none,kvs,L,rfl,aH.of (au.refl _),Mu,by omega,fun _ _ _ _=>⟨rfl,rfl⟩⟩ (fun i σ H' _ h=>by
   obtain ⟨_,_,_,_,_,_,_,h,_⟩:=h
   exact h _ _ J8 fz) ?_ ?_
 ·rintro i k x b σ H2 ek hb ⟨o2,o3,o4,o5,zG,L',rfl,k2,um,lk2,inv⟩
  have lkm:kT.length=ms.length:=Paired.length mo.pr
  have lms:=mo.lm
  have hi:i < kT.length:=(be.mp ek).1
  obtain ⟨m,em,dM,kM,Mg,hM⟩:=aK pf ek
  obtain ⟨rfl,rfl⟩:=ano Mg
  have mm:=aa_ em
  have Vm:dM≠d:=fun z=>nd _ (aa_ ek) (by rw [z])
  have U8:ID K H2 pins dM kM m.2 20000:=hM.ksG Mu.hd wW Vm k2
  obtain ⟨hxn,hax⟩:=mo.XN m mm
  obtain ⟨p,mp,epn⟩:=ab_.mp hxn
  have fG :H2 b=some (.tup [.str m.1.1,.int (m.1.2:Int)]):=hb
  have Vn:∀H' :Hp,au H2 H' →bH K H' b [.str m.1.1,.int (m.1.2:Int)]:=fun H' s' =>bH.of (s' _ _ fG)
  have dg:cT H2 dm (.ref b) (some (.ref dM)):=by
   have:=cT.tR (k2 _ _ J8 fz) hb
   rw [ma mo.nk ek] at this
   exact this
  obtain ⟨iw,ic⟩:=inv i m (adf _) em
  refine ⟨_,rfl,_,rfl,_,rfl,dm,_,rfl,dg,?_⟩
  try dsimp only [iu]
  refine ⟨d,dM,zG,kM,pins,L',m.2,20000,400000,rfl,um,np,U8,Vm,by omega,by decide,by decide,fun v3 H3 s3 n3=> ?_⟩
  rw [iw] at n3
  have ld3:=um.same s3
  refine ⟨_,rfl,d,rfl,.inl ⟨_,.inl ld3.hd⟩,_,rfl,b,_,_,_,rfl,rfl,Vn _ s3,gZ,L2,?_⟩
  intro p7 n7;generalize eX:upd _ p7 _=H7;have ⟨s7,e7⟩:=nw n7 eX;clear eX
  refine ⟨L2,?_⟩
  intro p8 n8;generalize eX:upd _ p8 _=H8;have ⟨s8,e8⟩:=nw n8 eX;clear eX
  refine ⟨L2,?_⟩
  intro p9 n9;generalize eX:upd _ p9 _=H9;have ⟨s9,e9⟩:=nw n9 eX;clear eX
  have LO:=s7.trans (s8.trans s9)
  have ld9:=ld3.same LO
  refine ⟨_,cT.k (k:=.inr m.1.1) ld9.hd,?_⟩
  have hd:d0 K H9 ((bE zG (.inr m.1.1)).getD (.ref p9)) (mv L' m.1.1):=ld9.pt.OT (tw cg cg e9 (s9 _ _ (s8 _ _ e7)) (s9 _ _ e8))
  generalize (bE zG (.inr m.1.1)).getD (.ref p9)=dv at hd ⊢
  obtain ⟨da,u1,u2,rfl,Nr,CO,hd2⟩:=hd
  refine ⟨da,_,rfl,.inr Nr,?_⟩
  intro qi Nt;generalize eX:upd _ qi _=K7;have ⟨xx,zE⟩:=nw Nt eX;clear eX
  have Rm:=s3.trans (LO.trans xx)
  obtain ⟨ua,ea,na,ix,z9⟩:∃ua,i8 [u1,u2] (m.1.2:Int)=some ua∧fe K K7 ua (gD m.1.2 (mv L' m.1.1))∧EE [u1,u2].length (m.1.2:Int)=some m.1.2∧Zb 400000 (gD m.1.2 (mv L' m.1.1)):=by
   have two:m.1.2=0∨m.1.2=1:=by omega
   have zz:=um.sz m.1.1
   rcases two with c | c
   ·rw [c]
    exact ⟨u1,rfl,CO.same xx,rfl,wZ zz.1 (adf _)⟩
   ·rw [c]
    exact ⟨u2,rfl,hd2.same xx,rfl,wZ zz.2 (adf _)⟩
  refine ⟨_,rfl,_,rfl,b,_,_,_,rfl,rfl,Vn _ Rm,ig,qi,_,_,_,rfl,rfl,aU.of zE,ea,_,rfl,?_⟩
  try dsimp only [iu]
  show iW K [_] _ _ E0
  refine DH (n3.same (LO.trans xx)) fun p11 K8 vV n11=> ?_
  try dsimp only [iu]
  show cQ K gF [_,_] _ _ E0
  refine qE ((mP na z9).same vV) n11 (by decide) fun U3 H12 zD Xh=> ?_
  obtain ⟨Rn,⟨_,Yc,XW⟩,Ro,Yd,_⟩:=Xh
  cases Yc
  refine ⟨_,rfl,U3,_,_,_,rfl,rfl,XW,gZ,_,rfl,U3,_,_,_,rfl,rfl,XW,ig,?_⟩
  try dsimp only [iu]
  refine ⟨_,_,rfl,Ro,fun Vo Mv HR Rp=> ?_⟩
  rw [de (adV Ro)] at Rp
  have ey:((Rn.1:Int):Rat) / ((Rn.2:Int):Rat)=gD m.1.2 (mv L m.1.1) - b8 pins L m.2:=by
   have:vl Rn=((Rn.1:Int):Rat) / ((Rn.2:Int):Rat):=rfl
   rw [← this,Yd,ic]
   grind
  rw [ey] at Rp
  have zy:Sz 400000 (gD m.1.2 (mv L m.1.1) - b8 pins L m.2):=by
   have z1:Sz 30 (gD m.1.2 (mv L m.1.1)):=by
    unfold gD
    split
    ·exact (ld.sz m.1.1).1
    ·exact (ld.sz m.1.1).2
   exact (z1.sub (IT ld.sz hM.zb lp)).up (by decide)
  have hy:gD m.1.2 (mv L m.1.1) - b8 pins L m.2 - gD m.1.2 (mv L' m.1.1)= -(b8 pins L m.2):=by
   rw [ic]
   grind
  generalize gD m.1.2 (mv L m.1.1) - b8 pins L m.2=y at Rp zy hy
  have w8:=vV.trans (zD.trans HR)
  have J9:=w8 _ _ zE
  have Rq:=Rm.trans w8
  refine ⟨_,rfl,_,rfl,b,_,_,_,rfl,rfl,Vn _ Rq,ig,qi,_,_,_,rfl,rfl,J9,ix,?_⟩
  have tl:bg Mv (upd Mv qi (.lst ([u1,u2].set m.1.2 (.ref Vo)))):=.list J9
  have nl2:H2 qi=none:=(s3.trans LO).free Nt
  obtain ⟨w1,w2,ew,Xg,hw2⟩:∃w1 w2,[u1,u2].set m.1.2 (.ref Vo)=[w1,w2]∧fe K Mv w1 (jK m.1.2 y (mv L' m.1.1)).1∧fe K Mv w2 (jK m.1.2 y (mv L' m.1.1)).2:=by
   have two:m.1.2=0∨m.1.2=1:=by omega
   rcases two with c | c
   ·rw [c]
    exact ⟨.ref Vo,u2,rfl,f' Rp,(hd2.same xx).same w8⟩
   ·rw [c]
    exact ⟨u1,.ref Vo,rfl,(CO.same xx).same w8,f' Rp⟩
  rw [ew] at tl ⊢
  have Rr:au H2 (upd Mv qi (.lst [w1,w2])):=fun c o' e=>by
   rw [aj (ao e nl2)]
   exact Rq _ _ e
  have Ye:(upd Mv qi (.lst [w1,w2])) qi=some (.lst [w1,w2]):=ag
  have Rt :=Xg.aJ tl
  have Ru :=hw2.aJ tl
  generalize upd Mv qi (.lst [w1,w2])=H14 at Rr Ye Rt Ru ⊢
  refine ⟨_,rfl,qi,_,_,_,rfl,rfl,aU.of Ye,gZ,_,rfl,qi,_,_,_,rfl,rfl,aU.of Ye,ig,L2,?_⟩
  intro Rv n15;generalize eX:upd _ Rv _=Yf;have ⟨Yg,e15⟩:=nw n15 eX;clear eX
  have Mw:=Rr.trans Yg
  have Mx:=um.same Mw
  refine ⟨_,rfl,_,rfl,b,_,_,_,rfl,rfl,Vn _ Mw,gZ,d,_,rfl,gf.k (k:=.inr m.1.1) Mx.hd (adm (show zG.length≤1000 by omega) (by decide)),?_⟩
  have hv:d0 K Yf (.ref Rv) (jK m.1.2 y (mv L' m.1.1)):=j0 e15 (Rt.same Yg) (Ru.same Yg)
  have kd:aH d Yf (upd Yf d (.dK (putK zG (.inr m.1.1) (.ref Rv)))):=aH.upd
  have td:=cI Mx.hd wW kd
  have lpk:=dB zG (.inr m.1.1) (.ref Rv)
  refine ⟨_,_,_,_,putK zG (.inr m.1.1) (.ref Rv),IS L' m.1.1 m.1.2 y,rfl,fun c o' n e=>kd _ _ n (Mw _ _ (k2 _ _ n e)),⟨ag,uR.put (F:=L') (fun nm=> ?_) (hv.aJ td),mU um.nk,ou (fun k:Key=>∃x∈pins.map (·.nm),k=adU x) um.ks ⟨m.1.1,hxn,rfl⟩,fun nm=> ?_,by omega⟩,by omega,fun j n hj en=> ?_⟩
  ·rcases Mx.pt nm with h | ⟨v,q',a1,a2,a3⟩
   ·exact .inl h
   ·exact .inr ⟨v,q',a1,a2,a3.aJ td⟩
  ·rw [qN]
   by_cases c:nm=m.1.1
   ·rw [if_pos c]
    unfold jK
    split
    ·exact ⟨zy,(um.sz m.1.1).2⟩
    ·exact ⟨(um.sz m.1.1).1,zy⟩
   ·rw [if_neg c]
    exact um.sz nm
  ·have ij:¬ j=i:=by omega
   have on:=mo.ones j i n m en em
   rw [if_neg ij] at on
   have no:=mo.ones i j m n em en
   rw [if_neg (adG ij)] at no
   obtain ⟨jw,jc⟩:=inv j n (by omega) en
   have hnx:=(mo.XN n (aa_ en)).2
   constructor
   ·rw [← epn,DU np mp,epn,on,jw]
    grind
   ·rw [← jc,qN]
    by_cases c:n.1.1=m.1.1
    ·rw [if_pos c]
     have ne:n.1.2≠m.1.2:=fun z=>by
      have:=mo.ones i i m m em em
      rw [if_pos rfl, ← c, ← z,no] at this
      exact absurd this (by decide)
     rw [IQ ne hnx hax,c]
    ·rw [if_neg c]
 ·rintro σ H2 ⟨o2,o3,o4,o5,zG,L',rfl,k2,um,lk2,inv⟩
  have lkm:kT.length=ms.length:=Paired.length mo.pr
  have lms:=mo.lm
  refine ⟨dm,o,kT,k2 _ _ J8 fz,fun o' u' z=>(by have z' :H dm=some (.bP o' u'):=z;rw [hm] at z';cases z'),_,rfl,?_⟩
  have kt:aH dm H2 (upd H2 dm (.dT kT)):=aH.upd
  have fz2:=k2 _ _ J8 fz
  refine q zG L' _ (bk H2 k2) ⟨kt _ _ (adG J8) um.hd,fun nm=> ?_,um.nk,um.ks,um.sz,um.ll⟩ (by omega)
  rcases um.pt nm with h | ⟨v,q',a1,a2,a3⟩
  ·exact .inl h
  ·exact .inr ⟨v,q',a1,a2,a3.aJ (cI fz2 Mf kt)⟩
theorem p60:FZ 10 60:=⟨by decide,by decide,by decide⟩
theorem Rw:(10:Int)^(60:Int).toNat < ((2^200:Nat):Int):=by decide+kernel
def Yh (q:Rat×Rat):Prop:=Sz 200 q.1∧Sz 200 q.2
theorem DV {r:Rat}(h1:¬ (10:Int)^(60:Int).toNat≤(if (qr r).1 < 0 then -(qr r).1 else (qr r).1))(h2:¬ (10:Int)^(60:Int).toNat≤(qr r).2):Sz 200 r:=by
 have t:=Rw
 have p:=b7 r
 refine ⟨intBits_le_iff.mpr ?_,intBits_le_iff.mpr ?_⟩
 ·generalize (10:Int)^(60:Int).toNat=T at h1 h2 t
  generalize (2^200:Nat)=W at t ⊢
  split at h1 <;> omega
 ·generalize (10:Int)^(60:Int).toNat=T at h1 h2 t
  generalize (2^200:Nat)=W at t ⊢
  omega
inductive qO (K:Frag)(vs:List V)(H:Hp)(Q:VK)(E_:XK):Prop where
 | mk (d:Addr) (kvs:List (Key×V)) (pins:List aF) (L:Str→Option (Rat×Rat)) (B:Nat) (_:vs=[.ref d]) (_:uk K H d kvs pins L B) (_:(∀H',Q (.bl false) H')) (_:∀H',au H H' →(∀x,Yh (mv L x))→Q (.bl true) H'):qO K vs H Q E_
theorem fX:aC ["_law_load_here","_law_pair","_law_number"] ["_law_load_here"] (af cR):=sq
theorem qP (D:Def K mg "_law_short" cR ["_law_load_here"])(iH:mg "abs"=none):Fn P w K mg base (aS P w) 1 "_law_short" ["_law_load_here"] (qO K):=by
 refine D.ok fX (fun vs H Q E h=> ?_) (fun f bj A outer s H vs Q E hr h=> ?_)
 ·obtain ⟨d,kvs,pins,L,B,rfl,_⟩:=h
  rfl
 obtain ⟨d,kvs,pins,L,B,rfl,ld,q1,q2⟩:=h
 refine ⟨_,(ae (iE (bo PassesOwn.never rfl (BQ (pv 0)) (aE (i:=1) fX.nd rfl (adi rfl)) (ak (bo PassesOwn.never rfl (KO (pv 1)) (aE (i:=2) fX.nd rfl (adi rfl)) (ak (bC (PW.pt (NC (aL vO (a8 k9 rfl iH AJ (ar (aR (pv 2)) aa)) (aA oT ah ah) (aZ _)) (Ky (aL vO (aR (pv 2)) (aA oT ah ah) (aZ _))))) (ak (aG zJ)) aQ))))))
  (ak (aG zJ))),?_⟩
 refine ⟨_,rfl,d,kvs,rfl,ld.hd,fun o=> ?_⟩
 have kf:aH d H (upd H d (.bP o (.dK kvs))):=aH.upd
 have fz:(upd H d (.bP o (.dK kvs))) d=some (.bP o (.dK kvs)):=ag
 have ts:=cI ld.hd wW kf
 have bk:au H (upd (upd H d (.bP o (.dK kvs))) d (.dK kvs)):=fun b o' e=>by
  by_cases c:b=d
  ·rw [c,ld.hd] at e
   rw [c,ag]
   exact e
  ·rw [aj c,aj c]
   exact e
 generalize upd H d (.bP o (.dK kvs))=Hf at kf fz ts bk ⊢
 refine BE (d:=d) (o:=o) (kvs:=kvs) (fun i σ H' =>∃(o1 o2:Option V),σ=[some (.ref d),o1,o2]∧H' =Hf∧∀(j:Nat) (x:Str) (y:V),j < i→kvs[j]? =some (.inr x,y)→Yh (mv L x)) ⟨none,none,rfl,rfl,fun j x y h=>absurd h (ad6 _)⟩ (fun i σ H' _ h=>by
   obtain ⟨_,_,_,rfl,_⟩:=h
   exact fz) ?_ ?_
 ·rintro i k y σ H2 ek ⟨o1,o2,rfl,rfl,inv⟩
  obtain ⟨x,rfl,hx,hv⟩:=ld.at ek
  obtain ⟨da,u1,u2,rfl,Nr,CO,hd2⟩:=hv.aJ ts
  refine ⟨_,rfl,da,rfl,⟨_,Nr⟩,FW (K:=K) (a:=da) (xs:=[u1,u2]) (fun t σ H' =>∃(o2:Option V),σ=[some (.ref d),some (.ref da),o2]∧H' =H2∧(0 < t→Sz 200 (mv L x).1)∧(1 < t→Sz 200 (mv L x).2)) ⟨o2,rfl,rfl,fun h=>absurd h (aek _),fun h=>absurd h (by omega)⟩ (fun t σ H' _ h=>by
    obtain ⟨_,_,rfl,_⟩:=h
    exact Nr) ?_ ?_⟩
  ·rintro t u σ H3 eu ⟨o2,rfl,rfl,i1,i2⟩
   obtain ⟨r,hr0,Xw,Xx⟩:∃r:Rat,fe K H3 u r∧(Sz 200 r→0 < t+1→Sz 200 (mv L x).1)∧(Sz 200 r→1 < t+1→Sz 200 (mv L x).2):=by
    have ht:t < 2:=(be.mp eu).1
    have two:t=0∨t=1:=by omega
    rcases two with rfl | rfl
    ·cases eu
     exact ⟨_,CO,fun h _=>h,fun _ h=>absurd h (by omega)⟩
    ·cases eu
     exact ⟨_,hd2,fun _ _=>i1 (by omega),fun h _=>h⟩
   obtain ⟨na,rfl,hn⟩:=hr0
   refine ⟨_,rfl,na,_,_,_,rfl,rfl,hn,gZ,_,rfl,_,_,rfl,rfl,p60,_,_,rfl,rfl,_,rfl,?_⟩
   refine bB (fun _=> ?_) (fun c1=> ?_)
   ·exact q1 _
   refine ⟨_,rfl,na,_,_,_,rfl,rfl,hn,ig,_,_,rfl,rfl,p60,_,_,rfl,rfl,_,rfl,?_⟩
   refine bB (fun _=> ?_) (fun c2=> ?_)
   ·exact q1 _
   have sr:=DV (fun z=>c1 (decide_eq_true z)) (fun z=>c2 (decide_eq_true z))
   exact ⟨_,rfl,rfl,Xw sr,Xx sr⟩
  ·rintro σ H3 ⟨o2,rfl,rfl,i1,i2⟩
   refine ⟨_,_,rfl,rfl,fun j x' y' hj ej=> ?_⟩
   by_cases c:j=i
   ·subst c
    rw [ek] at ej
    cases ej
    exact ⟨i1 (by show 0 < 2;decide),i2 (by show 1 < 2;decide)⟩
   ·exact inv j x' y' (by omega) ej
 ·rintro σ H2 ⟨o1,o2,rfl,rfl,inv⟩
  refine ⟨d,o,kvs,fz,fun o' u' z=>(by have z' :H d=some (.bP o' u'):=z;rw [ld.hd] at z';cases z'),?_⟩
  refine q2 _ bk fun x=> ?_
  rcases ld.pt x with ⟨_,z⟩ | ⟨v,p,z1,_,_⟩
  ·unfold mv
   rw [z]
   exact ⟨dy (by decide),dy (by decide)⟩
  ·obtain ⟨j,ej⟩:=adg (lZ z1)
   exact inv j x v (be.mp ej).1 ej
theorem IU {pins:List aF}{aq:List bu}(g:dN pins aq){T:Str→Rat}{U:Str→List Rat}{L:Str→Option (Rat×Rat)}(h:qw pins aq T U L){M:Str→Rat×Rat}(mo:gB pins aq M):b8 pins L M=0:=by
 have e:=XF g h mo.QE
 have:(aq.map fun b=>T b.nm*yY M b)=aq.map fun b=>0*T b.nm:=ady fun b hb=>by
  rw [mo.aq b hb]
  grind
 rw [this,iU 0 (fun b:bu=>T b.nm)] at e
 grind
theorem vw {ms:List fT}{f:fT→Rat}(h:∀m∈ms,f m=0)(c:fT→Rat):(ms.map fun m=>c m*f m).sum=0:=by
 have:(ms.map fun m=>c m*f m)=ms.map fun m=>0*c m:=ady fun m hm=>by
  rw [h m hm]
  grind
 rw [this,iU 0 c]
 grind
theorem fY:aC ["_law_script","_law_pins_here","_law_bars_here","_law_frame_here","_law_moves","_law_load_here","_law_borne","_law_told"] ["_law_script"] (af iG):=sq
theorem My {f:Addr}{fd:FuncData}{C:Addr}(F:mX K "law" "law" iG f fd)(DW:mg "all"=none)(fZ:mg "isinstance"=none)(qQ:mg "tuple"=none)(oM:mg "int"=none)
  (mS:Fn P w K mg base (aS P w) 1 "_law_cell_at" ["_law_script","_law_k"] (jI K)) (cL:Fn P w K mg base (aS P w) 1 "_law_field" ["_law_cell","_law_prime","_law_many"] dR)
  (Yi:Fn P w K mg base (aS P w) 35 "_law_pins" ["_law_script"] (qJ K)) (Yj:Fn P w K mg base (aS P w) 3 "_law_bars" ["_law_script","_law_pins_here"] (qK K)) (Yk:Fn P w K mg base (aS P w) 4 "_law_frame" ["_law_pins_here","_law_bars_here"] (mT K C))
  (qR:Fn P w K mg base (aS P w) 39 "motions_of" ["F"] (vn K C)) (Yl:Fn P w K mg base (aS P w) 34 "_law_load" ["_law_script","_law_pins_here"] (qM K)) (qS:Fn P w K mg base (aS P w) 34 "_law_evened" ["_law_load_here","_law_moves"] (vv K)) (tV:Fn P w K mg base (aS P w) 1 "_law_short" ["_law_load_here"] (qO K))
  (Mt:Fn P w K mg base (aS P w) 3 "_law_work" ["_law_load_here","_law_motion"] (qL K)) (Ym:Fn P w K mg base (aS P w) 39 "rest_of" ["F","load"] (vj K C)):
  ck P w K mg base (aS P w) 42 f fd ["_law_script"] (AK K):=by
 refine F.okG fY (fun vs H Q E h=> ?_) (fun bj A outer s H vs Q E hr h=> ?_)
 ·obtain ⟨a,ns,rfl,_⟩:=h
  rfl
 obtain ⟨sA,ns,rfl,hS,hn,hb,q⟩:=h
 have L2:2≤sizeLine:=by decide
 refine ⟨_,(ae (ax (i:=1) fY.nd rfl (adi rfl) (aD Yi hr.mo pX (ar (pv 0) aa)))
  (ae (ax (i:=2) fY.nd rfl (adi rfl) (aD Yj hr.mo pX (ar (pv 0) (ar (pv 1) aa))))
  (ae (ax (i:=3) fY.nd rfl (adi rfl) (aD Yk hr.mo pX (ar (pv 1) (ar (pv 2) aa))))
  (ae (ax (i:=4) fY.nd rfl (ad0 rfl) (aD qR hr.mo pX (ar (pv 3) aa)))
  (ae (ax (i:=5) fY.nd rfl (ad0 rfl) (aD Yl hr.mo pX (ar (pv 0) (ar (pv 1) aa))))
  (ae (bC (aL zX (aD cL hr.mo pX (ar (aD mS hr.mo pX (ar (pv 0) (ar ah aa))) (ar ah (ar ah aa)))) ah (aZ _)) (ak (ax (i:=5) fY.nd rfl (ad0 rfl) (aD qS hr.mo pX (ar (pv 5) (ar (pv 4) aa))))) aQ)
  (ae (bC (Kz (zK (aD tV hr.mo pX (ar (pv 5) aa)))) (ak (aG zJ)) aQ)
  (ae (ax (i:=6) fY.nd rfl (adi rfl) (a8 (xy rfl) rfl DW Od (ar (du (tn:=["_law_pair"]) (fr:=["_law_moves","_law_load_here"]) (caps:=[4,5]) rfl ⟨rfl,by decide+kernel,rfl,by decide+kernel,by decide+kernel,rfl,⟨(by first | exact adi rfl | exact ad0 rfl),⟨(by first | exact adi rfl | exact ad0 rfl),trivial⟩⟩,⟨(by first | exact adi rfl | exact ad0 rfl),⟨(by first | exact adi rfl | exact ad0 rfl),trivial⟩⟩⟩ (sY (pv 4)) (fun _ _ _ _=>(aE (i:=0) (show (["_law_pair","_law_moves","_law_load_here"]:List Str).Nodup from by decide+kernel) rfl (adi rfl))) (fun _ _ _ _=>c_) (fun _ _ _ _=>(oU cZ (bc (dP (K:=K) rfl) (aD Mt hr.mo (r8 (by first | assumption | exact aS.pG) rfl) (ar (pv 2) (ar (fJ (cf hr) (pv 1) (pv 0) (fun _ _=>rfl)) aa))) ah (fun _ _=>rfl)) ah (aZ _)))) aa)))
  (ae (ax (i:=7) fY.nd rfl (adi rfl) (aD Ym hr.mo pX (ar (pv 3) (ar (pv 5) aa))))
  (ak (aG (KC (a8 xM rfl fZ pF (ar (pv 7) (ar (Of rfl qQ GZ) aa))) (KA (oU cZ (aR (pv 7)) (bc a_ (bG (ar dH (ar dH aa))) (cz nS rfl oM JH (ar (pv 6) aa)) (fun _ _=>rfl)) (aZ _))))))))))))))),?_⟩
 refine ⟨_,rfl,sA,ns,rfl,hS,fun lP us pins H1 s1 nP eP pp gp lp pn=> ?_⟩
 have lu:us.length=pins.length:=Paired.length pp
 refine ⟨_,rfl,_,rfl,sA,lP,ns,us,pins,rfl,s1.seq hS,eP,lu,gp.np,by omega,fun lB vs aq H2 s2 nB eB pb gb lb=> ?_⟩
 have pp2:Paired (nF K H2) us pins:=Paired.bZ pp fun _ _ z=>z.same s2
 have eP2:=s2 _ _ eP
 refine ⟨_,rfl,_,rfl,lP,lB,us,vs,pins,aq,rfl,eP2,pp2,eB,pb,gp,gb,by omega,by omega,fun fA H3 s3 R=> ?_⟩
 have g:=Q8 gp gb (by omega) (by omega)
 have s03:=s1.trans (s2.trans s3)
 refine ⟨_,rfl,fA,pins,aq,rfl,R,g,fun dm kT ms H4 s4 nm4 em4 mo=> ?_⟩
 have Mb:=s03.trans s4
 refine ⟨_,rfl,_,rfl,sA,lP,ns,us,pins,rfl,Mb.seq hS,hb,(s3.trans s4) _ _ eP2,Paired.bZ pp2 fun _ _ z=>z.same (s3.trans s4),by omega,fun d k0 L0 H5 s5 nd J_ lk0=> ?_⟩
 have U6:∀kv∈kT,kv.2≠.ref d:=fun kv hk z=>by
  obtain ⟨i,ei⟩:=adg hk
  obtain ⟨m,em,dM,kM,Mg,hM⟩:=aK mo.pr ei
  rw [Mg] at z
  have e:=hM.hM
  rw [show dM=d by injection z,nd] at e
  cases e
 dsimp only [cY]
 refine eI (fun σ' H' =>∃(kvs:List (Key×V)) (L:Str→Option (Rat×Rat)),σ' =[some (.ref sA),some (.ref lP),some (.ref lB),some (.ref fA),some (.ref dm),some (.ref d),none,none]∧au H4 H' ∧uk K H' d kvs pins L 400000∧kvs.length≤40) (fun Nx tO=> ?_) ?_
 ·refine ⟨_,rfl,sA,ns,2,rfl,(Mb.trans s5).seq hS,by decide,by decide,_,_,_,rfl,by decide,by decide,by decide,_,_,rfl,rfl,_,rfl,?_⟩
  refine bB (fun c=> ?_) (fun c=> ?_)
  ·refine ⟨_,rfl,_,rfl,d,dm,k0,kT,pins,aq,L0,ms,rfl,J_,lk0,g.np,by omega,s5 _ _ em4,mo.same s5,U6,fun kvs L H6 k6 Vp lk6=> ?_⟩
   exact tO _ _ ⟨kvs,L,rfl,fun b o e=>k6 _ _ (ao e nd) (s5 _ _ e),Vp,lk6⟩
  ·exact tO _ _ ⟨k0,L0,rfl,s5,⟨J_.hd,J_.pt,J_.nk,J_.ks,fun x=>⟨(J_.sz x).1.up (by decide),(J_.sz x).2.up (by decide)⟩,J_.ll⟩,by omega⟩
 rintro σ' H6 ⟨kvs,L,rfl,s6,Vp,lk6⟩
 refine eI (fun σ' H' =>σ' =[some (.ref sA),some (.ref lP),some (.ref lB),some (.ref fA),some (.ref dm),some (.ref d),none,none]∧au H6 H' ∧∀x,Yh (mv L x)) (fun Nx tO=> ?_) ?_
 ·refine ⟨_,rfl,d,kvs,pins,L,400000,rfl,Vp,fun H' =>⟨_,rfl,?_⟩,fun H7 s7 sh=>⟨_,rfl,?_⟩⟩
  ·exact bB (fun _=>q _) (fun c=>absurd rfl c)
  ·exact bB (fun c=>nomatch c) (fun _=>tO _ _ ⟨rfl,s7,sh⟩)
 rintro σ' H7 ⟨rfl,s7,sh⟩
 have J4:=s6.trans s7
 have Mz:=Vp.same s7
 have Vq:=J4 _ _ em4
 have J8:dm≠d:=fun z=>by
  have:=Mz.hd
  rw [← z,Vq] at this
  cases this
 refine ⟨_,rfl,dm,kT,rfl,Vq,fun o D1 n1=> ?_⟩
 have kf:aH dm H7 (upd H7 dm (.bP o (.dT kT))):=aH.upd
 have fz:(upd H7 dm (.bP o (.dT kT))) dm=some (.bP o (.dT kT)):=ag
 have pf:Paired (mN K (upd H7 dm (.bP o (.dT kT))) pins 20000) kT ms:=Paired.bZ (mo.same J4).pr fun _ _ z=>z.ks Vq jZ (fun _ z=>nomatch z) kf
 have Mu:uk K (upd H7 dm (.bP o (.dT kT))) d kvs pins L 400000:=⟨kf _ _ (adG J8) Mz.hd,fun nm=>by
  rcases Mz.pt nm with h | ⟨v,q',a1,a2,a3⟩
  ·exact .inl h
  ·exact .inr ⟨v,q',a1,a2,a3.aJ (cI Vq jZ kf)⟩,Mz.nk,Mz.ks,Mz.sz,Mz.ll⟩
 have s3f:au H3 (upd H7 dm (.bP o (.dT kT))):=fun b o' e=>kf _ _ (ao e nm4) (J4 _ _ (s4 _ _ e))
 generalize upd H7 dm (.bP o (.dT kT))=Hf at kf fz pf Mu s3f n1 ⊢
 have lkm:kT.length=ms.length:=Paired.length mo.pr
 have lms:=mo.lm
 refine uY (cap:=[some (.ref dm),some (.ref d)]) (fun i v _=>∀m,ms[i]? =some m→v=.bl (decide (b8 pins L m.2=0))) n1 (adm (show kT.length≤1000 by omega) (by decide)) fz (fun _ _ _ _ _ _ _ h=>h) ?_ ?_
 ·rintro i k y b H8 RR ek hb8 s8 _ kk
  obtain ⟨m,em,dM,kM,Mg,hM⟩:=aK pf ek
  obtain ⟨rfl,rfl⟩:=ano Mg
  have Vm:dM≠d:=fun z=>U6 _ (aa_ ek) (by rw [z])
  have dg:cT H8 dm (.ref b) (some (.ref dM)):=by
   have:=cT.tR (s8 _ _ fz) hb8
   rw [ma mo.nk ek] at this
   exact this
  refine ⟨_,rfl,_,rfl,_,rfl,dm,_,rfl,dg,?_⟩
  try dsimp only [iu]
  refine ⟨d,dM,kvs,kM,pins,L,m.2,20000,400000,rfl,Mu.same s8,g.np,hM.same s8,Vm,by omega,by decide,by decide,fun v9 H9 s9 n9=> ?_⟩
  obtain ⟨q9,⟨p9,rfl,h9⟩,hp9,hv9,_⟩:=n9
  refine ⟨p9,_,_,_,rfl,rfl,h9,gZ,rfl,kk _ _ s9 fun m' em' => ?_⟩
  rw [em] at em'
  cases em'
  have z:=IF hp9
  rw [hv9] at z
  congr 1
  refine decide_eq_decide.mpr ⟨fun e=>z.mp (by injection e),fun e=>by rw [z.mpr e]⟩
 intro zs H8 lz hz s8 hD
 have ez:zs=(ms.map fun m=>decide (b8 pins L m.2=0)).map V.bl:=by
  refine adT fun i=> ?_
  by_cases c:i < zs.length
  ·obtain ⟨m,em⟩:∃m,ms[i]? =some m:=⟨_,gE (by omega)⟩
   have e1:zs[i]? =some zs[i]:=gE c
   rw [e1,hz i _ e1 m em,ir,ir,em]
   rfl
  ·rw [ac_ (by omega),ac_ (by rw [Wp,Wp];omega)]
 rw [ez] at hD
 refine ⟨D1,_,rfl,aU.of hD,?_⟩
 have Yn:=Mu.same s8
 have s38:=s3f.trans s8
 refine ⟨_,rfl,_,rfl,fA,d,pins,aq,kvs,L,rfl,R.same s38,g,g.lp,Yn.hd,Yn.pt,fun x=>⟨(sh x).1.up (by decide),(sh x).2.up (by decide)⟩,Yn.ks,fun M p dM kM H9 s9 e9 mor mm wk zb=> ?_,fun T U Lx p dT dU kT' kU H9 s9 e9 pr rest z1 z2=> ?_⟩
 ·have eb:(ms.map fun m=>decide (b8 pins L m.2=0)).all id=false:=by
   apply adN
   intro c
   have c' :=eq_true_of_ne_false c
   rw [aj_] at c'
   have h0:∀m∈ms,b8 pins L m.2=0:=fun m hm=>of_decide_eq_true (c' _ (ab_.mpr ⟨m,hm,rfl⟩))
   have:=mo.work mm L
   rw [vw h0 fun m=>gD m.1.2 (M m.1.1),wk] at this
   exact absurd this (by decide)
  rw [eb]
  refine ⟨_,rfl,p,_,rfl,bH.of e9,_,rfl,?_⟩
  refine bB (fun _=> ?_) (fun c=>absurd rfl c)
  refine ⟨_,rfl,p,_,_,_,rfl,rfl,bH.of e9,gZ,L2,?_⟩
  intro qi Nt;generalize eX:upd _ qi _=K7;have ⟨xx,zE⟩:=nw Nt eX;clear eX
  exact ⟨_,rfl,.inr ⟨_,rfl,qi,_,_,_,rfl,rfl,aU.of zE,rfl,rfl,q _⟩⟩
 ·have eb:(ms.map fun m=>decide (b8 pins L m.2=0)).all id=true:=by
   rw [aj_]
   intro b hb
   obtain ⟨m,hm,rfl⟩:=ab_.mp hb
   exact decide_eq_true (IU g rest (mo.mo m hm))
  rw [eb]
  refine ⟨_,rfl,p,_,rfl,bH.of e9,_,rfl,?_⟩
  refine bB (fun _=> ?_) (fun c=>absurd rfl c)
  refine ⟨_,rfl,p,_,_,_,rfl,rfl,bH.of e9,rfl,L2,?_⟩
  intro qi Nt;generalize eX:upd _ qi _=K7;have ⟨xx,zE⟩:=nw Nt eX;clear eX
  exact ⟨_,rfl,.inr ⟨_,rfl,qi,_,_,_,rfl,rfl,aU.of zE,rfl,rfl,q _⟩⟩
end
theorem all_mk {l:PySem.W.OpenLaw}{w:World}{K:Frag}{h:Heap}{mg:Str→Option Value}{fa:Addr}(X:K.In h)(G:h.Ns mainGlobals mg)(hfa:mg "law"=some (.ref fa))
  (Yo:nsIn K mainGlobals "difference_of"=some (some (.ref Rx))) (Yp:K.lookup Rx=some ⟨aeU,aeV,.func (fnOf "difference_of" "difference_of" (aw uZ) (av uZ) (af uZ) .none aeW aeX aeY aeZ Ry ae0),ae1⟩) (Yq:codeIn K Ry "difference_of"=true) (Yr:keepIn K (.ref Rx)=true) (Ys:nsIn K mainGlobals "lowest_terms"=some (some (.ref Rz))) (Yt:K.lookup Rz=some ⟨ae2,ae3,.func (fnOf "lowest_terms" "lowest_terms" (aw sZ) (av sZ) (af sZ) .none ae4 ae5 ae6 ae7 RA ae8),ae9⟩) (Yu:codeIn K RA "lowest_terms"=true) (Yv:keepIn K (.ref Rz)=true) (Yw:nsIn K mainGlobals "greatest_shared"=some (some (.ref RB))) (Yx:K.lookup RB=some ⟨ae',afa,.func (fnOf "greatest_shared" "greatest_shared" (aw x9) (av x9) (af x9) .none afb afc afd afe RC aff),afg⟩) (Yy:codeIn K RC "greatest_shared"=true) (Yz:keepIn K (.ref RB)=true) (YA:nsIn K mainGlobals "arm_between"=some (some (.ref RD))) (YB:K.lookup RD=some ⟨afh,afi,.func (fnOf "arm_between" "arm_between" (aw x_) (av x_) (af x_) .none afj afk afl afm RE afn),afo⟩) (YC:codeIn K RE "arm_between"=true) (YD:keepIn K (.ref RD)=true) (YE:nsIn K mainGlobals "pair_difference"=some (some (.ref RF))) (YF:K.lookup RF=some ⟨afp,afq,.func (fnOf "pair_difference" "pair_difference" (aw u0) (av u0) (af u0) .none afr afs aft afu RG afv),afw⟩) (YG:codeIn K RG "pair_difference"=true) (YH:keepIn K (.ref RF)=true) (vx:nsIn K mainGlobals "pairs_of"=some (some (.ref mV))) (vy:K.lookup mV=some ⟨J',Ka,.func (fnOf "pairs_of" "pairs_of" (aw df) (av df) (af df) .none Kb Kc Kd Ke tW Kf),Kg⟩) (vA:codeIn K tW "pairs_of"=true) (vB:keepIn K (.ref mV)=true) (YI:nsIn K mainGlobals "pair_row"=some (some (.ref RH))) (YJ:K.lookup RH=some ⟨afx,afy,.func (fnOf "pair_row" "pair_row" (aw ya) (av ya) (af ya) .none afz afA afB afC RI afD),afE⟩) (YK:codeIn K RI "pair_row"=true) (YL:keepIn K (.ref RH)=true) (YM:nsIn K mainGlobals "load_row"=some (some (.ref RJ))) (YN:K.lookup RJ=some ⟨afF,afG,.func (fnOf "load_row" "load_row" (aw yb) (av yb) (af yb) .none afH afI afJ afK RK afL),afM⟩) (YO:codeIn K RK "load_row"=true) (YQ:keepIn K (.ref RJ)=true) (YR:nsIn K mainGlobals "bar_row"=some (some (.ref RL))) (YS:K.lookup RL=some ⟨afN,afO,.func (fnOf "bar_row" "bar_row" (aw yc) (av yc) (af yc) .none afP afQ afR afS RM afT),afU⟩) (YT:codeIn K RM "bar_row"=true) (YU:keepIn K (.ref RL)=true) (YV:nsIn K mainGlobals "draw_rows"=some (some (.ref RO))) (YW:K.lookup RO=some ⟨afV,afW,.func (fnOf "draw_rows" "draw_rows" (aw yd) (av yd) (af yd) .none afX afY afZ af0 RP af1),af2⟩) (YX:codeIn K RP "draw_rows"=true) (YY:keepIn K (.ref RO)=true) (YZ:nsIn K mainGlobals "pulls_and_pushes"=some (some (.ref RQ))) (Y0:K.lookup RQ=some ⟨af3,af4,.func (fnOf "pulls_and_pushes" "pulls_and_pushes" (aw ye) (av ye) (af ye) .none af5 af6 af7 af8 RS af9),af'⟩) (Y1:codeIn K RS "pulls_and_pushes"=true) (Y2:keepIn K (.ref RQ)=true) (Y3:nsIn K mainGlobals "motion_from"=some (some (.ref RT))) (Y4:K.lookup RT=some ⟨aga,agb,.func (fnOf "motion_from" "motion_from" (aw yf) (av yf) (af yf) .none agc agd age agf RU agg),agh⟩) (Y5:codeIn K RU "motion_from"=true) (Y6:keepIn K (.ref RT)=true) (Y7:nsIn K mainGlobals "solve_rows"=some (some (.ref RV))) (Y8:K.lookup RV=some ⟨agi,agj,.func (fnOf "solve_rows" "solve_rows" (aw yg) (av yg) (af yg) .none agk agl agm agn RW ago),agp⟩) (Y9:codeIn K RW "solve_rows"=true) (Y_:keepIn K (.ref RV)=true) (ki:nsIn K mainGlobals "spare_columns"=some (some (.ref gc))) (kj:K.lookup gc=some ⟨zg,zh,.func (fnOf "spare_columns" "spare_columns" (aw bQ) (av bQ) (af bQ) .none zi zk zo zp jL zq),zu⟩) (km:codeIn K jL "spare_columns"=true) (kq:keepIn K (.ref gc)=true) (qT:nsIn K mainGlobals "spare_list"=some (some (.ref i0))) (qU:K.lookup i0=some ⟨EL,EM,.func (fnOf "spare_list" "spare_list" (aw cA) (av cA) (af cA) .none EN EO ER ES nH ET),EU⟩) (qV:codeIn K nH "spare_list"=true) (qW:keepIn K (.ref i0)=true) (Y':nsIn K mainGlobals "turned"=some (some (.ref RX))) (Za:K.lookup RX=some ⟨agq,agr,.func (fnOf "turned" "turned" (aw yh) (av yh) (af yh) .none ags agt agu agv RY agw),agx⟩) (Zc:codeIn K RY "turned"=true) (Zd:keepIn K (.ref RX)=true) (Ze:nsIn K mainGlobals "whole_row"=some (some (.ref R5))) (Zf:K.lookup R5=some ⟨agy,agz,.func (fnOf "whole_row" "whole_row" (aw yi) (av yi) (af yi) .none agA agB agC agD R7 agE),agF⟩) (Zg:codeIn K R7 "whole_row"=true) (Zh:keepIn K (.ref R5)=true) (Zi:nsIn K mainGlobals "solution_of"=some (some (.ref R9))) (Zj:K.lookup R9=some ⟨agG,agH,.func (fnOf "solution_of" "solution_of" (aw yj) (av yj) (af yj) .none agI agJ agK agL R_ agM),agN⟩) (Zk:codeIn K R_ "solution_of"=true) (Zl:keepIn K (.ref R9)=true) (Zm:nsIn K mainGlobals "reduced"=some (some (.ref Sa))) (Zn:K.lookup Sa=some ⟨agO,agP,.func (fnOf "reduced" "reduced" (aw yk) (av yk) (af yk) .none agQ agR agS agT Sb agU),agV⟩) (Zo:codeIn K Sb "reduced"=true) (Zp:keepIn K (.ref Sa)=true) (Zq:nsIn K mainGlobals "first_not_nought"=some (some (.ref Sd))) (Zr:K.lookup Sd=some ⟨agW,agX,.func (fnOf "first_not_nought" "first_not_nought" (aw ym) (av ym) (af ym) .none agY agZ ag0 ag1 Se ag2),ag3⟩) (Zs:codeIn K Se "first_not_nought"=true) (Zt:keepIn K (.ref Sd)=true) (Zu:nsIn K mainGlobals "cleared"=some (some (.ref Sf))) (Zv:K.lookup Sf=some ⟨ag4,ag5,.func (fnOf "cleared" "cleared" (aw yn) (av yn) (af yn) .none ag6 ag7 ag8 ag9 Sg ag'),aha⟩) (Zw:codeIn K Sg "cleared"=true) (Zx:keepIn K (.ref Sf)=true) (Zy:nsIn K mainGlobals "divided"=some (some (.ref Sh))) (Zz:K.lookup Sh=some ⟨ahb,ahc,.func (fnOf "divided" "divided" (aw yo) (av yo) (af yo) .none ahd ahe ahf ahg Si ahh),ahi⟩) (ZA:codeIn K Si "divided"=true) (ZC:keepIn K (.ref Sh)=true) (ZD:nsIn K mainGlobals "rest_of"=some (some (.ref Sj))) (ZE:K.lookup Sj=some ⟨ahj,ahk,.func (fnOf "rest_of" "rest_of" (aw yp) (av yp) (af yp) .none ahl ahm ahn aho Sk ahp),ahq⟩) (ZF:codeIn K Sk "rest_of"=true) (ZG:keepIn K (.ref Sj)=true) (qX:nsIn K mainGlobals "motions_of"=some (some (.ref i5))) (qY:K.lookup i5=some ⟨EV,EW,.func (fnOf "motions_of" "motions_of" (aw cB) (av cB) (af cB) .none EX EY EZ FA nI FC),FD⟩) (qZ:codeIn K nI "motions_of"=true) (q0:keepIn K (.ref i5)=true) (ZH:nsIn K mainGlobals "_law_cell_at"=some (some (.ref Sl))) (ZI:K.lookup Sl=some ⟨ahr,ahs,.func (fnOf "_law_cell_at" "_law_cell_at" (aw yq) (av yq) (af yq) .none aht ahu ahv ahw Sn ahx),ahy⟩) (ZJ:codeIn K Sn "_law_cell_at"=true) (ZK:keepIn K (.ref Sl)=true) (ZL:nsIn K mainGlobals "_law_field"=some (some (.ref So))) (ZM:K.lookup So=some ⟨ahz,ahA,.func (fnOf "_law_field" "_law_field" (aw yr) (av yr) (af yr) .none ahB ahC ahD ahE Sq ahF),ahG⟩) (ZN:codeIn K Sq "_law_field"=true) (ZO:keepIn K (.ref So)=true) (ZP:nsIn K mainGlobals "_law_lowest"=some (some (.ref Sr))) (ZQ:K.lookup Sr=some ⟨ahH,ahI,.func (fnOf "_law_lowest" "_law_lowest" (aw yt) (av yt) (af yt) .none ahJ ahK ahL ahM Ss ahN),ahO⟩) (ZR:codeIn K Ss "_law_lowest"=true) (ZS:keepIn K (.ref Sr)=true) (ZT:nsIn K mainGlobals "_law_sum"=some (some (.ref Su))) (ZU:K.lookup Su=some ⟨ahP,ahQ,.func (fnOf "_law_sum" "_law_sum" (aw yu) (av yu) (af yu) .none ahR ahS ahT ahU Sv ahV),ahW⟩) (ZV:codeIn K Sv "_law_sum"=true) (ZW:keepIn K (.ref Su)=true) (ZX:nsIn K mainGlobals "_law_times"=some (some (.ref Sw))) (ZY:K.lookup Sw=some ⟨ahX,ahY,.func (fnOf "_law_times" "_law_times" (aw yv) (av yv) (af yv) .none ahZ ah0 ah1 ah2 Sx ah3),ah4⟩) (ZZ:codeIn K Sx "_law_times"=true) (Z0:keepIn K (.ref Sw)=true) (Z1:nsIn K mainGlobals "_law_turned"=some (some (.ref Sy))) (Z2:K.lookup Sy=some ⟨ah5,ah6,.func (fnOf "_law_turned" "_law_turned" (aw yw) (av yw) (af yw) .none ah7 ah8 ah9 ah' SA aia),aib⟩) (Z3:codeIn K SA "_law_turned"=true) (Z4:keepIn K (.ref Sy)=true) (Z5:nsIn K mainGlobals "_law_name"=some (some (.ref SD))) (Z6:K.lookup SD=some ⟨aic,aid,.func (fnOf "_law_name" "_law_name" (aw u3) (av u3) (af u3) .none aie aif aih aii SE aij),aik⟩) (Z7:codeIn K SE "_law_name"=true) (Z8:keepIn K (.ref SD)=true) (Z9:nsIn K mainGlobals "_law_spot"=some (some (.ref SF))) (Z_:K.lookup SF=some ⟨ail,aim,.func (fnOf "_law_spot" "_law_spot" (aw yx) (av yx) (af yx) .none ain aio aip aiq SG air),ais⟩) (Z':codeIn K SG "_law_spot"=true) (aaa:keepIn K (.ref SF)=true) (aab:nsIn K mainGlobals "_law_ways"=some (some (.ref SH))) (aac:K.lookup SH=some ⟨ait,aiu,.func (fnOf "_law_ways" "_law_ways" (aw yy) (av yy) (af yy) .none aiv aiw aix aiy SI aiz),aiA⟩) (aad:codeIn K SI "_law_ways"=true) (aae:keepIn K (.ref SH)=true) (aaf:nsIn K mainGlobals "_law_pins"=some (some (.ref SJ))) (aag:K.lookup SJ=some ⟨aiB,aiC,.func (fnOf "_law_pins" "_law_pins" (aw yz) (av yz) (af yz) .none aiD aiE aiF aiG SK aiH),aiI⟩) (aah:codeIn K SK "_law_pins"=true) (aai:keepIn K (.ref SJ)=true) (aaj:nsIn K mainGlobals "_law_bars"=some (some (.ref SM))) (aak:K.lookup SM=some ⟨aiJ,aiK,.func (fnOf "_law_bars" "_law_bars" (aw yA) (av yA) (af yA) .none aiL aiM aiN aiO SN aiP),aiQ⟩) (aal:codeIn K SN "_law_bars"=true) (aam:keepIn K (.ref SM)=true) (aan:nsIn K mainGlobals "_law_frame"=some (some (.ref SO))) (aao:K.lookup SO=some ⟨aiR,aiS,.func (fnOf "_law_frame" "_law_frame" (aw yB) (av yB) (af yB) .none aiT aiU aiV aiW SQ aiX),aiY⟩) (aap:codeIn K SQ "_law_frame"=true) (aaq:keepIn K (.ref SO)=true) (aar:nsIn K mainGlobals "_law_dot"=some (some (.ref SR))) (aas:K.lookup SR=some ⟨aiZ,ai0,.func (fnOf "_law_dot" "_law_dot" (aw yC) (av yC) (af yC) .none ai1 ai2 ai3 ai4 SS ai5),ai6⟩) (aat:codeIn K SS "_law_dot"=true) (aau:keepIn K (.ref SR)=true) (aav:nsIn K mainGlobals "_law_work"=some (some (.ref SU))) (aaw:K.lookup SU=some ⟨ai7,ai8,.func (fnOf "_law_work" "_law_work" (aw yD) (av yD) (af yD) .none ai9 ai' aja ajb SV ajc),ajd⟩) (aax:codeIn K SV "_law_work"=true) (aay:keepIn K (.ref SU)=true) (aaz:nsIn K mainGlobals "_law_load"=some (some (.ref SW))) (aaA:K.lookup SW=some ⟨aje,ajf,.func (fnOf "_law_load" "_law_load" (aw s_by) (av s_by) (af s_by) .none ajg ajh aji ajj SX ajk),ajl⟩) (aaB:codeIn K SX "_law_load"=true) (aaC:keepIn K (.ref SW)=true) (q5:nsIn K mainGlobals "_law_evened"=some (some (.ref i6))) (q_:K.lookup i6=some ⟨FE,FF,.func (fnOf "_law_evened" "_law_evened" (aw cC) (av cC) (af cC) .none FG FH FI FJ nJ FK),FL⟩) (ra:codeIn K nJ "_law_evened"=true) (rf:keepIn K (.ref i6)=true) (tX:nsIn K mainGlobals "_law_short"=some (some (.ref j6))) (tY:K.lookup j6=some ⟨IV,IW,.func (fnOf "_law_short" "_law_short" (aw cR) (av cR) (af cR) .none IX IY IZ I_ rg Ja),Jb⟩) (tZ:codeIn K rg "_law_short"=true) (t_:keepIn K (.ref j6)=true) (SY:nsIn K mainGlobals "law"=some (some (.ref Kh))) (S0:K.lookup Kh=some ⟨aaD,aaE,.func (fnOf "law" "law" (aw iG) (av iG) (af iG) .none MA MD MF MG DX MI),aaF⟩) (S1:codeIn K DX "law"=true) (S2:keepIn K (.ref Kh)=true) (aaG:nsIn K mainGlobals "MOST_PINS"=some (some (.int 24 ajm))) (aaH:nsIn K mainGlobals "MOST_BARS"=some (some (.int 60 ajn))) (aaI:nsIn K mainGlobals "NOUGHT"=some (some (.ref MJ))) (aaJ:K.lookup MJ=some ⟨.type "tuple",ajo,.seq #[.int 0 aaK,.int 1 aaL] ajp,ajq⟩) (aaM:nsIn K mainGlobals "ONE"=some (some (.ref MK))) (aaN:K.lookup MK=some ⟨.type "tuple",ajr,.seq #[.int 1 aaO,.int 1 aaP] ajs,ajt⟩) (aaQ:nsIn K mainGlobals "NO_MOVE"=some (some (.ref MM))) (aaR:K.lookup MM=some ⟨.type "tuple",aju,.seq #[.ref S3,.ref S4] ajv,ajw⟩) (aaS:K.lookup S3=some ⟨.type "tuple",ajx,.seq #[.int 0 aaT,.int 1 aaU] ajy,ajz⟩) (aaV:K.lookup S4=some ⟨.type "tuple",ajA,.seq #[.int 0 aaW,.int 1 aaX] ajB,ajC⟩) (rh:nsIn K mainGlobals "ValueError"=some none) (S5:nsIn K mainGlobals "abs"=some none) (S6:nsIn K mainGlobals "all"=some none) (S7:nsIn K mainGlobals "any"=some none) (MO:nsIn K mainGlobals "dict"=some none) (ub:nsIn K mainGlobals "enumerate"=some none) (S8:nsIn K mainGlobals "int"=some none) (rj:nsIn K mainGlobals "isinstance"=some none) (S9:nsIn K mainGlobals "len"=some none) (MQ:nsIn K mainGlobals "list"=some none) (S_:nsIn K mainGlobals "min"=some none) (Jc:nsIn K mainGlobals "range"=some none) (S':nsIn K mainGlobals "str"=some none) (Jd:nsIn K mainGlobals "tuple"=some none) (Ta:nsIn K mainGlobals "zip"=some none) (aaY:nsIn K mainGlobals "YardError"=some (some (.ref aaZ))) (aa0:nsIn K mainGlobals "NoWay"=some (some (.ref aa1))) (aa2:nsIn K mainGlobals "PinThere"=some (some (.ref aa3))) (aa4:nsIn K mainGlobals "SpotTaken"=some (some (.ref aa5))) (aa6:nsIn K mainGlobals "NoPin"=some (some (.ref aa7))) (aa8:nsIn K mainGlobals "BarThere"=some (some (.ref aa9))) (aa':nsIn K mainGlobals "NoBar"=some (some (.ref aba))) (abb:nsIn K mainGlobals "NoLength"=some (some (.ref abc))) (abd:nsIn K mainGlobals "TooMany"=some (some (.ref abe))) (abf:nsIn K mainGlobals "Frame"=some (some (.ref bD))) (abg:nsIn K mainGlobals "Hold"=some (some (.ref kr))) (abh:nsIn K mainGlobals "Roller"=some (some (.ref gU))) (abi:nsIn K mainGlobals "Fixed"=some (some (.ref jM))) (Tb:PySem.W.plainGet K bD Str.empty=true) (Tc:PySem.W.hasDictIn K bD=true) (Td:PySem.W.plainOver K bD=true) (Te:PySem.W.findIn K (.ref bD) "__setattr__"=some (some (.builtin "object.__setattr__"))) (Tf:PySem.W.makesIn K bD=true) (Tg:keepIn K (.ref bD)=true) (Th:PySem.W.findIn K (.ref bD) "__init__"=some (some (.ref DY))) (Ti:PySem.W.isFn K (.ref DY)=true) (abj:K.lookup DY=some ⟨ajD,ajE,.func (fnOf "__init__" "Frame.__init__" (aw yE) (av yE) (af yE) .none ajF ajG ajH ajI Tj ajJ),ajK⟩) (abk:codeIn K Tj "Frame.__init__"=true) (Tn:keepIn K (.ref DY)=true) (abl:PySem.W.findIn K (.ref bD) "put_pin"=some (some (.ref Je))) (abm:PySem.W.isFn K (.ref Je)=true) (abn:K.lookup Je=some ⟨ajL,ajM,.func (fnOf "put_pin" "Frame.put_pin" (aw j_) (av j_) (af j_) (.ref DZ) Ki Kj Kk Kl D_ Km),ajN⟩) (To:K.lookup DZ=some ⟨ajO,abo,.seq #[.none] ajP,abp⟩) (abq:codeIn K D_ "Frame.put_pin"=true) (Tp:keepIn K (.ref Je)=true) (abr:PySem.W.findIn K (.ref bD) "put_bar"=some (some (.ref Jf))) (abt:PySem.W.isFn K (.ref Jf)=true) (abu:K.lookup Jf=some ⟨ajQ,ajR,.func (fnOf "put_bar" "Frame.put_bar" (aw yF) (av yF) (af yF) .none ajS ajT ajU ajV Tq ajW),ajX⟩) (abv:codeIn K Tq "Frame.put_bar"=true) (Tr:keepIn K (.ref Jf)=true) (abw:PySem.W.findIn K (.ref bD) "check_bar"=some (some (.ref Jg))) (abx:PySem.W.isFn K (.ref Jg)=true) (aby:K.lookup Jg=some ⟨ajY,ajZ,.func (fnOf "check_bar" "Frame.check_bar" (aw yG) (av yG) (af yG) .none aj0 aj1 aj2 aj3 Ts aj4),aj5⟩) (abz:codeIn K Ts "Frame.check_bar"=true) (Tt:keepIn K (.ref Jg)=true) (abA:PySem.W.findIn K (.ref bD) "check_pin"=some (some (.ref Jh))) (abB:PySem.W.isFn K (.ref Jh)=true) (abC:K.lookup Jh=some ⟨aj6,aj7,.func (fnOf "check_pin" "Frame.check_pin" (aw yH) (av yH) (af yH) .none aj8 aj9 aj' aka Tu akb),akc⟩) (abD:codeIn K Tu "Frame.check_pin"=true) (Tv:keepIn K (.ref Jh)=true) (abE:PySem.W.findIn K (.ref bD) "pins"=some (some (.ref Ji))) (abF:PySem.W.isFn K (.ref Ji)=true) (abG:K.lookup Ji=some ⟨akd,ake,.func (fnOf "pins" "Frame.pins" (aw yI) (av yI) (af yI) .none akf akg akh aki Tw akj),akk⟩) (abH:codeIn K Tw "Frame.pins"=true) (Tx:keepIn K (.ref Ji)=true) (abI:PySem.W.findIn K (.ref bD) "bars"=some (some (.ref Jj))) (abJ:PySem.W.isFn K (.ref Jj)=true) (abK:K.lookup Jj=some ⟨akl,akm,.func (fnOf "bars" "Frame.bars" (aw yJ) (av yJ) (af yJ) .none akn ako akp akq Tz akr),aks⟩) (abL:codeIn K Tz "Frame.bars"=true) (TB:keepIn K (.ref Jj)=true) (abM:PySem.W.findIn K (.ref bD) "place"=some (some (.ref Jk))) (abN:PySem.W.isFn K (.ref Jk)=true) (abO:K.lookup Jk=some ⟨akt,aku,.func (fnOf "place" "Frame.place" (aw yK) (av yK) (af yK) .none akv akw akx aky TC akz),akA⟩) (abP:codeIn K TC "Frame.place"=true) (TF:keepIn K (.ref Jk)=true) (abQ:PySem.W.findIn K (.ref bD) "ways"=some (some (.ref Jl))) (abR:PySem.W.isFn K (.ref Jl)=true) (abS:K.lookup Jl=some ⟨akB,akC,.func (fnOf "ways" "Frame.ways" (aw yL) (av yL) (af yL) .none akD akE akF akG TH akH),akI⟩) (abT:codeIn K TH "Frame.ways"=true) (TJ:keepIn K (.ref Jl)=true) (abU:PySem.W.findIn K (.ref bD) "ends"=some (some (.ref Jm))) (abV:PySem.W.isFn K (.ref Jm)=true) (abW:K.lookup Jm=some ⟨akJ,akK,.func (fnOf "ends" "Frame.ends" (aw yM) (av yM) (af yM) .none akL akM akN akO TK akP),akQ⟩) (abX:codeIn K TK "Frame.ends"=true) (TL:keepIn K (.ref Jm)=true) (TM:PySem.W.plainGet K kr Str.empty=true) (TN:PySem.W.hasDictIn K kr=true) (TQ:PySem.W.plainOver K kr=true) (TR:PySem.W.findIn K (.ref kr) "__setattr__"=some (some (.builtin "object.__setattr__"))) (TU:PySem.W.makesIn K kr=true) (TV:keepIn K (.ref kr)=true) (TX:PySem.W.findIn K (.ref kr) "__init__"=some (some (.builtin "object.__init__"))) (abY:PySem.W.findIn K (.ref kr) "ways"=some (some (.ref Jn))) (abZ:PySem.W.isFn K (.ref Jn)=true) (ab0:K.lookup Jn=some ⟨akR,akS,.func (fnOf "ways" "Hold.ways" (aw HU) (av HU) (af HU) .none akT akU akV akW TY akX),akY⟩) (ab1:codeIn K TY "Hold.ways"=true) (TZ:keepIn K (.ref Jn)=true) (T1:PySem.W.plainGet K gU Str.empty=true) (T2:PySem.W.hasDictIn K gU=true) (T3:PySem.W.plainOver K gU=true) (T4:PySem.W.findIn K (.ref gU) "__setattr__"=some (some (.builtin "object.__setattr__"))) (T5:PySem.W.makesIn K gU=true) (T6:keepIn K (.ref gU)=true) (T7:PySem.W.findIn K (.ref gU) "__init__"=some (some (.ref D'))) (T8:PySem.W.isFn K (.ref D')=true) (ab2:K.lookup D'=some ⟨akZ,ak0,.func (fnOf "__init__" "Roller.__init__" (aw yN) (av yN) (af yN) .none ak1 ak2 ak3 ak4 T9 ak5),ak6⟩) (ab3:codeIn K T9 "Roller.__init__"=true) (T_:keepIn K (.ref D')=true) (ab4:PySem.W.findIn K (.ref gU) "ways"=some (some (.ref Jo))) (ab5:PySem.W.isFn K (.ref Jo)=true) (ab6:K.lookup Jo=some ⟨ak7,ak8,.func (fnOf "ways" "Roller.ways" (aw yO) (av yO) (af yO) .none ak9 ak' ala alb Ua alc),ald⟩) (ab7:codeIn K Ua "Roller.ways"=true) (Ub:keepIn K (.ref Jo)=true) (Uc:PySem.W.plainGet K jM Str.empty=true) (Ud:PySem.W.hasDictIn K jM=true) (Ue:PySem.W.plainOver K jM=true) (Ug:PySem.W.findIn K (.ref jM) "__setattr__"=some (some (.builtin "object.__setattr__"))) (Uh:PySem.W.makesIn K jM=true) (Ui:keepIn K (.ref jM)=true) (Uj:PySem.W.findIn K (.ref jM) "__init__"=some (some (.builtin "object.__init__"))) (ab8:PySem.W.findIn K (.ref jM) "ways"=some (some (.ref Jp))) (ab9:PySem.W.isFn K (.ref Jp)=true) (ab':K.lookup Jp=some ⟨ale,alf,.func (fnOf "ways" "Fixed.ways" (aw yP) (av yP) (af yP) .none alg alh ali alj Uk alk),alm⟩) (aca:codeIn K Uk "Fixed.ways"=true) (Ul:keepIn K (.ref Jp)=true) (EA:PySem.W.findIn K (.ref bD) "pin_places"=some none) (MR:PySem.W.findIn K (.ref bD) "pin_ways"=some none) (MS:PySem.W.findIn K (.ref bD) "bar_ends"=some none) (Kn:PySem.W.findIn K (.ref gU) "way"=some none) (ht:l.prog.given.tree=none):
  ∃fd:FuncData,(∀(s:Shared) (v:Value),BindsTo s fd ⟨[v],[]⟩ [("_law_script",v)])∧∀base:Heap,K.In base→base.Ns mainGlobals mg→ck l.prog w K mg base (aS l.prog w) 42 fa fd ["_law_script"] (AK K):=by
 have e:=hfa.symm.trans (mg_of X G SY)
 cases e
 have acb:Def K mg "difference_of" uZ ["one","other"]:=fu X G Yp Yq Yr Yo
 have acd:Def K mg "lowest_terms" sZ ["top","bottom"]:=fu X G Yt Yu Yv Ys
 have ace:Def K mg "greatest_shared" x9 ["one","other"]:=fu X G Yx Yy Yz Yw
 have acf:Def K mg "arm_between" x_ ["F","one","other"]:=fu X G YB YC YD YA
 have acg:Def K mg "pair_difference" u0 ["one","other"]:=fu X G YF YG YH YE
 have vC:Def K mg "pairs_of" df ["F"]:=fu X G vy vA vB vx
 have ach:Def K mg "pair_row" ya ["F","draws"]:=fu X G YJ YK YL YI
 have aci:Def K mg "load_row" yb ["F","load"]:=fu X G YN YO YQ YM
 have acj:Def K mg "bar_row" yc ["F","one","other"]:=fu X G YS YT YU YR
 have ack:Def K mg "draw_rows" yd ["F"]:=fu X G YW YX YY YV
 have acm:Def K mg "pulls_and_pushes" ye ["F","numbers"]:=fu X G Y0 Y1 Y2 YZ
 have acn:Def K mg "motion_from" yf ["F","numbers"]:=fu X G Y4 Y5 Y6 Y3
 have aco:Def K mg "solve_rows" yg ["rows","due","many"]:=fu X G Y8 Y9 Y_ Y7
 have ku:Def K mg "spare_columns" bQ ["rows","many"]:=fu X G kj km kq ki
 have rl:Def K mg "spare_list" cA ["needed","column","many"]:=fu X G qU qV qW qT
 have acp:Def K mg "turned" yh ["rows","many"]:=fu X G Za Zc Zd Y'
 have acq:Def K mg "whole_row" yi ["row"]:=fu X G Zf Zg Zh Ze
 have acr:Def K mg "solution_of" yj ["lines","many"]:=fu X G Zj Zk Zl Zi
 have acs:Def K mg "reduced" yk ["lines","many"]:=fu X G Zn Zo Zp Zm
 have acu:Def K mg "first_not_nought" ym ["lines","column"]:=fu X G Zr Zs Zt Zq
 have acv:Def K mg "cleared" yn ["line","lead","column"]:=fu X G Zv Zw Zx Zu
 have acw:Def K mg "divided" yo ["line"]:=fu X G Zz ZA ZC Zy
 have acx:Def K mg "rest_of" yp ["F","load"]:=fu X G ZE ZF ZG ZD
 have rm:Def K mg "motions_of" cB ["F"]:=fu X G qY qZ q0 qX
 have acy:Def K mg "_law_cell_at" yq ["_law_script","_law_k"]:=fu X G ZI ZJ ZK ZH
 have acz:Def K mg "_law_field" yr ["_law_cell","_law_prime","_law_many"]:=fu X G ZM ZN ZO ZL
 have acA:Def K mg "_law_lowest" yt ["_law_top","_law_bottom"]:=fu X G ZQ ZR ZS ZP
 have acB:Def K mg "_law_sum" yu ["_law_one","_law_other"]:=fu X G ZU ZV ZW ZT
 have acC:Def K mg "_law_times" yv ["_law_one","_law_other"]:=fu X G ZY ZZ Z0 ZX
 have acD:Def K mg "_law_turned" yw ["_law_one"]:=fu X G Z2 Z3 Z4 Z1
 have acE:Def K mg "_law_name" u3 ["_law_cell","_law_k"]:=fu X G Z6 Z7 Z8 Z5
 have acF:Def K mg "_law_spot" yx ["_law_cell","_law_kind"]:=fu X G Z_ Z' aaa Z9
 have acG:Def K mg "_law_ways" yy ["_law_cell"]:=fu X G aac aad aae aab
 have acH:Def K mg "_law_pins" yz ["_law_script"]:=fu X G aag aah aai aaf
 have acI:Def K mg "_law_bars" yA ["_law_script","_law_pins_here"]:=fu X G aak aal aam aaj
 have acJ:Def K mg "_law_frame" yB ["_law_pins_here","_law_bars_here"]:=fu X G aao aap aaq aan
 have acK:Def K mg "_law_dot" yC ["_law_one","_law_other"]:=fu X G aas aat aau aar
 have acL:Def K mg "_law_work" yD ["_law_load_here","_law_motion"]:=fu X G aaw aax aay aav
 have acM:Def K mg "_law_load" s_by ["_law_script","_law_pins_here"]:=fu X G aaA aaB aaC aaz
 have rn:Def K mg "_law_evened" cC ["_law_load_here","_law_moves"]:=fu X G q_ ra rf q5
 have uc:Def K mg "_law_short" cR ["_law_load_here"]:=fu X G tY tZ t_ tX
 have eJ:ud K bD:=⟨Tb,Tc,Td,Te⟩
 have Ml:Mk K bD DY:=⟨Tf,Th,Ti,Tg⟩
 have Um:=cF (st:=yE) abj abk Tn
 have Mn:=Um.x8 (ps:=["self"])
 have aoz:Meth K bD "__init__" DY:=⟨Th,Ti,Tn⟩
 have acN:=HL (st:=j_) abn abq Tp
 have acO:Binds K (fnOf "put_pin" "Frame.put_pin" (aw j_) (av j_) (af j_) (.ref DZ) Ki Kj Kk Kl D_ Km) ["self","name","x","y","hold"] []:=fun s us X hl=>match us,hl with | [_,_,_,_,_],_=>BindsTo.of_defaults rfl (X _ _ To) rfl rfl rfl
 have Uo:Binds K (fnOf "put_pin" "Frame.put_pin" (aw j_) (av j_) (af j_) (.ref DZ) Ki Kj Kk Kl D_ Km) ["self","name","x","y","hold"] [.none]:=fun s us X hl=>match us,(show us.length=4 by simpa using hl) with | [_,_,_,_],_=>BindsTo.of_defaults rfl (X _ _ To) rfl rfl rfl
 have Up:Meth K bD "put_pin" Je:=⟨abl,abm,Tp⟩
 have Uq:=cF (st:=yF) abu abv Tr
 have acP:=Uq.x8 (ps:=["self","name","one","other"])
 have acQ:Meth K bD "put_bar" Jf:=⟨abr,abt,Tr⟩
 have Ur:=cF (st:=yG) aby abz Tt
 have acR:=Ur.x8 (ps:=["self","name","one","other"])
 have acS:Meth K bD "check_bar" Jg:=⟨abw,abx,Tt⟩
 have Us:=cF (st:=yH) abC abD Tv
 have acT:=Us.x8 (ps:=["self","pin"])
 have acU:Meth K bD "check_pin" Jh:=⟨abA,abB,Tv⟩
 have Ut:=cF (st:=yI) abG abH Tx
 have acV:=Ut.x8 (ps:=["self"])
 have acW:Meth K bD "pins" Ji:=⟨abE,abF,Tx⟩
 have Uu:=cF (st:=yJ) abK abL TB
 have acX:=Uu.x8 (ps:=["self"])
 have acY:Meth K bD "bars" Jj:=⟨abI,abJ,TB⟩
 have Uv:=cF (st:=yK) abO abP TF
 have acZ:=Uv.x8 (ps:=["self","pin"])
 have ac0:Meth K bD "place" Jk:=⟨abM,abN,TF⟩
 have Uw:=cF (st:=yL) abS abT TJ
 have ac1:=Uw.x8 (ps:=["self","pin"])
 have ac2:Meth K bD "ways" Jl:=⟨abQ,abR,TJ⟩
 have Ux:=cF (st:=yM) abW abX TL
 have ac3:=Ux.x8 (ps:=["self","bar"])
 have ac4:Meth K bD "ends" Jm:=⟨abU,abV,TL⟩
 have cls_cm:ud K kr:=⟨TM,TN,TQ,TR⟩
 have aoA:Ol K kr:=⟨TU,TX,TV⟩
 have ac5:=cF (st:=HU) ab0 ab1 TZ
 have aoB:=ac5.x8 (ps:=["self"])
 have aoC:Meth K kr "ways" Jn:=⟨abY,abZ,TZ⟩
 have vD:ud K gU:=⟨T1,T2,T3,T4⟩
 have Mr:Mk K gU D':=⟨T5,T7,T8,T6⟩
 have Uy:=cF (st:=yN) ab2 ab3 T_
 have Ms:=Uy.x8 (ps:=["self","x","y"])
 have aoD:Meth K gU "__init__" D':=⟨T7,T8,T_⟩
 have Uz:=cF (st:=yO) ab6 ab7 Ub
 have ac6:=Uz.x8 (ps:=["self"])
 have ac7:Meth K gU "ways" Jo:=⟨ab4,ab5,Ub⟩
 have MT:ud K jM:=⟨Uc,Ud,Ue,Ug⟩
 have Mq:Ol K jM:=⟨Uh,Uj,Ui⟩
 have UA:=cF (st:=yP) ab' aca Ul
 have ac8:=UA.x8 (ps:=["self"])
 have ac9:Meth K jM "ways" Jp:=⟨ab8,ab9,Ul⟩
 have LU:=mg_of X G aaG
 have LV:=mg_of X G aaH
 have qf:mg "NOUGHT"=some (.ref MJ):=mg_of X G aaI
 have y4:mg "ONE"=some (.ref MK):=mg_of X G aaM
 have LW:mg "NO_MOVE"=some (.ref MM):=mg_of X G aaQ
 have aoE:mg "YardError"=some (.ref aaZ):=mg_of X G aaY
 have aoF:mg "NoWay"=some (.ref aa1):=mg_of X G aa0
 have aoG:mg "PinThere"=some (.ref aa3):=mg_of X G aa2
 have aoH:mg "SpotTaken"=some (.ref aa5):=mg_of X G aa4
 have aoI:mg "NoPin"=some (.ref aa7):=mg_of X G aa6
 have aoJ:mg "BarThere"=some (.ref aa9):=mg_of X G aa8
 have aoK:mg "NoBar"=some (.ref aba):=mg_of X G aa'
 have aoL:mg "NoLength"=some (.ref abc):=mg_of X G abb
 have aoM:mg "TooMany"=some (.ref abe):=mg_of X G abd
 have Mm:mg "Frame"=some (.ref bD):=mg_of X G abf
 have aoN:mg "Hold"=some (.ref kr):=mg_of X G abg
 have Mo:mg "Roller"=some (.ref gU):=mg_of X G abh
 have Mp:mg "Fixed"=some (.ref jM):=mg_of X G abi
 have Jq:mg "ValueError"=none:=mg_none_of X G rh
 have iH:mg "abs"=none:=mg_none_of X G S5
 have DW:mg "all"=none:=mg_none_of X G S6
 have CC:mg "any"=none:=mg_none_of X G S7
 have vi:mg "dict"=none:=mg_none_of X G MO
 have cS:mg "enumerate"=none:=mg_none_of X G ub
 have oM:mg "int"=none:=mg_none_of X G S8
 have fZ:mg "isinstance"=none:=mg_none_of X G rj
 have bw:mg "len"=none:=mg_none_of X G S9
 have cn:mg "list"=none:=mg_none_of X G MQ
 have DP:mg "min"=none:=mg_none_of X G S_
 have bO:mg "range"=none:=mg_none_of X G Jc
 have DK:mg "str"=none:=mg_none_of X G S'
 have qQ:mg "tuple"=none:=mg_none_of X G Jd
 have g6:mg "zip"=none:=mg_none_of X G Ta
 have F:=cF (st:=iG) S0 S1 S2
 refine ⟨fnOf "law" "law" (aw iG) (av iG) (af iG) .none MA MD MF MG DX MI,fun s v=>.of_eq rfl,fun base _ _=> ?_⟩
 have hM:rY (aS l.prog w):=aS.pG
 have hN:∀H:Hp,bH K H MJ [.int 0,.int 1]:=fun H=>.inr ⟨_,_,_,aaJ,rfl,rfl,(by show 2≤sizeLine;decide),.cons ⟨_,rfl⟩ (.cons ⟨_,rfl⟩ .nil)⟩
 have hO:∀H:Hp,bH K H MK [.int 1,.int 1]:=fun H=>.inr ⟨_,_,_,aaN,rfl,rfl,(by show 2≤sizeLine;decide),.cons ⟨_,rfl⟩ (.cons ⟨_,rfl⟩ .nil)⟩
 have nm:∀{c:Addr} {o:Option Addr} {k0 k1:Tok} {n:Nat} {sl:Array (Option Value)},K.lookup c=some ⟨.type "tuple",o,.seq #[.int 0 k0,.int 1 k1] n,sl⟩→∀H:Hp,fe K H (.ref c) 0:=fun t H=>⟨_,rfl,by rw [cg];exact .inr ⟨_,_,_,t,rfl,rfl,(by show 2≤sizeLine;decide),.cons ⟨_,rfl⟩ (.cons ⟨_,rfl⟩ .nil)⟩⟩
 have hMo:∀H:Hp,d0 K H (.ref MM) (0,0):=fun H=>⟨_,.ref S3,.ref S4,rfl,.inr ⟨_,_,_,aaR,rfl,rfl,(by show 2≤sizeLine;decide),.cons rfl (.cons rfl .nil)⟩,nm aaS H,nm aaV H⟩
 have fc:BJ K bD:=⟨eJ,EA,MR,MS⟩
 have G1:=O6 (P:=l.prog) (w:=w) (base:=base) (CX:=aS l.prog w) ace iH
 have G2:=O7 ht acd G1
 have GW:=O9 acq G1
 have GDv:=O_ ht acw G1
 have GCl:=Pa ht acv g6 G1 GDv
 have GF:=Pb (P:=l.prog) (w:=w) (base:=base) acu cS
 have GR:=Pd acs bO cn GF GCl
 have GS:=Pj hN qf acr CC GR G2
 have ac':=Po aco g6 bw GW GS (Pm acp bO) G2
 have GD:=LR (PU hM acb G2)
 have GPD:=PX hM acg GD
 have GI:=P0 (P:=l.prog) (w:=w) (mg:=mg) (base:=base) Um fc
 have MBs:bq l.prog w K mg base (aS l.prog w) 1 bD "bars" ["self"] (mw K bD):=⟨_,_,eJ,acY,P2 Uu fc cn,acX⟩
 have MU:bq l.prog w K mg base (aS l.prog w) 1 bD "pins" ["self"] (e_ K bD):=⟨_,_,eJ,acW,P5 Ut fc cn,acV⟩
 have MCp:bq l.prog w K mg base (aS l.prog w) 1 bD "check_pin" ["self","pin"] (dh K bD):=⟨_,_,eJ,acU,P7 Us fc,acT⟩
 have MCb:bq l.prog w K mg base (aS l.prog w) 2 bD "check_bar" ["self","name","one","other"] (fN K bD):=⟨_,_,eJ,acS,Qm Ur fc LV bw MCp,acR⟩
 have X5:bq l.prog w K mg base (aS l.prog w) 3 bD "put_bar" ["self","name","one","other"] (iO K bD):=⟨_,_,eJ,acQ,Qo Uq fc MCb,acP⟩
 have okP:=Qk (P:=l.prog) (w:=w) (mg:=mg) (base:=base) acN fc LU bw cn
 have Vi:bq l.prog w K mg base (aS l.prog w) 3 bD "put_pin" ["self","name","x","y","hold"] (di l.prog w K mg base bD):=⟨_,_,eJ,Up,okP,acO⟩
 have X6:uO l.prog w K mg base (aS l.prog w) 3 bD "put_pin" ["self","name","x","y","hold"] [.none] (di l.prog w K mg base bD):=⟨_,_,eJ,Up,okP,Uo⟩
 have MPl:bq l.prog w K mg base (aS l.prog w) 2 bD "place" ["self","pin"] (kK K bD):=⟨_,_,eJ,ac0,P9 Uv fc MCp,acZ⟩
 have ME:bq l.prog w K mg base (aS l.prog w) 1 bD "ends" ["self","bar"] (qk K bD):=⟨_,_,eJ,ac4,Qa Ux fc,ac3⟩
 have MW:bq l.prog w K mg base (aS l.prog w) 2 bD "ways" ["self","pin"] (mz K bD):=⟨_,_,eJ,ac2,Qc Uw fc cn MCp,ac1⟩
 have wR:bq l.prog w K mg base (aS l.prog w) 1 gU "ways" ["self"] (iM K gU):=⟨_,_,vD,ac7,Qg Uz vD Kn,ac6⟩
 have wF:bq l.prog w K mg base (aS l.prog w) 1 jM "ways" ["self"] (iN K):=⟨_,_,MT,ac9,Qi UA,ac8⟩
 have GRI:=Qe (P:=l.prog) (w:=w) (mg:=mg) (base:=base) Uy vD Kn
 have GA:=Qr acf MPl GPD
 have GPR:=Qs hMo LW ach MU
 have GBR:=Qv acj GA GPR
 have GDR:=Qx ack MU MW MBs ME GPR GBR
 have GPP:=Qy acm bw vi g6 MU MW MBs
 have GMF:=QD acn cS MU
 have GLR:=Qt aci MU GPR
 have GRO:=QF hN qf hO y4 acx bw MU GDR GLR ac' GMF GPP
 have GC:=QS (P:=l.prog) (w:=w) (base:=base) (CX:=aS l.prog w) acy bw
 have MV:=QU (P:=l.prog) (w:=w) (base:=base) (CX:=aS l.prog w) acz
 have Vr:=QV (w:=w) (base:=base) ht acA iH
 have Vs:=QX (P:=l.prog) (w:=w) (base:=base) acB
 have GTi:=QZ (P:=l.prog) (w:=w) (base:=base) acC
 have GTu:=Q3 (P:=l.prog) (w:=w) (base:=base) acD
 have GNa:=Q4 hM acE DK MV
 have GSp:=Q6 acF MV Vr
 have GWy:=Q7 acG MV Vr
 have GPi:=Ra acH bO DP GC MV GSp GWy GNa Vs
 have GBa:=Rb acI bO bw GC MV GNa
 have GFr:=Rc acJ bw Ml Mm GI Mn Mo Mp Mq Mr GRI Ms (wR.mono (by decide)) (wF.mono (by decide)) X5 Vi X6
 have GDo:=Rh acK Vs GTi
 have GSL:=nv hN qf hO y4 rl G2
 have GSC:=jH ku bO GW GR GSL
 have GPa:=tI vC MU
 have GMo:=nA rm bw GPa GDR GSC GMF
 have GWk:=Rj acL Vs GDo
 have GLd:=Rk acM bO bw oM GC MV Vr
 have GEv:=nG rn cn GWk Vs GTu Vr
 have GSh:=qP (P:=l.prog) (w:=w) (base:=base) uc iH
 exact My F DW fZ qQ oM GC MV GPi GBa GFr GMo GLd GEv GSh GWk GRO
end T_k47
open PySem PySem.W PyProof.Rows
set_option maxRecDepth 100000 in
set_option maxHeartbeats 0 in
theorem PySem.Challenge.cw_trussyard_k47_whole_rest_by_motions_holds : PySem.Challenge.rw_trussyard_k47_whole_rest_by_motions.Holds := by
 w_on;o_law;k_head;(case hw=>w_witness2)
 k_fill
 refine Ty.walk (l:=PySem.Challenge.rw_trussyard_k47_whole_rest_by_motions) (x:="_law_script") (k:=42) (CX:=fun w=>Ty.aS (PySem.Challenge.rw_trussyard_k47_whole_rest_by_motions).prog w) rfl rfl (by first | rfl | decide+kernel) ⟨rfl,by decide,by decide⟩ (fun w h Y=>PySem.W.kIn_of Y) (fun w=>Ty.aS.pG) ?F
 case F=>
  intro w mg fa h KX G Og
  refine' T_k47.all_mk KX G Og ?A0 ?A1 ?A2 ?A3 ?A4 ?A5 ?A6 ?A7 ?A8 ?A9 ?Aa ?Ab ?Ac ?Ad ?Ae ?Af ?Ag ?Ah ?Ai ?Aj ?Ak ?Al ?Am ?An ?Ao ?Ap ?Aq ?Ar ?As ?At ?Au ?Av ?Aw ?Ax ?Ay ?Az ?B0 ?B1 ?B2 ?B3 ?B4 ?B5 ?B6 ?B7 ?B8 ?B9 ?Ba ?Bb ?Bc ?Bd ?Be ?Bf ?Bg ?Bh ?Bi ?Bj ?Bk ?Bl ?Bm ?Bn ?Bo ?Bp ?Bq ?Br ?Bs ?Bt ?Bu ?Bv ?Bw ?Bx ?By ?Bz ?C0 ?C1 ?C2 ?C3 ?C4 ?C5 ?C6 ?C7 ?C8 ?C9 ?Ca ?Cb ?Cc ?Cd ?Ce ?Cf ?Cg ?Ch ?Ci ?Cj ?Ck ?Cl ?Cm ?Cn ?Co ?Cp ?Cq ?Cr ?Cs ?Ct ?Cu ?Cv ?Cw ?Cx ?Cy ?Cz ?D0 ?D1 ?D2 ?D3 ?D4 ?D5 ?D6 ?D7 ?D8 ?D9 ?Da ?Db ?Dc ?Dd ?De ?Df ?Dg ?Dh ?Di ?Dj ?Dk ?Dl ?Dm ?Dn ?Do ?Dp ?Dq ?Dr ?Ds ?Dt ?Du ?Dv ?Dw ?Dx ?Dy ?Dz ?E0 ?E1 ?E2 ?E3 ?E4 ?E5 ?E6 ?E7 ?E8 ?E9 ?Ea ?Eb ?Ec ?Ed ?Ee ?Ef ?Eg ?Eh ?Ei ?Ej ?Ek ?El ?Em ?En ?Eo ?Ep ?Eq ?Er ?Es ?Et ?Eu ?Ev ?Ew ?Ex ?Ey ?Ez ?F0 ?F1 ?F2 ?F3 ?F4 ?F5 ?F6 ?F7 ?F8 ?F9 ?Fa ?Fb ?Fc ?Fd ?Fe ?Ff ?Fg ?Fh ?Fi ?Fj ?Fk ?Fl ?Fm ?Fn ?Fo ?Fp ?Fq ?Fr ?Fs ?Ft ?Fu ?Fv ?Fw ?Fx ?Fy ?Fz ?G0 ?G1 ?G2 ?G3 ?G4 ?G5 ?G6 ?G7 ?G8 ?G9 ?Ga ?Gb ?Gc ?Gd ?Ge ?Gf ?Gg ?Gh ?Gi ?Gj ?Gk ?Gl ?Gm ?Gn ?Go ?Gp ?Gq ?Gr ?Gs ?Gt ?Gu ?Gv ?Gw ?Gx ?Gy ?Gz ?H0 ?H1 ?H2 ?H3 ?H4 ?H5 ?H6 ?H7 ?H8 ?H9 ?Ha ?Hb ?Hc ?Hd ?He ?Hf ?Hg ?Hh ?Hi ?Hj ?Hk ?Hl ?Hm ?Hn ?Ho ?Hp ?Hq ?Hr ?Hs ?Ht ?Hu ?Hv ?Hw ?Hx ?Hy ?Hz ?I0 ?I1 ?I2 ?I3 ?I4 ?I5 ?I6 ?I7 ?I8 ?I9 ?Ia ?Ib ?Ic ?Id ?Ie ?If ?Ig ?Ih ?Ii ?Ij
  (case A0=>k_is);(case A1=>k_is);(case A2=>k_is);(case A3=>k_is);(case A4=>k_is);(case A5=>k_is);(case A6=>k_is);(case A7=>k_is);(case A8=>k_is);(case A9=>k_is);(case Aa=>k_is);(case Ab=>k_is);(case Ac=>k_is);(case Ad=>k_is);(case Ae=>k_is);(case Af=>k_is);(case Ag=>k_is);(case Ah=>k_is);(case Ai=>k_is);(case Aj=>k_is);(case Ak=>k_is);(case Al=>k_is);(case Am=>k_is);(case An=>k_is);(case Ao=>k_is);(case Ap=>k_is);(case Aq=>k_is);(case Ar=>k_is);(case As=>k_is);(case At=>k_is);(case Au=>k_is);(case Av=>k_is);(case Aw=>k_is);(case Ax=>k_is);(case Ay=>k_is);(case Az=>k_is);(case B0=>k_is);(case B1=>k_is);(case B2=>k_is);(case B3=>k_is);(case B4=>k_is);(case B5=>k_is);(case B6=>k_is);(case B7=>k_is);(case B8=>k_is);(case B9=>k_is);(case Ba=>k_is);(case Bb=>k_is);(case Bc=>k_is);(case Bd=>k_is);(case Be=>k_is);(case Bf=>k_is);(case Bg=>k_is);(case Bh=>k_is);(case Bi=>k_is);(case Bj=>k_is);(case Bk=>k_is);(case Bl=>k_is);(case Bm=>k_is);(case Bn=>k_is);(case Bo=>k_is);(case Bp=>k_is);(case Bq=>k_is);(case Br=>k_is);(case Bs=>k_is);(case Bt=>k_is);(case Bu=>k_is);(case Bv=>k_is);(case Bw=>k_is);(case Bx=>k_is);(case By=>k_is);(case Bz=>k_is);(case C0=>k_is);(case C1=>k_is);(case C2=>k_is);(case C3=>k_is);(case C4=>k_is);(case C5=>k_is);(case C6=>k_is);(case C7=>k_is);(case C8=>k_is);(case C9=>k_is);(case Ca=>k_is);(case Cb=>k_is);(case Cc=>k_is);(case Cd=>k_is);(case Ce=>k_is);(case Cf=>k_is);(case Cg=>k_is);(case Ch=>k_is);(case Ci=>k_is);(case Cj=>k_is);(case Ck=>k_is);(case Cl=>k_is);(case Cm=>k_is);(case Cn=>k_is);(case Co=>k_is);(case Cp=>k_is);(case Cq=>k_is);(case Cr=>k_is);(case Cs=>k_is);(case Ct=>k_is);(case Cu=>k_is);(case Cv=>k_is);(case Cw=>k_is);(case Cx=>k_is);(case Cy=>k_is);(case Cz=>k_is);(case D0=>k_is);(case D1=>k_is);(case D2=>k_is);(case D3=>k_is);(case D4=>k_is);(case D5=>k_is);(case D6=>k_is);(case D7=>k_is);(case D8=>k_is);(case D9=>k_is);(case Da=>k_is);(case Db=>k_is);(case Dc=>k_is);(case Dd=>k_is);(case De=>k_is);(case Df=>k_is);(case Dg=>k_is);(case Dh=>k_is);(case Di=>k_is);(case Dj=>k_is);(case Dk=>k_is);(case Dl=>k_is);(case Dm=>k_is);(case Dn=>k_is);(case Do=>k_is);(case Dp=>k_is);(case Dq=>k_is);(case Dr=>k_is);(case Ds=>k_is);(case Dt=>k_is);(case Du=>k_is);(case Dv=>k_is);(case Dw=>k_is);(case Dx=>k_is);(case Dy=>k_is);(case Dz=>k_is);(case E0=>k_is);(case E1=>k_is);(case E2=>k_is);(case E3=>k_is);(case E4=>k_is);(case E5=>k_is);(case E6=>k_is);(case E7=>k_is);(case E8=>k_is);(case E9=>k_is);(case Ea=>k_is);(case Eb=>k_is);(case Ec=>k_is);(case Ed=>k_is);(case Ee=>k_is);(case Ef=>k_is);(case Eg=>k_is);(case Eh=>k_is);(case Ei=>k_is);(case Ej=>k_is);(case Ek=>k_is);(case El=>k_is);(case Em=>k_is);(case En=>k_is);(case Eo=>k_is);(case Ep=>k_is);(case Eq=>k_is);(case Er=>k_is);(case Es=>k_is);(case Et=>k_is);(case Eu=>k_is);(case Ev=>k_is);(case Ew=>k_is);(case Ex=>k_is);(case Ey=>k_is);(case Ez=>k_is);(case F0=>k_is);(case F1=>k_is);(case F2=>k_is);(case F3=>k_is);(case F4=>k_is);(case F5=>k_is);(case F6=>k_is);(case F7=>k_is);(case F8=>k_is);(case F9=>k_is);(case Fa=>k_is);(case Fb=>k_is);(case Fc=>k_is);(case Fd=>k_is);(case Fe=>k_is);(case Ff=>k_is);(case Fg=>k_is);(case Fh=>k_is);(case Fi=>k_is);(case Fj=>k_is);(case Fk=>k_is);(case Fl=>k_is);(case Fm=>k_is);(case Fn=>k_is);(case Fo=>k_is);(case Fp=>k_is);(case Fq=>k_is);(case Fr=>k_is);(case Fs=>k_is);(case Ft=>k_is);(case Fu=>k_is);(case Fv=>k_is);(case Fw=>k_is);(case Fx=>k_is);(case Fy=>k_is);(case Fz=>k_is);(case G0=>k_is);(case G1=>k_is);(case G2=>k_is);(case G3=>k_is);(case G4=>k_is);(case G5=>k_is);(case G6=>k_is);(case G7=>k_is);(case G8=>k_is);(case G9=>k_is);(case Ga=>k_is);(case Gb=>k_is);(case Gc=>k_is);(case Gd=>k_is);(case Ge=>k_is);(case Gf=>k_is);(case Gg=>k_is);(case Gh=>k_is);(case Gi=>k_is);(case Gj=>k_is);(case Gk=>k_is);(case Gl=>k_is);(case Gm=>k_is);(case Gn=>k_is);(case Go=>k_is);(case Gp=>k_is);(case Gq=>k_is);(case Gr=>k_is);(case Gs=>k_is);(case Gt=>k_is);(case Gu=>k_is);(case Gv=>k_is);(case Gw=>k_is);(case Gx=>k_is);(case Gy=>k_is);(case Gz=>k_is);(case H0=>k_is);(case H1=>k_is);(case H2=>k_is);(case H3=>k_is);(case H4=>k_is);(case H5=>k_is);(case H6=>k_is);(case H7=>k_is);(case H8=>k_is);(case H9=>k_is);(case Ha=>k_is);(case Hb=>k_is);(case Hc=>k_is);(case Hd=>k_is);(case He=>k_is);(case Hf=>k_is);(case Hg=>k_is);(case Hh=>k_is);(case Hi=>k_is);(case Hj=>k_is);(case Hk=>k_is);(case Hl=>k_is);(case Hm=>k_is);(case Hn=>k_is);(case Ho=>k_is);(case Hp=>k_is);(case Hq=>k_is);(case Hr=>k_is);(case Hs=>k_is);(case Ht=>k_is);(case Hu=>k_is);(case Hv=>k_is);(case Hw=>k_is);(case Hx=>k_is);(case Hy=>k_is);(case Hz=>k_is);(case I0=>k_is);(case I1=>k_is);(case I2=>k_is);(case I3=>k_is);(case I4=>k_is);(case I5=>k_is);(case I6=>k_is);(case I7=>k_is);(case I8=>k_is);(case I9=>k_is);(case Ia=>k_is);(case Ib=>k_is);(case Ic=>k_is);(case Id=>k_is);(case Ie=>k_is);(case If=>k_is);(case Ig=>k_is);(case Ih=>k_is);(case Ii=>k_is);(case Ij=>rfl)
#print axioms PySem.Challenge.cw_trussyard_k47_whole_rest_by_motions_holds
