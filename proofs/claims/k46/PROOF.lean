import PyProof.Rows.All
import Wide.All
import OpenK.AllK
import Wide.FinOn
import Lean
import PyProof.EqAt
import PyProof.EqKinds
import PyProof.TupleCall
import PyProof.ZipIter
import PyProof.SumWalkG
import PyProof.ListCopy
import PyProof.ListStr
import PyProof.DictItems
import PyProof.DictWalks
import PyProof.DictTruth
import PyProof.EnumMake
import PyProof.InstStoreFacts
import PyProof.Rows.SortWalk
import PyProof.ListRange
import PyProof.DictValues
import KE.KRevSl
import KE.KDictOf
import PyProof.DictIter
import PyProof.FactsAll.dict_1
import PyProof.AttrMissHeap
import KE.KEqDict
import KE.KDictList
import KE.KItemsList
import PySem.Challenge.RW_trussyard_k46_whole_the_only_forces
set_option Elab.async false
set_option linter.all false
set_option maxRecDepth 100000
theorem gE.{u}{α:Type u}{l:List α}{i:Nat}(h:i < l.length):l[i]? =some l[i]:=List.getElem?_eq_getElem h
namespace PySem.W.Fast
def tw15783482736606353458:Unit:=()
def tw1286478270054061286:Unit:=()
def tw3292420391485933005:Unit:=()
def tw1506073998668658907:Unit:=()
def tw6940727746424968785:Unit:=()
def tw15586990820196907537:Unit:=()
def tw10431315669896205730:Unit:=()
def tw5346478513692080753:Unit:=()
def tw32172637400740197:Unit:=()
def tw2984017411666979155:Unit:=()
def tw6484364900727333477:Unit:=()
def tw13571727731276713190:Unit:=()
def tw12579249274093166937:Unit:=()
def tw10215195802083023153:Unit:=()
def tw7014340685650873509:Unit:=()
def tw16648010205460913832:Unit:=()
def tw13319842732940992987:Unit:=()
def tw3501038211993934234:Unit:=()
def tw18294947968997737721:Unit:=()
def tw11090137081999151559:Unit:=()
def tw5761616290661428517:Unit:=()
def tw12892380308713027045:Unit:=()
def tw4361701400629761107:Unit:=()
def tw11624594376251665196:Unit:=()
def tw12137069894528611518:Unit:=()
def tw2551747484364718437:Unit:=()
def tw13489657996317682940:Unit:=()
def tw12745360107120895567:Unit:=()
def tw11142268472693647467:Unit:=()
def tw4973009043021858481:Unit:=()
def tw13723537563453828675:Unit:=()
def tw7989461491305569445:Unit:=()
def tw2259548644088857716:Unit:=()
def tw9869356005781197776:Unit:=()
def tw1209910334839178766:Unit:=()
def tw12502004659040281689:Unit:=()
def tw11536728284616370062:Unit:=()
def tw13621817450562940958:Unit:=()
def tw15022174434698279786:Unit:=()
def tw11111409955945397254:Unit:=()
def tw12921119312523969355:Unit:=()
def tw2802502794449491630:Unit:=()
def tw5037855632736946821:Unit:=()
def tw647562667674942869:Unit:=()
def tw7575203216673210991:Unit:=()
def tw8974800869621149582:Unit:=()
def tw14812060827822195399:Unit:=()
def tw10605720726710157998:Unit:=()
def tw12013949016549442407:Unit:=()
def tw7222757786944872182:Unit:=()
def tw16784591765366505755:Unit:=()
def tw14259054853987819222:Unit:=()
def tw1575388547567116656:Unit:=()
def tw11420733814531270487:Unit:=()
def tw6246478819669783814:Unit:=()
def tw9972244979003664656:Unit:=()
def tw17921475881915736503:Unit:=()
def tw15331421085277079014:Unit:=()
def tw15950111488120992232:Unit:=()
def tw16601531070364543232:Unit:=()
def tw5732241648907854985:Unit:=()
def tw2513423909390631629:Unit:=()
def tw3627717605770642256:Unit:=()
def tw1636039307456787428:Unit:=()
def tw11800877037822238406:Unit:=()
def tw11042618570813016315:Unit:=()
def tw3228835365661335859:Unit:=()
def tw4956260811417195449:Unit:=()
def tw14865802653584214193:Unit:=()
def tw11824182718368460908:Unit:=()
def tw6083491452383070901:Unit:=()
def tw14007990165868322980:Unit:=()
def tw10128727530859410938:Unit:=()
def tw8331310615460073022:Unit:=()
def tw5698772410673507935:Unit:=()
def tw3404837333270605865:Unit:=()
def tw12043658161883759222:Unit:=()
def tw17093058143795702121:Unit:=()
def tw18321809881261155090:Unit:=()
def tw2006595591896584682:Unit:=()
def tw12763668978932048492:Unit:=()
def tw18066800566216384910:Unit:=()
def tw9943307346398388783:Unit:=()
def tw17946314195768593897:Unit:=()
def tw67435295775239134:Unit:=()
def tw4390031012592683483:Unit:=()
def tw11818164130736951417:Unit:=()
def tw3292890148963861867:Unit:=()
def tw15278954649156939022:Unit:=()
def tw6667490211117550755:Unit:=()
def tw9258289657369751895:Unit:=()
def tw13162093925376415520:Unit:=()
def tw11528417302625263799:Unit:=()
def tw773047338247755421:Unit:=()
def tw8305761702386935412:Unit:=()
def tw2793101492738405874:Unit:=()
def tw11966969732916491863:Unit:=()
def tw12114876242059368076:Unit:=()
def tw6038038286486702631:Unit:=()
def tw17093237400499677200:Unit:=()
def tw12824071305218382023:Unit:=()
def tw148510721966221385:Unit:=()
def tw9410463485855023562:Unit:=()
def tw9819334721199905601:Unit:=()
def tw3627854621736766711:Unit:=()
def tw15796575053130464472:Unit:=()
def tw4123914144498876596:Unit:=()
def tw13408603566915587307:Unit:=()
def tw18326370462773793024:Unit:=()
def tw17140731399185659631:Unit:=()
def tw4547521779286038654:Unit:=()
def tw10155724320437877798:Unit:=()
def tw12602857452454797562:Unit:=()
def tw12111246543397309980:Unit:=()
def tw4601785301419582701:Unit:=()
def tw9598964077673790712:Unit:=()
def tw13953220888808839165:Unit:=()
def tw3432656266899064407:Unit:=()
def tw3662317694644101405:Unit:=()
def tw5923950250087009467:Unit:=()
def tw12174252285080521955:Unit:=()
def tw6535888348941295898:Unit:=()
def tw7257185431275790151:Unit:=()
def tw9651716839342320287:Unit:=()
def tw994391363343203744:Unit:=()
def tw2123584314183397074:Unit:=()
def tw10808512351477916677:Unit:=()
def tw6097749114527166765:Unit:=()
def tw10709307179973712321:Unit:=()
def tw6769341410442264420:Unit:=()
def tw7248234724974872771:Unit:=()
def tw6764377294933369826:Unit:=()
def tw15488036303329728784:Unit:=()
def tw3189820188274893659:Unit:=()
def tw4183923100250792191:Unit:=()
def tw1439874750488131141:Unit:=()
def tw11775292222343306440:Unit:=()
def tw7912088909521000664:Unit:=()
def tw3297392360778501532:Unit:=()
def tw15346455035743793368:Unit:=()
def tw3802935301619287539:Unit:=()
def tw1752234103066831275:Unit:=()
def tw5954686738785928487:Unit:=()
def tw2581284151116914341:Unit:=()
def tw3407459138614324591:Unit:=()
def tw1386411631808732795:Unit:=()
def tw8554164945996788968:Unit:=()
def tw6937680860988525335:Unit:=()
def tw4802600366019743513:Unit:=()
def tw4359952745522071491:Unit:=()
def tw5487168156843301510:Unit:=()
def tw3937969331438165126:Unit:=()
def tw13322499992206064001:Unit:=()
def tw12643067797022057040:Unit:=()
def tw6603800779701668628:Unit:=()
def tw5760935718704983535:Unit:=()
def tw15432006582796468799:Unit:=()
def tw3345250631078559264:Unit:=()
def tw16383828905344930279:Unit:=()
def tw12969777210531660792:Unit:=()
def tw15664771935167839489:Unit:=()
def tw1329744128513082866:Unit:=()
def tw5022193168629620599:Unit:=()
def tw12759964851321460979:Unit:=()
def tw17802466393607883790:Unit:=()
def tw16641426075547544263:Unit:=()
def tw17983663343506897011:Unit:=()
def tw3780937213475270744:Unit:=()
def tw9094699795421780798:Unit:=()
def tw14972982918658301782:Unit:=()
def tw7779054050837982372:Unit:=()
def tw17325094330982282768:Unit:=()
def tw8738579485561553250:Unit:=()
def tw14551850593177965570:Unit:=()
def tw10945920190714874906:Unit:=()
def tw16346890404701542375:Unit:=()
def tw3985567762395039078:Unit:=()
def tw17241341128308263729:Unit:=()
def tw9812529580493245173:Unit:=()
def tw11501814268445805649:Unit:=()
def tw11209095924087265660:Unit:=()
def tw11628634587226618174:Unit:=()
def tw17985631902523779101:Unit:=()
def tw13151141839917220173:Unit:=()
def tw4747396487352971025:Unit:=()
def tw10740593052903581894:Unit:=()
def tw13995363992896169775:Unit:=()
def tw17881692136180488548:Unit:=()
def tw6783555917107855662:Unit:=()
def tw17288669039796351782:Unit:=()
def tw4209681668751522471:Unit:=()
def tw1324136088985476672:Unit:=()
def tw15960031419172308321:Unit:=()
def tw7634566616271584490:Unit:=()
def tw14628579723355666792:Unit:=()
def tw8725568164379947778:Unit:=()
def tw11241701345288491340:Unit:=()
def tw6023051813745618523:Unit:=()
def tw458673254161782918:Unit:=()
def tw7913203778549599217:Unit:=()
def tw6382601413428003135:Unit:=()
def tw3444723673695688432:Unit:=()
def tw11461825937076366668:Unit:=()
def tw4281872892970239388:Unit:=()
def tw15030994817347594914:Unit:=()
def tw4020125441157859592:Unit:=()
def tw7064462149113594399:Unit:=()
def tw14486596566566757964:Unit:=()
def tw3711867695991864918:Unit:=()
def tw3110776827687781319:Unit:=()
def tw12055245528818778146:Unit:=()
def tw16673192095276303019:Unit:=()
def tw6407972036065893487:Unit:=()
def tw310979182622284893:Unit:=()
def tw15556633486754034122:Unit:=()
def tw15400789981451556111:Unit:=()
def tw14586181260624764272:Unit:=()
end PySem.W.Fast
open Array renaming length_toList→am0, toList→an0
open Bool renaming false_ne_true→adT, and_eq_true→aeK, eq_iff_iff→aeX, false_eq_true→afb, eq_false_iff→afh, and_false→amT, or_false→anU, and_true→anW
open Classical renaming byContradiction→aej, propDecidable→aet, not_imp→aku, not_forall→amY
open Int renaming zero_add→ad9, ne_of_gt→aeh, gcd→aek, natAbs_mul→aeF, gcd_dvd_right→aeO, mul_comm→aeP, mul_pos→aeQ, gcd_dvd_left→aeU, fmod_nonneg_of_pos→aeV, natAbs_dvd_natAbs→aeZ, fdiv_eq_of_eq_mul_right→ae2, natAbs_add_le→ae3, mul_zero→afe, mul_assoc→afl, fmod_lt_of_pos→afu, natAbs_neg→afv, mul_neg_of_pos_of_neg→afw, lt_trichotomy→ah_, mul_eq_zero→amK, gcd_zero_right→am7, toNat_natCast→am', fmod_def→ana, emod_eq_of_lt→anj, gcd_mul_left→anp, gcd_pos_iff→anA, mul_ne_zero→anB, dvd_coe_gcd→anG
open List renaming getElem?_eq_some_iff→be, getElem?_map→ir, length_map→Wp, mem_of_getElem?→aa_, mem_map→abt, getElem?_eq_none→ab_, map_cons→ac_, getD_eq_getElem?_getD→adC, getElem?_of_mem→adD, mem_cons_of_mem→adE, mem_cons_self→adG, getElem?_append_left→adI, mem_singleton→adJ, length_append→adK, getElem?_append_right→adN, replicate→adP, mem_append→adQ, map_append→adR, flatMap_cons→adS, size_toArray→adW, mem_cons→adY, length_take→adZ, map_map→ad1, map_congr_left→ad2, sum_cons→ad3, length_cons→ad4, mem_append_right→ad6, nodup_cons→ad8, mem_append_left→ad_, getElem?_set→ad', take_length→aea, map_nil→aeb, ext_getElem?→aec, mem_range→aed, getElem?_replicate→aei, range→aen, zipWith→aeo, getElem_mem→aeq, mem_flatMap→aer, mem_iff_getElem→aeu, flatMap_append→aey, mem_filter→aez, length_replicate→aeB, length→aeE, replicate_succ→aeH, take_of_length_le→aeI, sum_nil→aeJ, getElem?_zipWith→aeL, lookup→aeN, length_eraseIdx→aeR, nodup_append→aeS, mem_of_mem_eraseIdx→aeT, getElem?_eraseIdx→aeW, find?_cons→aeY, length_filter_le→ae0, append_assoc→ae1, take_add_one→ae4, cons_append→ae5, any_eq_true→ae6, nodup_range→ae7, filterMap_cons→ae9, any_cons→ae_, nil_append→ae', length_eq_zero_iff→afc, flatten_cons→afd, getElem?_inj→afg, take_append_drop→afj, filter_cons→afk, append_nil→afn, mem_filterMap→aft, pairwise_iff_getElem→af_, pairwise_map→ai_, length_range→aj_, getElem?_take_of_lt→amt, length_erase_of_mem→amu, length_drop→amv, length_eraseIdx_le→amx, filter_cons_of_neg→amz, filter_cons_of_pos→amA, getElem?_set_self→amC, range_succ_eq_map→amE, zipWith_cons_cons→amF, length_pos_of_mem→amG, getElem_cons_drop→amH, of_mem_zip→amI, length_nil→amJ, range_succ→amL, sum_append→amM, length_singleton→amO, eq_nil_or_concat→amP, concat_eq_append→amQ, getElem?_set_ne→amR, nodup_nil→amV, mem_erase_of_ne→amW, mem_of_mem_take→amZ, length_zipWith→am1, getElem?_range→am2, take_succ_cons→am3, all_cons→am4, forIn_toArray→am6, zip_cons_cons→am8, filter_append→am9, getElem_take→anh, getElem_inj→anm, lookup_cons→anq, all_eq_true→anr, getElem_map→ans, cons_ne_nil→ant, flatMap_nil→anu, forIn_cons→anC, foldl→anJ, Nodup→anL, forIn_nil→anM
open List.Pairwise renaming map→ak_
open Nat renaming le_trans→adF, le_refl→adL, lt_of_le_of_lt→adO, lt_of_lt_of_le→adU, pow_le_pow_right→adV, mul_le_mul_right→ad0, ne_of_lt→ad5, lt_succ_self→aef, zero_le→aeg, lt_succ_iff_lt_or_eq→ael, mul_le_mul→aep, add_mul→aev, lt_irrefl→aew, not_lt_zero→aeA, one_le_two_pow→aeC, le_of_lt→aeD, lt_succ_of_lt→aeG, zero_mul→ae8, pow_succ→aff, pow_add→afm, min_eq_left→afo, pow_le_pow_left→afp, ne_of_gt→afr, mul_comm→afs, le_of_not_lt→amw, le_add_right→amy, add_sub_cancel_left→amB, add_comm→amD, le_succ→amS, one_mul→amX, le_of_eq→am_, lt_trans→ane, le_succ_of_le→ang, two_pow_pos→anE
open Ne renaming symm→ad7
open Option renaming map_eq_some_iff→adM, map_some→aeM, isSome_map→aib, isSome_iff_exists→al_, getD_none→ano, none→an_
open Option.some renaming inj→adX
open Or renaming inl→adH, inr→aex
open Prod renaming ext→amU, fst→anb, snd→anc
open Rat renaming intCast_mul→aes, intCast_inj→afa, intCast_le_intCast→afi, num_divInt_den→am5, divInt_eq_div→anf, intCast_add→anD, intCast_sub→anF
open Sum renaming inr→aee, inl→afq
open Sum.inl renaming inj→ag_
open Sum.inr renaming inj→aem
open PySem.W (Frag nsIn codeIn keepIn fnOf mg_of mg_none_of)
namespace L2
open PySem PySem.Spec PyProof.Rows
abbrev Key:=Sum Int Str
def oK:Key→Value→Bool
 | .inl k,v=>Value.isInt k v
 | .inr x,v=>Value.isStrOf x v
def VD (w:World):Key→Int
 | .inl k=>hashInt k
 | .inr x=>hashStr w x
theorem bX:∀{k:Key} {v:Value},oK k v=true→(∃i t,k=afq i∧v=Value.int i t)∨(∃x t,k=aee x∧v=Value.str x t)
 | .inl i,v,h=>by
  obtain ⟨t,e⟩:=Value.isInt_shape (k:=i) (v:=v) h
  exact .inl ⟨i,t,rfl,e⟩
 | .inr x,v,h=>by
  obtain ⟨t,e⟩:=Value.isStrOf_shape (x:=x) (v:=v) h
  exact .inr ⟨x,t,rfl,e⟩
theorem xK (i:Int)(t:Tok):oK (.inl i) (.int i t)=true:=by simp [oK,Value.isInt]
theorem xM (x:Str)(t:Tok):oK (.inr x) (.str x t)=true:=by simp [oK,Value.isStrOf]
theorem KC (a b:Int):decide ((afq a:Key)=afq b)=(a==b):=by
 by_cases e:a=b
 ·subst e;simp
 ·have h:¬ (afq a:Key)=afq b:=fun q=>e (ag_ q)
  rw [decide_eq_false h]
  exact (beq_eq_false_iff_ne.mpr e).symm
theorem KD (a b:Str):decide ((aee a:Key)=aee b)=decide (a=b):=by
 by_cases e:a=b
 ·subst e;simp
 ·have h:¬ (aee a:Key)=aee b:=fun q=>e (aem q)
  rw [decide_eq_false h,decide_eq_false e]
theorem KG (a:Int)(b:Str):decide ((afq a:Key)=aee b)=false:=decide_eq_false (fun q=>nomatch q)
theorem KH (a:Str)(b:Int):decide ((aee a:Key)=afq b)=false:=decide_eq_false (fun q=>nomatch q)
def bx (prog:Program)(w:World):PySem.KeyKind prog w Key where
 is:=oK
 hash:=VD w
 inj:=fun v a b ha hb=>by
  rcases bX ha with ⟨i,t,rfl,rfl⟩ | ⟨x,t,rfl,rfl⟩
  ·rcases bX hb with ⟨j,u,rfl,e⟩ | ⟨y,u,rfl,e⟩
   ·injection e with e1 _;rw [e1]
   ·exact nomatch e
  ·rcases bX hb with ⟨j,u,rfl,e⟩ | ⟨y,u,rfl,e⟩
   ·exact nomatch e
   ·injection e with e1 _;rw [e1]
 byValue:=fun k v h=>by
  rcases bX h with ⟨i,t,rfl,rfl⟩ | ⟨x,t,rfl,rfl⟩ <;> rfl
 pyHash:=fun hv h=>by
  rcases bX hv with ⟨i,t,rfl,rfl⟩ | ⟨x,t,rfl,rfl⟩
  ·exact wpAny_pyHash_int h
  ·exact wpAny_pyHash_str h
 eqBool:=fun hu hv h=>by
  rcases bX hu with ⟨i,t,rfl,rfl⟩ | ⟨x,t,rfl,rfl⟩
  ·rcases bX hv with ⟨j,u,rfl,rfl⟩ | ⟨y,u,rfl,rfl⟩
   ·rw [KC] at h;exact wpAny_eqBool_int h
   ·rw [KG] at h;exact SeqAt.EqAt.int_str i t y u _ _ _ _ h
  ·rcases bX hv with ⟨j,u,rfl,rfl⟩ | ⟨y,u,rfl,rfl⟩
   ·rw [KH] at h;exact SeqAt.EqAt.str_int x t j u _ _ _ _ h
   ·rw [KD] at h;exact wpAny_eqBool_str h
 «strs»:=fun k x t v h=>by
  rcases bX h with ⟨i,u,rfl,e⟩ | ⟨y,u,rfl,e⟩
  ·exact nomatch e
  ·injection e with e1 _
   subst e1
   cases v <;> rfl
theorem rZ (prog:Program)(w:World)(i:Int)(t:Tok):(bx prog w).is (.inl i) (.int i t)=true:=xK i t
theorem r6 (prog:Program)(w:World)(x:Str)(t:Tok):(bx prog w).is (.inr x) (.str x t)=true:=xM x t
end L2
namespace L2
open PySem PySem.Spec PyProof.Rows
inductive V where
 | cA | bl (b:Bool) | int (i:Int) | str (x:Str) | byt (b:Array UInt8) | KI (b:UInt64) | ref (a:Addr) | ty (n:String)
 deriving DecidableEq
def RelV:V→Value→Prop
 | .cA,u=>u=Value.none
 | .bl b,u=>u=Value.bool b
 | .int i,u=>∃t,u=Value.int i t
 | .str x,u=>∃t,u=Value.str x t
 | .byt b,u=>∃t,u=Value.bytes b t
 | .KI b,u=>∃t,u=Value.float b t
 | .ref a,u=>u=Value.ref a
 | .ty n,u=>u=Value.type n
abbrev Vals:List V→List Value→Prop:=Paired RelV
theorem Vals.length {xs:List V}{us:List Value}(r:Vals xs us):xs.length=us.length:=Paired.length r
theorem Vals.get:∀{xs:List V} {us:List Value} {i:Nat} {x:V},Vals xs us→xs[i]? =some x→∃u,us[i]? =some u∧RelV x u
 | _,_,_,_,.nil,e=>by simp at e
 | _,_,0,_,.cons r _,e=>by simp at e;subst e;exact ⟨_,rfl,r⟩
 | _,_,i+1,x,.cons _ t,e=>by
  obtain ⟨u,h1,h2⟩:=Vals.get (i:=i) (x:=x) t (by simpa using e)
  exact ⟨u,by simpa using h1,h2⟩
theorem Vals.set {x:V}{u:Value}(r:RelV x u):∀{xs:List V} {us:List Value} (i:Nat),Vals xs us→Vals (xs.set i x) (us.set i u)
 | _,_,_,.nil=>.nil
 | _,_,0,.cons _ t=>.cons r t
 | _,_,i+1,.cons q t=>.cons q (Vals.set r i t)
theorem Vals.append:∀{xs ys:List V} {us ws:List Value},Vals xs us→Vals ys ws→Vals (xs++ys) (us++ws)
 | _,_,_,_,.nil,s=>s
 | _,_,_,_,.cons r t,s=>.cons r (Vals.append t s)
theorem Vals.take:∀{xs:List V} {us:List Value} (n:Nat),Vals xs us→Vals (xs.take n) (us.take n)
 | _,_,0,_=>.nil
 | _,_,_+1,.nil=>.nil
 | _,_,n+1,.cons r t=>.cons r (Vals.take n t)
theorem Vals.drop:∀{xs:List V} {us:List Value} (n:Nat),Vals xs us→Vals (xs.drop n) (us.drop n)
 | _,_,0,r=>r
 | _,_,_+1,.nil=>.nil
 | _,_,n+1,.cons _ t=>Vals.drop n t
def gA:Option V→Option Value→Prop
 | some v,some u=>RelV v u
 | none,none=>True
 | _,_=>False
def KV {κ:Type}:List (κ×V)→List (κ×Value)→Prop:=Paired fun (p:κ×V) (q:κ×Value)=>p.1=q.1∧RelV p.2 q.2
def kV:Key→V
 | .inl i=>.int i
 | .inr x=>.str x
inductive HO where
 | lst (xs:List V)
 | tup (xs:List V)
 | dK (kvs:List (Key×V)) | dT (kvs:List (List Key×V))
 | set (S:Int→Bool) (n:Nat)
 | ins (C dx:Addr) (fs:List (Str×V))
 | own (x:Addr)
 | xd (fs:List (Str×V))
 | met (f x:Addr)
 | VE (lo hi:Int)
 | du (o:Obj) (u:HO)
 | KJ (ps:Array Value)
 | ext (φ:Heap→Prop)
abbrev Hp:=Addr→Option HO
def upd (H:Hp)(a:Addr)(o:HO):Hp:=fun b=>if b=a then some o else H b
theorem ah {H:Hp}{a:Addr}{o:HO}:upd H a o a=some o:=by unfold upd;rw [if_pos rfl]
theorem ao {H:Hp}{a b:Addr}{o:HO}(h:b≠a):upd H a o b=H b:=by unfold upd;rw [if_neg h]
theorem NA {H:Hp}{a b:Addr}{o u:HO}(h:H a=some o)(h' :H b=some u)(d:o≠u):a≠b:=by
 intro e;subst e;rw [h] at h';exact d (adX h')
theorem aq {H:Hp}{a b:Addr}{o:HO}(h:H a=some o)(h' :H b=none):a≠b:=by
 intro e;subst e;rw [h] at h';cases h'
section
variable (P:Program)(w:World)
def cy (H:Hp)(h:Heap)(a:Addr):HO→Prop
 | .lst xs=>xs.length≤sizeLine∧∃(its:List Value) (n:Nat),Vals xs its∧h.get? a=some {cls:=.type "list",data:=.seq its.toArray n}
 | .tup xs=>xs.length≤sizeLine∧∃its:List Value,Vals xs its∧IsTup h a its.toArray
 | .dK kvs=>kvs.length≤sizeLine∧(a==sysModules)=false∧∃vs,KV kvs vs∧h.DictOf (bx P w) a vs
 | .dT kvs=>kvs.length≤sizeLine∧(a==sysModules)=false∧∃xs:List (List Key×Addr×Value),
   Paired (fun (p:List Key×V) (q:List Key×Addr×Value)=>p.1=q.1∧H q.2.1=some (.tup (p.1.map kV))∧RelV p.2 q.2.2) kvs xs∧
   ∃o es ep,h.get? a=some o∧o.ExactDict∧o.data=.dict es ep∧es.toList=xs.map (entryOfKey (tupleKind (bx P w)))∧(xs.map (·.1)).Nodup
 | .set S n=>h.SetOf (intKind P w) a S n
 | .ins C dx fs=>H dx=some (.own a)∧fs.length≤1000∧dx≠a∧h.get? a=some (PySem.W.instObj C dx)∧
   ∃mA,h.Ns1 dx mA∧(∀f,gA (fs.lookup f) (mA f))∧PySem.Within mA (fs.map (·.1))
 | .own _=>∃o,h.get? a=some o
 | .xd fs=>∃mA,h.Ns1 a mA∧∀f,gA (fs.lookup f) (mA f)
 | .VE lo hi=>∃t u v,h.get? a=some {cls:=.type "range",data:=.fields #[.int lo t,.int hi u,.int 1 v]}
 | .du o u=>h.get? a=some o∧cy H h a u
 | .KJ ps=>h.get? a=some {cls:=.none,data:=.fields ps}
 | .met f x=>h.get? a=some (PySem.W.methodObj (.ref f) (.ref x))
 | .ext φ=>φ h∧(∃o,h.get? a=some o)∧∀h1 h2:Heap,φ h1→(∀o,h1.get? a=some o→h2.get? a=some o)→φ h2
def ig (H:Hp)(h:Heap):Prop:=∀a o,H a=some o→cy P w H h a o
end
section
variable {P:Program}{w:World}{H H' :Hp}{h h' :Heap}{a:Addr}{o:HO}
theorem cy.lt (x:cy P w H h a o):a < h.objs.size:=by
 cases o with
 | lst xs=>obtain ⟨_,_,_,_,e⟩:=x;exact Heap.lt_size e
 | tup xs=>obtain ⟨_,_,_,p⟩:=x;exact p.lt
 | dK kvs=>obtain ⟨_,_,_,_,o,_,_,e,_⟩:=x;exact Heap.lt_size e
 | dT kvs=>obtain ⟨_,_,_,_,o,_,_,e,_⟩:=x;exact Heap.lt_size e
 | set S n=>obtain ⟨o,_,_,_,e,_⟩:=x;exact Heap.lt_size e
 | ins C dx fs=>obtain ⟨_,_,_,e,_⟩:=x;exact Heap.lt_size e
 | own y=>obtain ⟨_,e⟩:=x;exact Heap.lt_size e
 | xd fs=>obtain ⟨_,⟨_,_,_,e,_⟩,_⟩:=x;exact Heap.lt_size e
 | VE lo hi=>obtain ⟨_,_,_,e⟩:=x;exact Heap.lt_size e
 | du ob u=>obtain ⟨e,_⟩:=x;exact Heap.lt_size e
 | KJ ps=>exact Heap.lt_size (show h.get? a=some _ from x)
 | met f y=>exact Heap.lt_size (show h.get? a=some _ from x)
 | ext φ=>obtain ⟨_,⟨_,e⟩,_⟩:=x;exact Heap.lt_size e
theorem Paired.bZ {α β:Type}{F G:α→β→Prop}:∀{l₁:List α} {l₂:List β},Paired F l₁ l₂→(∀a b,F a b→G a b)→Paired G l₁ l₂
 | _,_,.nil,_=>.nil
 | _,_,.cons r t,f=>.cons (f _ _ r) (Paired.bZ t f)
theorem cy.qb (x:cy P w H h a o)(k:∀b u,(b=a∨H b=some (.own a))→h.get? b=some u→h'.get? b=some u)
  (ho:∀b,H b=some (.own a)→H' b=some (.own a)) (ht:∀b xs,H b=some (.tup xs)→H' b=some (.tup xs)):cy P w H' h' a o:=by
 induction o with
 | lst xs=>obtain ⟨z,its,n,r,e⟩:=x;exact ⟨z,its,n,r,k _ _ (.inl rfl) e⟩
 | tup xs=>obtain ⟨z,its,r,ob,e,c⟩:=x;exact ⟨z,its,r,ob,k _ _ (.inl rfl) e,c⟩
 | dK kvs=>obtain ⟨z,y,vs,r,ob,es,ep,e,c⟩:=x;exact ⟨z,y,vs,r,ob,es,ep,k _ _ (.inl rfl) e,c⟩
 | dT kvs=>
  obtain ⟨z,y,xs,r,ob,es,ep,e,c⟩:=x
  exact ⟨z,y,xs,Paired.bZ r fun p q z=>⟨z.1,ht _ _ z.2.1,z.2.2⟩,ob,es,ep,k _ _ (.inl rfl) e,c⟩
 | set S n=>obtain ⟨ob,es,ep,t,e,c⟩:=x;exact ⟨ob,es,ep,t,k _ _ (.inl rfl) e,c⟩
 | ins C dx fs=>
  obtain ⟨d,z,ne,e,mA,⟨od,es,ep,e2,c⟩,r⟩:=x
  exact ⟨ho _ d,z,ne,k _ _ (.inl rfl) e,mA,⟨od,es,ep,k _ _ (.inr d) e2,c⟩,r⟩
 | own y=>obtain ⟨ob,e⟩:=x;exact ⟨ob,k _ _ (.inl rfl) e⟩
 | xd fs=>obtain ⟨mA,⟨od,es,ep,e,c⟩,r⟩:=x;exact ⟨mA,⟨od,es,ep,k _ _ (.inl rfl) e,c⟩,r⟩
 | VE lo hi=>obtain ⟨t,u,v,e⟩:=x;exact ⟨t,u,v,k _ _ (.inl rfl) e⟩
 | du ob u ih=>obtain ⟨e,q⟩:=x;exact ⟨k _ _ (.inl rfl) e,ih q⟩
 | KJ ps=>
  have e:h.get? a=some {cls:=.none,data:=.fields ps}:=x
  show h'.get? a=some {cls:=.none,data:=.fields ps}
  exact k a _ (.inl rfl) e
 | met f y=>
  have e:h.get? a=some (PySem.W.methodObj (.ref f) (.ref y)):=x
  show h'.get? a=some (PySem.W.methodObj (.ref f) (.ref y))
  exact k a _ (.inl rfl) e
 | ext φ=>obtain ⟨p,⟨o,e⟩,st⟩:=x;exact ⟨st _ _ p fun o q=>k _ _ (.inl rfl) q,⟨o,k _ _ (.inl rfl) e⟩,st⟩
theorem ig.lt (x:ig P w H h)(e:H a=some o):a < h.objs.size:=(x a o e).lt
theorem ig.fresh (x:ig P w H h)(e:h.objs.size≤a):H a=none:=by
 cases q:H a with
 | none=>rfl
 | some u=>exact absurd (adU (x.lt q) e) (aew _)
theorem ig.kept (x:ig P w H h)(k:∀b u,h.get? b=some u→h'.get? b=some u):ig P w H h' :=fun a o e=>
 (x a o e).qb (fun b u _ q=>k b u q) (fun _ q=>q) fun _ _ q=>q
theorem ig.laid (x:ig P w H h)(k:∀b u,h.get? b=some u→h'.get? b=some u)(hp:h.objs.size≤a)(new:cy P w (upd H a o) h' a o):ig P w (upd H a o) h' :=fun b u e=>by
 have hn:=x.fresh hp
 by_cases hb:b=a
 ·subst hb;rw [ah] at e;cases e;exact new
 ·rw [ao hb] at e
  exact (x b u e).qb (fun c v _ q=>k c v q) (fun c q=>by rw [ao (aq q hn)];exact q) fun c xs q=>by rw [ao (aq q hn)];exact q
end
def Rd (H:Hp)(a:Addr)(u:HO):Prop:=H a=some u∨∃o,H a=some (.du o u)
theorem Rd.of {H:Hp}{a:Addr}{u:HO}(h:H a=some u):Rd H a u:=.inl h
theorem Rd.ok {P:Program}{w:World}{H:Hp}{h:Heap}{a:Addr}{u:HO}(r:Rd H a u)(x:ig P w H h):cy P w H h a u:=by
 rcases r with r | ⟨o,r⟩
 ·exact x a u r
 ·obtain ⟨_,q⟩:=x a _ r
  exact q
def NC:Option HO→Prop
 | some (.lst _)=>True
 | some (.dK _)=>True
 | some (.dT _)=>True
 | some (.set _ _)=>True
 | some (.ins _ _ _)=>True
 | some (.ext _)=>True
 | _=>False
section
variable {P:Program}{w:World}{H:Hp}{h h' :Heap}{x e:Addr}{o' :HO}
theorem ig.write (ok:ig P w H h)(mu:NC (H x))(he:e=x∨H e=some (.own x))(k:∀b u,b≠e→h.get? b=some u→h'.get? b=some u)(MX:∃u,h'.get? e=some u)
  (new:cy P w (upd H x o') h' x o'):ig P w (upd H x o') h' :=fun b u q=>by
 have NF:∀c y,H c=some (.own y)→c≠x:=fun c y r z=>by subst z;rw [r] at mu;exact mu
 have VF:∀c xs,H c=some (.tup xs)→c≠x:=fun c xs r z=>by subst z;rw [r] at mu;exact mu
 by_cases hb:b=x
 ·subst hb;rw [ah] at q;cases q;exact new
 ·rw [ao hb] at q
  by_cases KN:b=e
  ·have q' :H b=some (.own x):=by
    rcases he with z | z
    ·exact absurd (KN.trans z) hb
    ·rw [KN];exact z
   rw [q] at q';cases q'
   obtain ⟨v,hv⟩:=MX
   exact ⟨v,by rw [KN];exact hv⟩
  ·refine (ok b u q).qb (fun c v hc r=>k c v ?_ r) (fun c r=>by rw [ao (NF c b r)];exact r) fun c xs r=>by rw [ao (VF c xs r)];exact r
   rcases hc with rfl | hc
   ·exact KN
   ·rintro rfl
    rcases he with z | z
    ·exact NF c b hc z
    ·rw [hc] at z;cases z;exact hb rfl
end
structure Un (fs ex:List Addr)(H H' :Hp)(h h' :Heap):Prop where
 keep:∀b o,h.get? b=some o→H b=none→b∉fs→b∉ex→h'.get? b=some o
 slot:∀b o,h.get? b=some o→H b=none→b∈fs→b∉ex→∃sl,h'.get? b=some {o with slots:=sl}
 free:∀b o,h.get? b=some o→H b=none→b∉ex→H' b=none
 there:∀b o,h.get? b=some o→b∉ex→∃o',h'.get? b=some o'
 qc:∀b xs,H b=some (.tup xs)→H' b=some (.tup xs)
 oq:∀b o u,H b=some (.du o u)→H' b=some (.du o u)
 qd:∀b ps,H b=some (.KJ ps)→∃more,H' b=some (.KJ (ps++more))
section
variable {fs fs' ex F_ :List Addr}{H H1 H2:Hp}{h h1 h2 h' :Heap}{a x e:Addr}{o:HO}
theorem Un.any (u:Un fs ex H H1 h h1){b:Addr}{ob:Obj}(q:h.get? b=some ob)(n:H b=none)(hx:b∉ex):∃sl,h1.get? b=some {ob with slots:=sl}:=by
 by_cases hb:b∈fs
 ·exact u.slot b ob q n hb hx
 ·exact ⟨ob.slots,u.keep b ob q n hb hx⟩
theorem Un.kept (k:∀b u,h.get? b=some u→h'.get? b=some u):Un fs ex H H h h' :=
 ⟨fun b ob q _ _ _=>k b ob q,fun b ob q _ _ _=>⟨ob.slots,k b ob q⟩,fun _ _ _ n _=>n,fun b ob q _=>⟨ob,k b ob q⟩,fun _ _ q=>q,fun _ _ _ q=>q,fun _ ps q=>⟨#[],by rw [q];simp⟩⟩
theorem Un.refl:Un fs ex H H h h:=Un.kept fun _ _ q=>q
theorem Un.laid (k:∀b u,h.get? b=some u→h'.get? b=some u)(hp:h.objs.size≤a)(hn:H a=none):Un fs ex H (upd H a o) h h' where
 keep:=fun b u q _ _ _=>k b u q
 slot:=fun b u q _ _ _=>⟨u.slots,k b u q⟩
 free:=fun b u q n _=>by rw [ao (ad5 (adU (Heap.lt_size q) hp))];exact n
 there:=fun b u q _=>⟨u,k b u q⟩
 qc:=fun b xs q=>by rw [ao (aq q hn)];exact q
 oq:=fun b u xs q=>by rw [ao (aq q hn)];exact q
 qd:=fun b ps q=>⟨#[],by rw [ao (aq q hn),q];simp⟩
theorem Un.write (mu:NC (H x))(he:e=x∨H e=some (.own x))(k:∀b u,b≠e→h.get? b=some u→h'.get? b=some u)(MX:∃u,h'.get? e=some u):Un fs ex H (upd H x o) h h' :=by
 have hx:∀b,H b=none→b≠x:=fun b n z=>by subst z;rw [n] at mu;exact mu
 have hb:∀b,H b=none→b≠e:=fun b n z=>by
  subst z
  rcases he with r | r
  ·exact hx b n r
  ·rw [n] at r;cases r
 have hm:∀b u,H b=some u→¬ NC (some u)→b≠x:=fun b u q nm z=>by subst z;rw [q] at mu;exact nm mu
 refine ⟨fun b u q n _ _=>k b u (hb b n) q,fun b u q n _ _=>⟨u.slots,k b u (hb b n) q⟩,fun b u q n _=>by rw [ao (hx b n)];exact n,fun b u q _=> ?_,
  fun b xs q=>by rw [ao (hm b _ q fun z=>z)];exact q,fun b u xs q=>by rw [ao (hm b _ q fun z=>z)];exact q,fun b ps q=>⟨#[],by rw [ao (hm b _ q fun z=>z),q];simp⟩⟩
 by_cases KN:b=e
 ·subst KN;exact MX
 ·exact ⟨u,k b u KN q⟩
end
def UO (h:Heap)(H:Hp):List Addr:=(aen h.objs.size).filter fun a=>(H a).isSome
def qe (h:Heap)(H:Hp):Heap:=PySem.W.hideAll h (UO h H)
theorem xN (h:Heap)(H:Hp):(qe h H).objs.size=h.objs.size:=PySem.W.hideAll_size _ _
theorem AH {h:Heap}{H:Hp}{b:Addr}{o:Obj}(e:h.get? b=some o)(n:H b=none):(qe h H).get? b=some o:=
 PySem.W.hideAll_get _ e fun hm=>by
  have q:(H b).isSome=true:=(aez.mp hm).2
  rw [n] at q;simp at q
theorem F' {h:Heap}{H:Hp}{b:Addr}{o:Obj}(e:(qe h H).get? b=some o):h.get? b=some o∧H b=none:=by
 have e' :h.get? b=some o:=PySem.W.of_hideAll (UO h H) e
 refine ⟨e',?_⟩
 cases q:H b with
 | none=>rfl
 | some x=>
  have hm:b∈UO h H:=aez.mpr ⟨aed.mpr (Heap.lt_size e'),by simp [q]⟩
  have z:(qe h H).get? b=none:=PySem.W.hideAll_none (UO h H) hm
  rw [z] at e;cases e
def GB (g h:Heap)(L:Addr):List (Addr×Obj):=(aen h.objs.size).filterMap fun a=>if a=L∨(g.get? a).isSome=true then none else (h.get? a).map fun o=>(a,o)
def rest (g h:Heap)(L d:Addr):List (Addr×Obj):=(GB g h L).filter fun p=>decide (p.1≠d)
end L2
namespace L2
open PySem PySem.Spec PyProof.Rows
structure Mod (K:Frag)(mg:Str→Option Value)(base:Heap):Prop where
 MY:K.In base
 glob:base.Ns mainGlobals mg
 blt:∃mb,base.Ns builtinsNs mb∧∀x:Str,x≠ "__name__"→mb x=bootBuiltins x
 nolimit:base.NoLimit
 seer:base.NoSeer
structure Cx where
 prog:Program
 w:World
 K:Frag
 mg:Str→Option Value
 base:Heap
 A:Around
 N:List Str
 s₀:Shared
 H₀:Hp
 env:Env
 outer:List Env
 stack:List Env
 ex:List Addr
 fn:Str→Bool
 calm:Bool
 pn:List (Addr×Obj)
 xe:Value→Shared→Prop
def wu (l:List Env):List Addr:=l.filterMap (·.frame)
abbrev Cx.fs (X:Cx):List Addr:=wu X.outer
def VG (sc:Scope)(x:Str):Prop:=sc.names.lookup x=some .local∨sc.names.lookup x=some .cell∨sc.names.lookup x=some .free
def Loc (sc:Scope)(x:Str):Prop:=sc.names.lookup x=some .local∨sc.names.lookup x=some .cell
def Look (env:Env)(h:Heap)(m:Str→Option Value)(x:Str)(u:Value):Prop:=
 (env.kindOf x=some .local∧m x=some u)∨((env.kindOf x=some .cell∨env.kindOf x=some .free)∧∃c,env.cells.lookup x=some c∧h.IsCell c (some u))
structure Cx.Ok (X:Cx):Prop where
 mod:Mod X.K X.mg X.base
 kind:X.env.scope.kind=.function
 glob:X.env.globals=mainGlobals
 blt:X.env.builtins=builtinsNs
 above:X.s₀.heap.objs.size≤X.env.locals
 inj:∀x y c,X.env.cells.lookup x=some c→X.env.cells.lookup y=some c→x=y
 has:∀x,(X.env.kindOf x=some .cell∨X.env.kindOf x=some .free)→∃c,X.env.cells.lookup x=some c
 NG:∀x c,X.fn x=true→X.env.cells.lookup x=some c→X.s₀.heap.objs.size≤c
 hd:X.calm=true→X.A.handled=none
 frames:X.A.frames=some X.stack
 UP:X.stack=X.outer∨(X.stack=X.env::X.outer∧X.env.frame=some X.env.locals)
 exf:∀b∈X.ex,b≠X.env.locals∧∀x c,X.env.cells.lookup x=some c→c≠b
 bs:∀b o,X.base.get? b=some o→X.s₀.heap.get? b=some o∧X.H₀ b=none
 GG:X.base.objs.size≤X.s₀.heap.objs.size
 AI:∀b o,X.base.get? b=some o→b∉X.ex
 GH:∀b∈X.ex,b∉X.fs
 kR:X.s₀.heap.FunFrames X.base X.outer
 KO:∀b∈X.fs,X.H₀ b=none
structure Inv (X:Cx)(pins:List (Addr×Obj))(σ:List (Option V))(H:Hp)(s:Shared):Prop where
 ok:X.Ok
 os:s.os=X.s₀.os
 bare:AllBare s.gens
 base:Un X.fs X.ex X.H₀ H X.s₀.heap s.heap
 loc:∃m,s.heap.Ns X.env.locals m∧∀(i:Nat) (x:Str) (v:V),X.N[i]? =some x→σ[i]? =some (some v)→VG X.env.scope x→∃u,RelV v u∧Look X.env s.heap m x u
 cell:∀x c,X.env.cells.lookup x=some c→∃v,s.heap.IsCell c v
 free:H X.env.locals=none
 gB:∀x c,X.env.cells.lookup x=some c→H c=none
 pin:∀p∈X.pn++pins,s.heap.get? p.1=some p.2∧H p.1=none∧p.1≠X.env.locals∧p.1∉X.fs∧∀v,p.2.data≠.cell v
 bJ:ig X.prog X.w H s.heap
 len:σ.length=X.N.length
section
variable {X:Cx}{pins:List (Addr×Obj)}{σ:List (Option V)}{H H' :Hp}{s:Shared}{h' :Heap}
theorem Cx.Ok.VH (ok:X.Ok){b:Addr}{o:Obj}(e:X.base.get? b=some o):b∉X.fs:=fun hb=>by
 have:=(ok.kR.mem hb).1
 rw [e] at this;cases this
theorem Inv.bs (I:Inv X pins σ H s):∀b o,X.base.get? b=some o→s.heap.get? b=some o∧H b=none:=fun b o e=>
 ⟨I.base.keep b o (I.ok.bs b o e).1 (I.ok.bs b o e).2 (I.ok.VH e) (I.ok.AI b o e),I.base.free b o (I.ok.bs b o e).1 (I.ok.bs b o e).2 (I.ok.AI b o e)⟩
theorem Inv.bk (I:Inv X pins σ H s):∀b o,X.base.get? b=some o→s.heap.get? b=some o:=fun b o e=>(I.bs b o e).1
theorem Inv.mod (I:Inv X pins σ H s):Mod X.K X.mg X.base:=I.ok.mod
theorem Inv.iV (I:Inv X pins σ H s):X.K.In s.heap:=I.ok.mod.MY.keeps I.bk
theorem Inv.nolimit (I:Inv X pins σ H s):s.heap.NoLimit:=I.ok.mod.nolimit.keeps I.bk
theorem Inv.lt (I:Inv X pins σ H s):X.env.locals < s.heap.objs.size:=let ⟨_,hn,_⟩:=I.loc;hn.lt
theorem Inv.sz (I:Inv X pins σ H s):X.s₀.heap.objs.size≤s.heap.objs.size:=adF I.ok.above (aeD I.lt)
theorem Inv.VI (I:Inv X pins σ H s){a:Addr}(h:s.heap.objs.size≤a):a∉X.fs:=fun hb=>by
 obtain ⟨_,o,ho,_⟩:=I.ok.kR.mem hb
 exact absurd (adU (Heap.lt_size ho) (adF I.sz h)) (aew _)
theorem Inv.KP (I:Inv X pins σ H s):∀x c,X.env.cells.lookup x=some c→c≠X.env.locals:=fun x c e z=>by
 obtain ⟨v,o,ho,hd⟩:=I.cell x c e
 obtain ⟨m,⟨o',es,ep,KQ,JD,_⟩,_⟩:=I.loc
 rw [z,KQ] at ho;cases ho;rw [JD] at hd;cases hd
theorem Inv.kR (I:Inv X pins σ H s):s.heap.FunFrames X.base X.outer:=by
 have all:∀(l:List Env),(∀b∈wu l,b∈X.fs)→X.s₀.heap.FunFrames X.base l→s.heap.FunFrames X.base l:=by
  intro l
  induction l with
  | nil=>intro _ _;trivial
  | cons env r ih=>
   intro hs hl
   obtain ⟨hk,⟨L,o,hf,hn,ho,hd⟩,hr⟩:=hl
   have hL:L∈X.fs:=hs L (by unfold wu;rw [ae9,hf];exact adG)
   obtain ⟨sl,e⟩:=I.base.slot L o ho (I.ok.KO L hL) hL fun z=>I.ok.GH L z hL
   exact ⟨hk,⟨L,_,hf,hn,e,hd⟩,ih (fun b hb=>hs b (by unfold wu;rw [ae9,hf];exact adE _ hb)) hr⟩
 exact all X.outer (fun _ hb=>hb) I.ok.kR
theorem Inv.stack (I:Inv X pins σ H s):s.heap.FunFrames X.base X.stack:=by
 rcases I.ok.UP with e | ⟨e,hf⟩
 ·rw [e];exact I.kR
 ·rw [e]
  obtain ⟨m,hn,_⟩:=I.loc
  refine .cons (by rw [I.ok.kind];decide) hf hn ?_ I.kR
  exact Heap.get?_none_of_le (adF I.ok.GG I.ok.above)
theorem Inv.uU (I:Inv X pins σ H s):∀b∈wu X.stack,b∈X.env.locals::X.fs:=fun b hb=>by
 rcases I.ok.UP with e | ⟨e,hf⟩
 ·rw [e] at hb;exact adE _ hb
 ·rw [e] at hb
  unfold wu at hb
  rw [ae9,hf] at hb
  exact hb
theorem Inv.wz (I:Inv X pins σ H s):∀b∈wu X.stack,H b=none:=fun b hb=>by
 rcases adY.mp (I.uU b hb) with e | hb
 ·rw [e];exact I.free
 ·obtain ⟨_,o,ho,_⟩:=I.ok.kR.mem hb
  exact I.base.free b o ho (I.ok.KO b hb) fun z=>I.ok.GH b z hb
theorem Inv.step {g' :Array GenState}{t' :Nat}{d' :Drawn}{ch:List Addr}(I:Inv X pins σ H s)
  (FD:∀b∈ch,(b∈X.ex∨X.s₀.heap.objs.size≤b)∧b≠X.env.locals∧(∀x c,X.env.cells.lookup x=some c→c≠b)∧∀p∈X.pn++pins,p.1≠b)
  (keep:∀b o,b≠X.env.locals→b∉X.fs→b∉ch→s.heap.get? b=some o→H b=none→h'.get? b=some o)
  (slot:∀b o,b≠X.env.locals→b∈X.fs→b∉ch→s.heap.get? b=some o→H b=none→∃sl,h'.get? b=some {o with slots:=sl}) (free:∀b o,b∉ch→s.heap.get? b=some o→H b=none→H' b=none)
  (there:∀b o,b∉ch→s.heap.get? b=some o→∃o',h'.get? b=some o')
  (qc:∀b xs,H b=some (.tup xs)→H' b=some (.tup xs)) (oq:∀b o u,H b=some (.du o u)→H' b=some (.du o u)) (qd:∀b ps,H b=some (.KJ ps)→∃more,H' b=some (.KJ (ps++more)))
  (ns:∀m,s.heap.Ns X.env.locals m→h'.Ns X.env.locals m) (bJ:ig X.prog X.w H' h') (hg:AllBare g'):
  Inv X pins σ H' {s with heap:=h',gens:=g',drawn:=d',toks:=t' }:=by
 have neL:∀b o,X.s₀.heap.get? b=some o→b≠X.env.locals:=fun b o e=>ad5 (adU (Heap.lt_size e) I.ok.above)
 have UQ:∀b o,X.s₀.heap.get? b=some o→b∉X.ex→b∉ch:=fun b o e hx hb=>by
  rcases (FD b hb).1 with z | z
  ·exact hx z
  ·exact absurd (adU (Heap.lt_size e) z) (aew _)
 have cellK:∀x c,X.env.cells.lookup x=some c→∀v,s.heap.IsCell c v→h'.IsCell c v:=fun x c e v ⟨o,ho,hd⟩=>by
  have NH:c∉ch:=fun z=>(FD c z).2.2.1 x c e rfl
  by_cases hc:c∈X.fs
  ·obtain ⟨sl,q⟩:=slot c o (I.KP x c e) hc NH ho (I.gB x c e)
   exact ⟨_,q,hd⟩
  ·exact ⟨o,keep c o (I.KP x c e) hc NH ho (I.gB x c e),hd⟩
 refine ⟨I.ok,I.os,hg,⟨fun b o e n hb hx=> ?_,fun b o e n hb hx=> ?_,fun b o e n hx=> ?_,fun b o e hx=> ?_,fun b xs e=>qc b xs (I.base.qc b xs e),fun b o xs e=>oq b o xs (I.base.oq b o xs e),fun b ps e=> ?_⟩,?_,fun x c e=> ?_,?_,fun x c e=> ?_,fun p hp=> ?_,bJ,I.len⟩
 ·exact keep b o (neL b o e) hb (UQ b o e hx) (I.base.keep b o e n hb hx) (I.base.free b o e n hx)
 ·obtain ⟨sl,e1⟩:=I.base.slot b o e n hb hx
  obtain ⟨sl',e2⟩:=slot b _ (neL b o e) hb (UQ b o e hx) e1 (I.base.free b o e n hx)
  exact ⟨sl',e2⟩
 ·obtain ⟨o',e1⟩:=I.base.there b o e hx
  exact free b o' (UQ b o e hx) e1 (I.base.free b o e n hx)
 ·obtain ⟨o',e1⟩:=I.base.there b o e hx
  exact there b o' (UQ b o e hx) e1
 ·obtain ⟨m1,e1⟩:=I.base.qd b ps e
  obtain ⟨m2,e2⟩:=qd b _ e1
  exact ⟨m1++m2,by rw [e2,Array.append_assoc]⟩
 ·obtain ⟨m,hn,hl⟩:=I.loc
  refine ⟨m,ns m hn,fun i x v e1 e2 e3=> ?_⟩
  obtain ⟨u,r,l⟩:=hl i x v e1 e2 e3
  refine ⟨u,r,?_⟩
  rcases l with l | ⟨k,c,e,z⟩
  ·exact .inl l
  ·exact .inr ⟨k,c,e,cellK x c e _ z⟩
 ·obtain ⟨v,z⟩:=I.cell x c e
  exact ⟨v,cellK x c e v z⟩
 ·obtain ⟨m,⟨o,_,_,ho,_⟩,_⟩:=I.loc
  exact free _ o (fun z=>(FD _ z).2.1 rfl) ho I.free
 ·obtain ⟨v,o,ho,hd⟩:=I.cell x c e
  exact free c o (fun z=>(FD c z).2.2.1 x c e rfl) ho (I.gB x c e)
 ·obtain ⟨e,n,ne,nf,d⟩:=I.pin p hp
  have NH:p.1∉ch:=fun z=>(FD p.1 z).2.2.2 p hp rfl
  exact ⟨keep p.1 p.2 ne nf NH e n,free p.1 p.2 NH e n,ne,nf,d⟩
theorem Inv.un {t' :Nat}(I:Inv X pins σ H s)(u:Un X.fs [] H H' s.heap h')(bJ:ig X.prog X.w H' h'):Inv X pins σ H' {s with heap:=h',toks:=t' }:=by
 obtain ⟨m,⟨o,es,ep,ho,r⟩,_⟩:=id I.loc
 obtain ⟨sl,hL⟩:=u.any ho I.free (by simp)
 exact I.step (g' :=s.gens) (d' :=s.drawn) (ch:=[]) (fun _ z=>nomatch z) (fun b o _ hb _ e n=>u.keep b o e n hb (by simp)) (fun b o _ hb _ e n=>u.slot b o e n hb (by simp)) (fun b o _ e n=>u.free b o e n (by simp)) (fun b o _ e=>u.there b o e (by simp)) u.qc u.oq u.qd (fun m' hm=>by
  obtain ⟨o',VJ,rT,KQ,r'⟩:=hm
  rw [ho] at KQ;cases KQ
  exact ⟨_,VJ,rT,hL,r'⟩) bJ I.bare
theorem Inv.call {g' :Array GenState}{t' :Nat}{d' :Drawn}{ch:List Addr}(I:Inv X pins σ H s)(u:Un (wu X.stack) ch H H' s.heap h')(bJ:ig X.prog X.w H' h')(hg:AllBare g')
  (FD:∀b∈ch,(b∈X.ex∨X.s₀.heap.objs.size≤b)∧b≠X.env.locals∧(∀x c,X.env.cells.lookup x=some c→c≠b)∧∀p∈X.pn++pins,p.1≠b):
  Inv X pins σ H' {s with heap:=h',gens:=g',drawn:=d',toks:=t' }:=by
 obtain ⟨m,⟨o,es,ep,ho,r⟩,_⟩:=id I.loc
 obtain ⟨sl,hL⟩:=u.any ho I.free fun z=>(FD _ z).2.1 rfl
 exact I.step (ch:=ch) FD (fun b o hL hb hc e n=>u.keep b o e n (fun z=>(adY.mp (I.uU b z)).elim hL hb) hc) (fun b o _ _ hc e n=>u.any e n hc) (fun b o hc e n=>u.free b o e n hc) (fun b o hc e=>u.there b o e hc) u.qc u.oq u.qd (fun m' hm=>by
  obtain ⟨o',VJ,rT,KQ,r'⟩:=hm
  rw [ho] at KQ;cases KQ
  exact ⟨_,VJ,rT,hL,r'⟩) bJ hg
theorem Inv.turned {t' :Nat}{it:Addr}(I:Inv X pins σ H s)(k:∀b o,b≠it→s.heap.get? b=some o→h'.get? b=some o)(hn:H it=none)(hL:it≠X.env.locals)
  (h1:it∈X.ex∨X.s₀.heap.objs.size≤it) (h2:∀x c,X.env.cells.lookup x=some c→c≠it) (h3:∀p∈X.pn++pins,p.1≠it):Inv X pins σ H {s with heap:=h',toks:=t' }:=by
 have JE:∀b u,H b=some u→b≠it:=fun b u e z=>by rw [z,hn] at e;cases e
 refine I.step (g' :=s.gens) (d' :=s.drawn) (ch:=[it]) (fun b hb=> ?_) (fun b o _ _ hc e _=>k b o (fun z=>hc (by simp [z])) e) (fun b o _ _ hc e _=>⟨o.slots,k b o (fun z=>hc (by simp [z])) e⟩) (fun _ _ _ _ n=>n)
  (fun b o hc e=>⟨o,k b o (fun z=>hc (by simp [z])) e⟩) (fun _ _ e=>e) (fun _ _ _ e=>e) (fun b ps e=>⟨#[],by rw [e];simp⟩) (fun m hm=> ?_) (fun b u e=> ?_) I.bare
 ·have e:b=it:=by simpa using hb
  subst e
  exact ⟨h1,hL,h2,h3⟩
 ·obtain ⟨o,es,ep,ho,r⟩:=hm
  exact ⟨o,es,ep,k _ o (ad7 hL) ho,r⟩
 ·refine (I.bJ b u e).qb (fun c v hc q=>k c v ?_ q) (fun _ q=>q) fun _ _ q=>q
  rcases hc with z | z
  ·rw [z];exact JE b u e
  ·exact JE c _ z
theorem Inv.tok (I:Inv X pins σ H s)(t:Nat):Inv X pins σ H {s with toks:=t}:=I.un (h' :=s.heap) (t' :=t) Un.refl I.bJ
theorem Inv.kept {t' :Nat}(I:Inv X pins σ H s)(k:∀b u,s.heap.get? b=some u→h'.get? b=some u):Inv X pins σ H {s with heap:=h',toks:=t' }:=I.un (Un.kept k) (I.bJ.kept k)
theorem Inv.laid {a:Addr}{o:HO}{t' :Nat}(I:Inv X pins σ H s)(k:∀b u,s.heap.get? b=some u→h'.get? b=some u)(hp:s.heap.objs.size≤a)(new:cy X.prog X.w (upd H a o) h' a o):
  Inv X pins σ (upd H a o) {s with heap:=h',toks:=t' }:=I.un (Un.laid k hp (I.bJ.fresh hp)) (I.bJ.laid k hp new)
theorem Inv.write {x e:Addr}{o:HO}{t' :Nat}(I:Inv X pins σ H s)(mu:NC (H x))(he:e=x∨H e=some (.own x))(k:∀b u,b≠e→s.heap.get? b=some u→h'.get? b=some u)(MX:∃u,h'.get? e=some u)
  (new:cy X.prog X.w (upd H x o) h' x o):Inv X pins σ (upd H x o) {s with heap:=h',toks:=t' }:=I.un (Un.write mu he k MX) (I.bJ.write mu he k MX new)
theorem Inv.wA {JF :List (Addr×Obj)}(I:Inv X pins σ H s)(h:∀p∈JF,s.heap.get? p.1=some p.2∧H p.1=none∧p.1≠X.env.locals∧p.1∉X.fs∧∀v,p.2.data≠.cell v):Inv X JF σ H s:=
 ⟨I.ok,I.os,I.bare,I.base,I.loc,I.cell,I.free,I.gB,fun p hp=>(adQ.mp hp).elim (fun z=>I.pin p (ad_ _ z)) (h p),I.bJ,I.len⟩
theorem dH {N:List Str}(hN:N.Nodup){i j:Nat}{x:Str}(a:N[i]? =some x)(b:N[j]? =some x):i=j:=by
 obtain ⟨h1,e1⟩:=be.mp a
 obtain ⟨h2,e2⟩:=be.mp b
 exact (anm hN).mp (e1.trans e2.symm)
theorem oM {M:Model}{A:Around}{E:Value→Shared→Prop}{i:Nat}{x:Str}{v:V}{u:Value}{Q:Unit→Shared→Prop}(I:Inv X pins σ H s)(hN:X.N.Nodup)(hi:X.N[i]? =some x)(hx:Loc X.env.scope x)(r:RelV v u)
  (h:∀s',Inv X pins (σ.set i (some v)) H s' →(∃a,Heap.SameBut a s.heap s'.heap∧(a=X.env.locals∨X.env.cells.lookup x=some a))→Q () s') (hf:X.fn x=true∨X.env.scope.names.lookup x=some .local:=by first | exact .inl rfl | exact .inr rfl | assumption):wpAny M A (storeName X.env x u) Q E s:=by
 obtain ⟨m,hn,hl⟩:=id I.loc
 have VL:(X.env.scope.kind==.class || (X.env.scope.kind==.module && X.env.locals !=X.env.globals))=false:=by rw [I.ok.kind];rfl
 have hiσ:i < σ.length:=by rw [I.len];exact (be.mp hi).1
 have KP:=I.KP
 have tracked:∀{a:Addr} {h' :Heap},(∃o,s.heap.get? a=some o∧H a=none)→Heap.SameBut a s.heap h' →ig X.prog X.w H h' :=fun {a h'} ha hs b ob e=>by
  obtain ⟨_,_,JG⟩:=ha
  refine (I.bJ b ob e).qb (fun c w' hc q=>(hs.2 c ?_).trans q) (fun _ q=>q) fun _ _ q=>q
  rintro rfl
  rcases hc with rfl | hc
  ·rw [JG] at e;cases e
  ·rw [JG] at hc;cases hc
 rcases hx with hk | hk
 ·refine wpAny_storeName_local hk hn (fun h' VM hs=> ?_) VL
  obtain ⟨oL,_,_,hoL,_⟩:=id hn
  refine h _ ⟨I.ok,I.os,I.bare,⟨fun b o e n hb hx=> ?_,fun b o e n hb hx=> ?_,I.base.free,fun b o e hx=> ?_,I.base.qc,I.base.oq,I.base.qd⟩,⟨_,VM,fun j y v' e1 e2 e3=> ?_⟩,fun y c e=> ?_,I.free,I.gB,fun p hp=> ?_,tracked ⟨oL,hoL,I.free⟩ hs,by simpa using I.len⟩ ⟨_,hs,.inl rfl⟩
  ·exact (hs.2 b (ad5 (adU (Heap.lt_size e) I.ok.above))).trans (I.base.keep b o e n hb hx)
  ·obtain ⟨sl,e1⟩:=I.base.slot b o e n hb hx
   exact ⟨sl,(hs.2 b (ad5 (adU (Heap.lt_size e) I.ok.above))).trans e1⟩
  ·obtain ⟨o',e1⟩:=I.base.there b o e hx
   exact ⟨o',(hs.2 b (ad5 (adU (Heap.lt_size e) I.ok.above))).trans e1⟩
  ·by_cases hj:j=i
   ·subst hj
    rw [hi] at e1;cases e1
    rw [amC hiσ] at e2
    cases e2
    exact ⟨u,r,.inl ⟨hk,by simp⟩⟩
   ·rw [amR (ad7 hj)] at e2
    obtain ⟨u',r',q⟩:=hl j y v' e1 e2 e3
    refine ⟨u',r',?_⟩
    rcases q with ⟨k,e⟩ | ⟨k,c,e,z⟩
    ·refine .inl ⟨k,?_⟩
     have:y≠x:=fun e=>hj (dH hN e1 (e▸hi))
     simp [this,e]
    ·exact .inr ⟨k,c,e,z.sameBut hs (KP y c e)⟩
  ·obtain ⟨w',z⟩:=I.cell y c e
   exact ⟨w',z.sameBut hs (KP y c e)⟩
  ·obtain ⟨e,n,ne,nf,d⟩:=I.pin p hp
   exact ⟨(hs.2 p.1 ne).trans e,n,ne,nf,d⟩
 ·have VN:X.fn x=true:=by
   rcases hf with z | z
   ·exact z
   ·rw [z] at hk;cases hk
  obtain ⟨c,hc⟩:=I.ok.has x (.inl hk)
  obtain ⟨w',z⟩:=I.cell x c hc
  refine wpAny_storeName_cell I.ok.kind hk hc z (fun h' rV hs=> ?_)
  obtain ⟨oc,hoc,VO⟩:=id z
  refine h {s with heap:=h' } ⟨I.ok,I.os,I.bare,⟨fun b o e n hb hx=> ?_,fun b o e n hb hx=> ?_,I.base.free,fun b o e hx=> ?_,I.base.qc,I.base.oq,I.base.qd⟩,⟨m,hn.sameBut hs (ad7 (KP x c hc)),fun j y v' e1 e2 e3=> ?_⟩,fun y c' e=> ?_,I.free,I.gB,fun p hp=> ?_,tracked ⟨oc,hoc,I.gB x c hc⟩ hs,by simpa using I.len⟩ ⟨c,hs,.inr hc⟩
  ·exact (hs.2 b (ad5 (adU (Heap.lt_size e) (I.ok.NG x c VN hc)))).trans (I.base.keep b o e n hb hx)
  ·obtain ⟨sl,e1⟩:=I.base.slot b o e n hb hx
   exact ⟨sl,(hs.2 b (ad5 (adU (Heap.lt_size e) (I.ok.NG x c VN hc)))).trans e1⟩
  ·obtain ⟨o',e1⟩:=I.base.there b o e hx
   exact ⟨o',(hs.2 b (ad5 (adU (Heap.lt_size e) (I.ok.NG x c VN hc)))).trans e1⟩
  ·by_cases hj:j=i
   ·subst hj
    rw [hi] at e1;cases e1
    rw [amC hiσ] at e2
    cases e2
    exact ⟨u,r,.inr ⟨.inl hk,c,hc,rV⟩⟩
   ·rw [amR (ad7 hj)] at e2
    obtain ⟨u',r',q⟩:=hl j y v' e1 e2 e3
    refine ⟨u',r',?_⟩
    rcases q with q | ⟨k,c',e,z'⟩
    ·exact .inl q
    ·refine .inr ⟨k,c',e,z'.sameBut hs ?_⟩
     rintro rfl
     exact hj (dH hN e1 (I.ok.inj _ _ _ e hc▸hi))
  ·by_cases UR:c' =c
   ·subst UR;exact ⟨_,rV⟩
   ·obtain ⟨w2,z2⟩:=I.cell y c' e
    exact ⟨w2,z2.sameBut hs UR⟩
  ·obtain ⟨e,n,ne,nf,d⟩:=I.pin p hp
   refine ⟨(hs.2 p.1 ?_).trans e,n,ne,nf,d⟩
   intro q
   rw [q,hoc] at e
   have q' :oc=p.2:=adX e
   exact d w' (by rw [← q'];exact VO)
theorem iZ {M:Model}{A:Around}{E:Value→Shared→Prop}{i:Nat}{x:Str}{v:V}{u:Value}{Q:Unit→Shared→Prop}(I:Inv X pins σ H s)(hN:X.N.Nodup)(hi:X.N[i]? =some x)(hx:Loc X.env.scope x)(r:RelV v u)
  (h:∀s',Inv X pins (σ.set i (some v)) H s' →Q () s') (hf:X.fn x=true∨X.env.scope.names.lookup x=some .local:=by first | exact .inl rfl | exact .inr rfl | assumption):wpAny M A (storeName X.env x u) Q E s:=
 oM I hN hi hx r (fun s' I' _=>h s' I') hf
theorem Inv.NI {s' :Shared}{ch:List Addr}(I:Inv X pins σ H s)(ho:s'.os=s.os)(u:Un (wu X.stack) ch H H' s.heap s'.heap)(bJ:ig X.prog X.w H' s'.heap)(hg:AllBare s'.gens)
  (FD:∀b∈ch,(b∈X.ex∨X.s₀.heap.objs.size≤b)∧b≠X.env.locals∧(∀x c,X.env.cells.lookup x=some c→c≠b)∧∀p∈X.pn++pins,p.1≠b):Inv X pins σ H' s' :=by
 obtain ⟨h',g',d',t',o'⟩:=s'
 have e:o' =s.os:=ho
 subst e
 exact I.call (g' :=g') (t' :=t') (d' :=d') u bJ hg FD
end
abbrev XK:=Value→Option Addr→Hp→Prop
abbrev St:=List (Option V)
abbrev VK:=V→Hp→Prop
abbrev TE:=St→Hp→VK→Prop
abbrev TT:=St→Hp→(Bool→Hp→Prop)→Prop
abbrev TA:=St→Hp→(List V→Hp→Prop)→Prop
structure Ends where
 nx:St→Hp→Prop
 rt:VK
 bk:St→Hp→Prop:=fun _ _=>False
 ct:St→Hp→Prop:=fun _ _=>False
abbrev TS:=Ends→St→Hp→Prop
def EP (X:Cx)(pins:List (Addr×Obj))(σ:St)(Q:VK)(u:Value)(s' :Shared):Prop:=∃v H',Inv X pins σ H' s' ∧RelV v u∧Q v H'
def TP (X:Cx)(pins:List (Addr×Obj))(σ:St)(Q:Bool→Hp→Prop)(b:Bool)(s' :Shared):Prop:=∃H',Inv X pins σ H' s' ∧Q b H'
def AP (X:Cx)(pins:List (Addr×Obj))(σ:St)(Q:List V→Hp→Prop)(us:List Value)(s' :Shared):Prop:=∃vs H',Inv X pins σ H' s' ∧Vals vs us∧Q vs H'
def SP (X:Cx)(pins:List (Addr×Obj))(D:Ends)(f:Flow)(s' :Shared):Prop:=
 match f with
 | .next=>∃σ' H',Inv X pins σ' H' s' ∧D.nx σ' H'
 | .brk=>∃σ' H',Inv X pins σ' H' s' ∧D.bk σ' H'
 | .cont=>∃σ' H',Inv X pins σ' H' s' ∧D.ct σ' H'
 | .ret u=>∃v σ' H',Inv X pins σ' H' s' ∧RelV v u∧D.rt v H'
def PE (X:Cx)(e:Expr)(t:TE):Prop:=
 ∀(pins:List (Addr×Obj)) (s:Shared) (σ:St) (H:Hp) (Q:VK),Inv X pins σ H s→t σ H Q→wpAny (model X.prog X.w) X.A (eval e X.env) (EP X pins σ Q) X.xe s
def PT (X:Cx)(e:Expr)(t:TT):Prop:=
 ∀(pins:List (Addr×Obj)) (s:Shared) (σ:St) (H:Hp) (Q:Bool→Hp→Prop),Inv X pins σ H s→t σ H Q→wpAny (model X.prog X.w) X.A (isTrue e X.env (eval e X.env)) (TP X pins σ Q) X.xe s
def PW (X:Cx)(e:Expr)(t:TT):Prop:=
 ∀(whole:Sem Value) (pins:List (Addr×Obj)) (s:Shared) (σ:St) (H:Hp) (Q:Bool→Hp→Prop),Inv X pins σ H s→t σ H Q→wpAny (model X.prog X.w) X.A (isTrue e X.env whole) (TP X pins σ Q) X.xe s
theorem PW.pt {X:Cx}{e:Expr}{t:TT}(h:PW X e t):PT X e t:=h _
def PA (X:Cx)(es:List Expr)(t:TA):Prop:=
 ∀(pos:Pos) (pins:List (Addr×Obj)) (s:Shared) (σ:St) (H:Hp) (Q:List V→Hp→Prop),Inv X pins σ H s→t σ H Q→wpAny (model X.prog X.w) X.A (spliced (backTo pos (starEach es X.env))) (AP X pins σ Q) X.xe s
def PS (X:Cx)(st:Stmt)(t:TS):Prop:=
 ∀(pins:List (Addr×Obj)) (s:Shared) (σ:St) (H:Hp) (D:Ends),Inv X pins σ H s→t D σ H→wpAny (model X.prog X.w) X.A (exec st X.env) (SP X pins D) X.xe s
def PSs (X:Cx)(st:List Stmt)(t:TS):Prop:=
 ∀(pins:List (Addr×Obj)) (s:Shared) (σ:St) (H:Hp) (D:Ends),Inv X pins σ H s→t D σ H→wpAny (model X.prog X.w) X.A (execs st X.env) (SP X pins D) X.xe s
theorem cu {α:Type}{t:Sem α}{Q Q' :α→Shared→Prop}{M:Model}{A:Around}{E:Value→Shared→Prop}{s:Shared}(h:wpAny M A t Q E s)(hQ:∀a s,Q a s→Q' a s):wpAny M A t Q' E s:=wpAny_mono h hQ fun _ _ x=>x
end L2
namespace L2
open PySem PySem.Spec PyProof.Rows
section
variable {X:Cx}
inductive KR (i:Nat)(σ:St)(H:Hp)(Q:VK):Prop where
 | mk (v:_) (_:σ[i]? =some (some v)) (_:Q v H):KR i σ H Q
def tC (v:V):TE:=fun _ H Q=>Q v H
theorem KS {i:Nat}{x:Str}{pos:Pos}(hN:X.N[i]? =some x)(hv:VG X.env.scope x)(hd:(x==("__debug__":Str))=false:=by decide)(ot:(x==("__classdict__":Str))=false:=by decide):PE X (.Name x pos) (KR i):=by
 intro pins s σ H Q I h
 obtain ⟨v,e,h⟩:=h
 obtain ⟨m,hn,hl⟩:=I.loc
 obtain ⟨u,r,l⟩:=hl i x v hN e hv
 have fin:EP X pins σ Q u s:=⟨v,H,I,r,h⟩
 rcases l with ⟨hk,hm⟩ | ⟨hk,c,hc,hcell⟩
 ·exact wpAny_Name (wpAny_loadName_local I.ok.kind hk hn hm fin) hd
 ·rcases hk with hk | hk
  ·exact wpAny_Name (wpAny_loadName_cell I.ok.kind hk hc hcell fin) hd
  ·exact wpAny_Name (wpAny_loadName_free I.ok.kind hk hc hcell fin ot) hd
theorem ag {i j pos}:PE X (.Constant (.int i) j pos) (tC (.int i)):=fun _ _ _ H _ I h=>wpAny_Constant_int ⟨.int i,H,I.tok _,⟨_,rfl⟩,h⟩
theorem oN {b j pos}:PE X (.Constant (.bool b) j pos) (tC (.bl b)):=fun _ _ _ H _ I h=>Constant_bool ⟨.bl b,H,I,rfl,h⟩
theorem mj {j pos}:PE X (.Constant .none j pos) (tC .cA):=fun _ _ _ H _ I h=>Constant_none ⟨.cA,H,I,rfl,h⟩
theorem d6 {x j pos}:PE X (.Constant (.str x) j pos) (tC (.str x)):=fun _ _ _ H _ I h=>Calls.Constant_str ⟨.str x,H,I.tok _,⟨_,rfl⟩,h⟩
def Gl (X:Cx)(x:Str):Prop:=X.env.kindOf x=some .globalImplicit
theorem i0 {E:Value→Shared→Prop}{pins:List (Addr×Obj)}{s:Shared}{σ:St}{H:Hp}{x:Str}{u:Value}{pos:Pos}{Q:Value→Shared→Prop}(I:Inv X pins σ H s)(hg:Gl X x)(hm:X.mg x=some u)(h:Q u s)
  (hd:(x==("__debug__":Str))=false:=by decide):wpAny (model X.prog X.w) X.A (eval (.Name x pos) X.env) Q E s:=
 Calls.Name_function_global I.ok.kind hg (Calls.loadGlobal_global (by rw [I.ok.glob];exact I.mod.glob.keeps I.bk) hm h) hd
theorem gC {E:Value→Shared→Prop}{pins:List (Addr×Obj)}{s:Shared}{σ:St}{H:Hp}{x:Str}{u:Value}{pos:Pos}{Q:Value→Shared→Prop}(I:Inv X pins σ H s)(hg:Gl X x)(hm:X.mg x=none)(hv:bootBuiltins x=some u)(h:Q u s)
  (hn:x≠ "__name__":=by decide) (hd:(x==("__debug__":Str))=false:=by decide):wpAny (model X.prog X.w) X.A (eval (.Name x pos) X.env) Q E s:=by
 obtain ⟨mb,h1,h2⟩:=I.mod.blt
 exact Calls.Name_function_global I.ok.kind hg (Calls.loadGlobal_builtin (by rw [I.ok.glob];exact I.mod.glob.keeps I.bk) hm (by rw [I.ok.blt];exact h1.keeps I.bk) ((h2 x hn).trans hv) h) hd
theorem ff {x:Str}{v:V}{u:Value}{pos:Pos}(hg:Gl X x)(hm:X.mg x=some u)(r:RelV v u)(hd:(x==("__debug__":Str))=false:=by decide):PE X (.Name x pos) (tC v):=
 fun _ _ _ H _ I h=>i0 I hg hm ⟨v,H,I,r,h⟩ hd
theorem GJ {x:Str}{v:V}{u:Value}{pos:Pos}(hg:Gl X x)(hm:X.mg x=none)(hv:bootBuiltins x=some u)(r:RelV v u)(hn:x≠ "__name__":=by decide)(hd:(x==("__debug__":Str))=false:=by decide):PE X (.Name x pos) (tC v):=
 fun _ _ _ H _ I h=>gC I hg hm hv ⟨v,H,I,r,h⟩ hn hd
variable {a b:Expr}{ta tb:TE}{pos:Pos}
def PC (X:Cx)(op:CmpOp)(a b:Expr)(t:TE):Prop:=
 ∀(pins:List (Addr×Obj)) (s:Shared) (σ:St) (H:Hp) (Q:VK),Inv X pins σ H s→t σ H Q→
  wpAny (model X.prog X.w) X.A (eval a X.env) (fun v s₁=>wpAny (model X.prog X.w) X.A (eval b X.env) (fun u s₂=>wpAny (model X.prog X.w) X.A (compareOp op v u) (EP X pins σ Q) X.xe s₂) X.xe s₁) X.xe s
inductive tB_ (Q:(Bool→Hp→Prop))(x:V)(H1:Hp):Prop where
 | mk (c:_) (_:x=.bl c) (_:Q c H1):tB_ Q x H1
def tB (t:TE):TT:=fun σ H Q=>t σ H fun x H1=>tB_ Q x H1
theorem jR {op:CmpOp}{t:TE}(h:PC X op a b t)(h1:behindInMarks op b=false:=by first | exact nobehind _ (by decide) (by decide) | rfl):PT X (.Compare a [op] [b] pos) (tB t):=by
 intro pins s σ H Q I hw
 refine wpAny_isTrue_Compare1 (cu (h pins s σ H _ I hw) fun v s1 h1=>cu h1 fun u s2 h2=>cu h2 fun c s3 ⟨x,H1,I1,r1,q1⟩=> ?_) h1
 obtain ⟨d,rfl,q⟩:=q1
 cases r1
 exact wpAny_truthy_bool ⟨H1,I1,q⟩
theorem mm {e:Expr}{t:TE}(h:PE X e t)(he:∀whole,isTrue e X.env whole=(do let v ← whole;standAt e.pos;holding [v] (truthy v)):=by intro _;rfl):PT X e (tB t):=by
 intro pins s σ H Q I hw
 refine isTrue_plain (cu (h pins s σ H _ I hw) fun v s1 ⟨x,H1,I1,r1,q1⟩=> ?_) (he _)
 obtain ⟨d,rfl,q⟩:=q1
 cases r1
 exact wpAny_truthy_bool ⟨H1,I1,q⟩
variable {tA US :TT}{rest:List Expr}
def VP (t u:TT):TT:=fun σ H Q=>t σ H fun c H1=>if c=true then u σ H1 Q else Q false H1
def tOr (t u:TT):TT:=fun σ H Q=>t σ H fun c H1=>if c=true then Q true H1 else u σ H1 Q
def VQ (t:TT):TT:=fun σ H Q=>t σ H fun c H1=>Q (!c) H1
theorem wB (ha:PT X a tA):PW X (.BoolOp .And [a] pos) tA:=by
 intro wh pins s σ H Q I h
 refine isTrue_and (cu (ha pins s σ H Q I h) fun c s1 e=> ?_)
 cases c with
 | true=>exact isTrue_and_nil e
 | false=>exact e
theorem KU (ha:PT X a tA):PW X (.BoolOp .Or [a] pos) tA:=by
 intro wh pins s σ H Q I h
 refine isTrue_or (cu (ha pins s σ H Q I h) fun c s1 e=> ?_)
 cases c with
 | false=>exact isTrue_or_nil e
 | true=>exact e
theorem AJ (ha:PT X a tA)(hb:PW X (.BoolOp .And (b::rest) pos) US):PW X (.BoolOp .And (a::b::rest) pos) (VP tA US):=by
 intro wh pins s σ H Q I h
 refine isTrue_and (cu (ha pins s σ H _ I h) fun c s1 ⟨H1,I1,q1⟩=> ?_)
 cases c with
 | true=>exact hb wh pins s1 σ H1 Q I1 q1
 | false=>exact ⟨H1,I1,q1⟩
theorem NJ (ha:PT X a tA)(hb:PW X (.BoolOp .Or (b::rest) pos) US):PW X (.BoolOp .Or (a::b::rest) pos) (tOr tA US):=by
 intro wh pins s σ H Q I h
 refine isTrue_or (cu (ha pins s σ H _ I h) fun c s1 ⟨H1,I1,q1⟩=> ?_)
 cases c with
 | true=>exact ⟨H1,I1,q1⟩
 | false=>exact hb wh pins s1 σ H1 Q I1 q1
theorem qf (ha:PT X a tA):PT X (.UnaryOp .Not a pos) (VQ tA):=by
 intro pins s σ H Q I h
 exact isTrue_not (ha pins s σ H (fun c H1=>Q (!c) H1) I h)
def tIf (t:TT)(ta tb:TE):TE:=fun σ H Q=>t σ H fun c H1=>if c=true then ta σ H1 Q else tb σ H1 Q
theorem r8 {c:Expr}(hc:PT X c tA)(ha:PE X a ta)(hb:PE X b tb):PE X (.IfExp c a b pos) (tIf tA ta tb):=by
 intro pins s σ H Q I h
 refine wpAny_IfExp (cu (hc pins s σ H _ I h) fun d s1 ⟨H1,I1,q1⟩=> ?_)
 cases d with
 | true=>exact ha pins s1 σ H1 Q I1 q1
 | false=>exact hb pins s1 σ H1 Q I1 q1
end
end L2
namespace L2
open PySem PySem.Spec PyProof.Rows
def aV (K:Frag)(H:Hp)(a:Addr)(xs:List V):Prop:=
 Rd H a (.lst xs)∨
  ∃(o:Obj) (its:Array Value) (n:Nat),K.lookup a=some o∧o.cls=.type "list"∧o.dict=none∧o.data=.seq its n∧its.size≤sizeLine∧Vals xs its.toList
def cf (K:Frag)(H:Hp)(a:Addr)(xs:List V):Prop:=
 Rd H a (.tup xs)∨
  ∃(o:Obj) (its:Array Value) (n:Nat),K.lookup a=some o∧o.cls=.type "tuple"∧o.data=.seq its n∧its.size≤sizeLine∧Vals xs its.toList
def VR:Value→Option V
 | .none=>some .cA
 | .bool b=>some (.bl b)
 | .int i _=>some (.int i)
 | .str x _=>some (.str x)
 | .bytes b _=>some (.byt b)
 | .float b _=>some (.KI b)
 | .ref a=>some (.ref a)
 | .type n=>some (.ty n)
 | _=>none
theorem RelV.abs {x:V}{u:Value}(r:RelV x u):VR u=some x:=by
 cases x with
 | cA=>cases r;rfl
 | bl _=>cases r;rfl
 | int _=>obtain ⟨t,rfl⟩:=r;rfl
 | str _=>obtain ⟨t,rfl⟩:=r;rfl
 | byt _=>obtain ⟨t,rfl⟩:=r;rfl
 | KI _=>obtain ⟨t,rfl⟩:=r;rfl
 | ref _=>cases r;rfl
 | ty _=>cases r;rfl
theorem RelV.inj {x y:V}{u:Value}(r:RelV x u)(q:RelV y u):x=y:=adX (r.abs.symm.trans q.abs)
theorem Vals.inj:∀{xs ys:List V} {us:List Value},Vals xs us→Vals ys us→xs=ys
 | _,_,_,.nil,.nil=>rfl
 | _,_,_,.cons r t,.cons r' t' =>by rw [r.inj r',Vals.inj t t']
section
variable {X:Cx}{pins:List (Addr×Obj)}{σ:St}{H:Hp}{s:Shared}{a:Addr}{xs ys:List V}
theorem aV.of {K:Frag}(h:H a=some (.lst xs)):aV K H a xs:=.inl (.inl h)
theorem cf.of {K:Frag}(h:H a=some (.tup xs)):cf K H a xs:=.inl (.inl h)
theorem Inv.list (I:Inv X pins σ H s)(h:aV X.K H a xs):∃its:List Value,Vals xs its∧PlainL s.heap a its.toArray∧xs.length≤sizeLine:=by
 rcases h with h | ⟨o,its,n,hk,hc,hd,hs,hz,r⟩
 ·obtain ⟨z,its,n,r,e⟩:=h.ok I.bJ
  exact ⟨its,r,⟨_,n,e,rfl,rfl,rfl⟩,z⟩
 ·refine ⟨its.toList,r,⟨o,n,I.iV a o hk,hc,hd,by simpa using hs⟩,?_⟩
  have e:=r.length
  simp only [am0] at e
  omega
theorem Inv.tuple (I:Inv X pins σ H s)(h:cf X.K H a xs):∃its:List Value,Vals xs its∧IsTup s.heap a its.toArray∧xs.length≤sizeLine:=by
 rcases h with h | ⟨o,its,n,hk,hc,hs,hz,r⟩
 ·obtain ⟨z,its,r,p⟩:=h.ok I.bJ
  exact ⟨its,r,p,z⟩
 ·refine ⟨its.toList,r,⟨o,I.iV a o hk,hc,n,by simpa using hs⟩,?_⟩
  have e:=r.length
  simp only [am0] at e
  omega
theorem Inv.gD (I:Inv X pins σ H s)(h:aV X.K H a xs)(h' :aV X.K H a ys):xs=ys:=by
 obtain ⟨its,r,⟨o,n,e,_,_,d⟩,_⟩:=I.list h
 obtain ⟨its',r',⟨o',n',e',_,_,d'⟩,_⟩:=I.list h'
 rw [e] at e';cases e'
 rw [d] at d'
 injection d' with d1 _
 have:its=its' :=by simpa using congrArg an0 d1
 subst this
 exact r.inj r'
theorem Inv.gY (I:Inv X pins σ H s)(h:cf X.K H a xs)(h' :cf X.K H a ys):xs=ys:=by
 obtain ⟨its,r,⟨o,e,_,n,d⟩,_⟩:=I.tuple h
 obtain ⟨its',r',⟨o',e',_,n',d'⟩,_⟩:=I.tuple h'
 rw [e] at e';cases e'
 rw [d] at d'
 injection d' with d1 _
 have:its=its' :=by simpa using congrArg an0 d1
 subst this
 exact r.inj r'
end
abbrev Cx.ou (X:Cx)(E:Value→Shared→Prop):Cx:={X with xe:=E}
abbrev Cx.wC (X:Cx):Cx:=X.ou fun _ _=>False
theorem Cx.Ok.ou {X:Cx}(ok:X.Ok)(E:Value→Shared→Prop):(X.ou E).Ok:=
 ⟨ok.mod,ok.kind,ok.glob,ok.blt,ok.above,ok.inj,ok.has,ok.NG,ok.hd,ok.frames,ok.UP,ok.exf,ok.bs,ok.GG,ok.AI,ok.GH,ok.kR,ok.KO⟩
theorem Cx.Ok.gF {X:Cx}{E:Value→Shared→Prop}(ok:(X.ou E).Ok):X.Ok:=
 ⟨ok.mod,ok.kind,ok.glob,ok.blt,ok.above,ok.inj,ok.has,ok.NG,ok.hd,ok.frames,ok.UP,ok.exf,ok.bs,ok.GG,ok.AI,ok.GH,ok.kR,ok.KO⟩
section
variable {X:Cx}{pins:List (Addr×Obj)}{σ:St}{H:Hp}{s:Shared}{E:Value→Shared→Prop}
theorem Inv.ou (I:Inv X pins σ H s)(E:Value→Shared→Prop):Inv (X.ou E) pins σ H s:=⟨I.ok.ou E,I.os,I.bare,I.base,I.loc,I.cell,I.free,I.gB,I.pin,I.bJ,I.len⟩
theorem Inv.gF (I:Inv (X.ou E) pins σ H s):Inv X pins σ H s:=⟨I.ok.gF,I.os,I.bare,I.base,I.loc,I.cell,I.free,I.gB,I.pin,I.bJ,I.len⟩
theorem SP.gF {D:Ends}{f:Flow}{s' :Shared}(h:SP (X.ou E) pins D f s'):SP X pins D f s' :=by
 cases f with
 | next=>obtain ⟨σ',H',I,q⟩:=h;exact ⟨σ',H',I.gF,q⟩
 | brk=>obtain ⟨σ',H',I,q⟩:=h;exact ⟨σ',H',I.gF,q⟩
 | cont=>obtain ⟨σ',H',I,q⟩:=h;exact ⟨σ',H',I.gF,q⟩
 | ret u=>obtain ⟨v,σ',H',I,r,q⟩:=h;exact ⟨v,σ',H',I.gF,r,q⟩
theorem PSs.wC {st:List Stmt}{t:TS}(h:PSs X.wC st t):PSs X st t:=fun pins s σ H D I hw=>
 wpAny_mono (h pins s σ H D (I.ou _) hw) (fun _ _ q=>q.gF) fun _ _ z=>False.elim z
end
section
variable {X:Cx}{st:Stmt}{rest:List Stmt}{t u:TS}{e:Expr}{te:TE}{pos:Pos}
def AK:TS:=fun D σ H=>D.nx σ H
def NL (t u:TS):TS:=fun D σ H=>t {D with nx:=u D} σ H
theorem aY:PSs X [] AK:=fun _ _ σ H _ I h=>wpAny_execs_nil ⟨σ,H,I,h⟩
theorem ae (h1:PS X st t)(h2:PSs X rest u):PSs X (st::rest) (NL t u):=by
 intro pins s σ H D I h
 refine wpAny_execs_cons (cu (h1 pins s σ H {D with nx:=u D} I h) fun f s1 q=> ?_)
 cases f with
 | next=>
  obtain ⟨σ',H',I',q⟩:=q
  exact h2 pins s1 σ' H' D I' q
 | ret v=>exact q
 | brk=>exact q
 | cont=>exact q
theorem aj (h1:PS X st t):PSs X [st] t:=by
 intro pins s σ H D I h
 refine wpAny_execs_cons (cu (h1 pins s σ H D I h) fun f s1 q=> ?_)
 cases f with
 | next=>exact wpAny_execs_nil q
 | ret v=>exact q
 | brk=>exact q
 | cont=>exact q
def NM:TS:=fun D σ H=>D.ct σ H
theorem r9:PS X (.Continue pos) NM:=fun _ _ σ H _ I h=>wpAny_Continue ⟨σ,H,I,h⟩
theorem Inv.quiet {pins:List (Addr×Obj)}{σ:St}{H:Hp}{s:Shared}(I:Inv X pins σ H s):interactive X.env=false:=by simp [interactive,I.ok.kind]
def NO (te:TE):TS:=fun D σ H=>te σ H fun _ H1=>D.nx σ H1
theorem bQ (he:PE X e te)(hs:swapsWith e none pos.line X.env=pure false:=by rfl):PS X (.Expr e pos) (NO te):=by
 intro pins s σ H D I h
 exact wpAny_Expr_any (cu (he pins s σ H _ I h) fun v s1 ⟨x,H1,I1,r1,q1⟩=>⟨σ,H1,I1,q1⟩) I.quiet hs
def VS (te:TE):TS:=fun D σ H=>te σ H D.rt
theorem aL (he:PE X e te):PS X (.Return (some e) pos) (VS te):=by
 intro pins s σ H D I h
 exact wpAny_Return_some (cu (he pins s σ H _ I h) fun v s1 ⟨x,H1,I1,r1,q1⟩=>⟨x,σ,H1,I1,r1,q1⟩)
def VT (c:TT)(t u:TS):TS:=fun D σ H=>c σ H fun b H1=>if b=true then t D σ H1 else u D σ H1
theorem bG {c:Expr}{a b:List Stmt}{tc:TT}(hc:PT X c tc)(ha:PSs X a t)(hb:PSs X b u):PS X (.If c a b pos) (VT tc t u):=by
 intro pins s σ H D I h
 refine wpAny_If (cu (hc pins s σ H _ I h) fun d s1 ⟨H1,I1,q1⟩=> ?_)
 cases d with
 | true=>exact ha pins s1 σ H1 D I1 q1
 | false=>exact hb pins s1 σ H1 D I1 q1
def KW:TS:=fun _ _ _=>False
theorem cS:PS X st KW:=fun _ _ _ _ _ _ h=>h.elim
end
abbrev TG:=V→St→Hp→(St→Hp→Prop)→Prop
abbrev JH:=List V→St→Hp→(St→Hp→Prop)→Prop
def PG (X:Cx)(target:Expr)(t:TG):Prop:=
 ∀(pins:List (Addr×Obj)) (s:Shared) (σ:St) (H:Hp) (v:V) (u:Value) (Q:St→Hp→Prop),Inv X pins σ H s→RelV v u→t v σ H Q→
  wpAny (model X.prog X.w) X.A (assign target X.env u) (fun _ s' =>∃σ' H',Inv X pins σ' H' s' ∧Q σ' H') X.xe s
def NP (X:Cx)(ts:List Expr)(t:JH):Prop:=
 ∀(pins:List (Addr×Obj)) (s:Shared) (σ:St) (H:Hp) (vs:List V) (us:List Value) (Q:St→Hp→Prop),Inv X pins σ H s→Vals vs us→t vs σ H Q→
  wpAny (model X.prog X.w) X.A (assignInOrder ((assignEach ts X.env).map (·.2)) us) (fun _ s' =>∃σ' H',Inv X pins σ' H' s' ∧Q σ' H') X.xe s
abbrev KY:=V→V→V→Hp→(Hp→Prop)→Prop
def NQ (X:Cx)(t:KY):Prop:=
 ∀(pins:List (Addr×Obj)) (s:Shared) (σ:St) (H:Hp) (o i v:V) (ov iv u:Value) (Q:Hp→Prop),Inv X pins σ H s→RelV o ov→RelV i iv→RelV v u→t o i v H Q→
  wpAny (model X.prog X.w) X.A (setItem ov iv u) (fun _ s' =>∃H',Inv X pins σ H' s' ∧Q H') X.xe s
section
variable {X:Cx}{pos:Pos}
def d_ (i:Nat):TG:=fun v σ H Q=>Q (σ.set i (some v)) H
theorem aH {i:Nat}{x:Str}(hN:X.N.Nodup)(hi:X.N[i]? =some x)(hx:Loc X.env.scope x)(hf:X.fn x=true∨X.env.scope.names.lookup x=some .local:=by first | exact .inl rfl | exact .inr rfl | assumption):PG X (.Name x pos) (d_ i):=by
 intro pins s σ H v u Q I r h
 exact wpAny_assign_Name (iZ I hN hi hx r (fun s' I' =>⟨_,H,I',h⟩) hf)
def KZ:JH:=fun vs σ H Q=>vs=[]∧Q σ H
def r_ (t:TG)(u:JH):JH:=fun vs σ H Q=>∃v r,vs=v::r∧t v σ H fun σ' H' =>u r σ' H' Q
theorem dc:NP X [] KZ:=by
 intro pins s σ H vs us Q I r h
 obtain ⟨e,h⟩:=h
 subst e
 cases r
 exact assignInOrder_nil ⟨σ,H,I,h⟩
theorem bo {e:Expr}{es:List Expr}{t:TG}{u:JH}(h1:PG X e t)(h2:NP X es u)
  (hs:(assignEach (e::es) X.env).map (·.2)=assign e X.env::(assignEach es X.env).map (·.2):=by rfl):NP X (e::es) (r_ t u):=by
 intro pins s σ H vs us Q I r h
 obtain ⟨v,vr,e1,h⟩:=h
 subst e1
 cases r with
 | cons r rr=>
  rw [hs]
  refine assignInOrder_cons (cu (h1 pins s σ H _ _ _ I r h) fun _ s1 ⟨σ1,H1,I1,q1⟩=> ?_)
  exact h2 pins s1 σ1 H1 _ _ Q I1 rr q1
inductive AL (K:Frag)(n:Nat)(t:JH)(v:V)(σ:St)(H:Hp)(Q:(St→Hp→Prop)):Prop where
 | mk (a xs:_) (_:v=.ref a) (_:cf K H a xs) (_:xs.length=n) (_:t xs σ H Q):AL K n t v σ H Q
theorem fW {es:List Expr}{k:Nat}{t:JH}{n:Nat}(hc:X.calm=true)(h:NP X es t)
  (hn:(assignEach es X.env).length=n:=by rfl) (GK:(assignEach es X.env).findIdx? (·.1)=none:=by rfl):PG X (.Tuple es k pos) (AL X.K n t):=by
 intro pins s σ H v u Q I r hw
 obtain ⟨a,xs,e1,hq,hl,hw⟩:=hw
 subst e1
 cases r
 obtain ⟨its,rv,ht,hz⟩:=I.tuple hq
 refine assign_Tuple_tuple (I.ok.hd hc) ht (by simp [hn, ← hl,rv.length]) GK fun h' hx=> ?_
 have I1:Inv X pins σ H {s with heap:=h' }:=I.kept (t' :=s.toks) fun b o e=>hx b o (ad5 (Heap.lt_size e)) e
 exact h pins _ σ H xs _ Q I1 (by simpa using rv) hw
def VU (to ti:TE)(t:KY):TG:=fun v σ H Q=>to σ H fun o H1=>ti σ H1 fun i H2=>t o i v H2 fun H3=>Q σ H3
theorem qg {o i:Expr}{to ti:TE}{t:KY}(ho:PE X o to)(hi:PE X i ti)(hs:NQ X t)
  (ha:∀v,assign (.Subscript o i pos) X.env v=(do
   let ov ← holding [v] (eval o X.env)
   let iv ← holding [v,ov] (eval i X.env)
   standAt pos
   holding [v,ov,iv] (setItem ov iv v)
   release [v,ov,iv] []):=by intro _;rfl):PG X (.Subscript o i pos) (VU to ti t):=by
 intro pins s σ H v u Q I r h
 rw [ha]
 refine wpAny_bind (wpAny_holding (cu (ho pins s σ H _ I h) fun ov s1 ⟨x,H1,I1,r1,q1⟩=> ?_))
 refine wpAny_bind (wpAny_holding (cu (hi pins s1 σ H1 _ I1 q1) fun iv s2 ⟨y,H2,I2,r2,q2⟩=> ?_))
 refine wpAny_bind (wpAny_standAt (wpAny_bind (wpAny_holding (cu (hs pins s2 σ H2 x y v ov iv u _ I2 r1 r2 r q2) fun _ s3 ⟨H3,I3,q3⟩=> ?_))))
 exact wpAny_release ⟨σ,H3,I3,q3⟩
def K0 (te:TE)(g:TG):TS:=fun D σ H=>te σ H fun x H1=>g x σ H1 D.nx
theorem qh {tg e:Expr}{te:TE}{g:TG}(he:PE X e te)(hg:PG X tg g)(hs:swapsWithSole [tg] e pos.line X.env=pure false:=by rfl)(hw:swappedStores [tg] e X.env=pure none:=by rfl)
  (h1:(assignEach [tg] X.env).map (·.2)=[assign tg X.env]:=by rfl):PS X (.Assign [tg] e pos) (K0 te g):=by
 intro pins s σ H D I h
 refine wpAny_Assign_stores (cu (he pins s σ H _ I h) fun v s1 ⟨x,H1,I1,r1,q1⟩=> ?_) hs hw
 rw [h1]
 exact cu (hg pins s1 σ H1 x v _ I1 r1 q1) fun _ s2 q=>q
theorem ay {i:Nat}{x:Str}{e:Expr}{te:TE}{pos' :Pos}(hN:X.N.Nodup)(hi:X.N[i]? =some x)(hx:Loc X.env.scope x)(he:PE X e te)(hs:swapsWith e (some (.Name x pos')) pos.line X.env=pure false:=by rfl)(hf:X.fn x=true∨X.env.scope.names.lookup x=some .local:=by first | exact .inl rfl | exact .inr rfl | assumption):
  PS X (.Assign [.Name x pos'] e pos) (K0 te (d_ i)):=by
 intro pins s σ H D I h
 refine wpAny_Assign_Name (cu (he pins s σ H _ I h) fun v s1 ⟨y,H1,I1,r1,q1⟩=> ?_) hs
 exact iZ I1 hN hi hx r1 (fun s2 I2=>⟨_,H1,I2,q1⟩) hf
inductive JI (i:Nat)(j:Nat)(D:Ends)(σ:St)(vs:List V)(H1:Hp):Prop where
 | mk (v w:_) (_:vs=[v,w]) (_:D.nx ((σ.set i (some v)).set j (some w)) H1):JI i j D σ vs H1
def VW (i j:Nat)(ta:TA):TS:=fun D σ H=>ta σ H fun vs H1=>JI i j D σ vs H1
theorem K1 {i j:Nat}{x y:Str}{a b:Expr}{ta:TA}{px py pt:Pos}{kt k2 VX}(hc:X.calm=true)(hN:X.N.Nodup)(hi:X.N[i]? =some x)(hj:X.N[j]? =some y)(hij:i≠j)
  (hx:X.env.scope.names.lookup x=some .local) (hy:X.env.scope.names.lookup y=some .local) (ha:PA X [a,b] ta)
  (hw:swappedStores [.Tuple [.Name x px,.Name y py] kt pt] (.Tuple [a,b] k2 VX) X.env=pure (some [x,y]))
  (hs:swapsWithSole [.Tuple [.Name x px,.Name y py] kt pt] (.Tuple [a,b] k2 VX) pos.line X.env=pure false:=by rfl):
  PS X (.Assign [.Tuple [.Name x px,.Name y py] kt pt] (.Tuple [a,b] k2 VX) pos) (VW i j ta):=by
 intro pins s σ H D I h
 rw [exec_Assign_arm]
 refine wpAny_bind (wpAny_standAt ?_)
 rw [hs]
 refine wpAny_bind (wpAny_pure ?_)
 rw [if_neg (by decide)]
 refine wpAny_bind (Tuple_ (cu (ha _ pins s σ H _ I h) fun us s1 ⟨vs,H1,I1,r1,q1⟩=> ?_))
 obtain ⟨v,w,e1,q1⟩:=q1
 subst e1
 obtain ⟨u1,u2,rfl,rv,rW⟩:∃u1 u2,us=[u1,u2]∧RelV v u1∧RelV w u2:=by
  cases r1 with
  | cons p q=>
   cases q with
   | cons p' q' =>
    cases q'
    exact ⟨_,_,rfl,p,p'⟩
 refine wpAny_newObj_type ?_ (by show 2≤sizeLine;decide)
 have I2:Inv X pins σ H1 {s1 with heap:=s1.heap.push {cls:=.type "tuple",data:=.seq [u1,u2].toArray}}:=I1.kept (t' :=s1.toks) fun b o e=>Heap.get?_push_of_some _ e
 rw [hw]
 refine wpAny_bind (wpAny_pure ?_)
 show wpAny (model X.prog X.w) X.A (do rule "assign.swapped-stores";let items ← unpackItems (.ref s1.heap.objs.size) 2 none;assignInOrder [fun v=>bindName X.env y v,fun v=>bindName X.env x v] items.reverse;pure Flow.next) _ _ _
 refine wpAny_bind (wpAny_rule (wpAny_bind (unpackItems_tuple (items:= #[u1,u2]) (I.ok.hd hc) (IsTup.new s1.heap _) fun h' uH => ?_)))
 have I3:=I2.kept (h' :=h') (t' :=s1.toks) fun b o e=>uH b o (ad5 (Heap.lt_size e)) e
 show wpAny _ _ (assignInOrder [fun v=>bindName X.env y v,fun v=>bindName X.env x v] [u2,u1] >>=fun _=>pure Flow.next) _ _ _
 refine wpAny_bind (assignInOrder_cons (wpAny_bindName (iZ I3 hN hj (.inl hy) rW (fun s2 I4=> ?_) (.inr hy))))
 refine assignInOrder_cons (wpAny_bindName (iZ I4 hN hi (.inl hx) rv (fun s3 I5=>assignInOrder_nil (wpAny_pure ?_)) (.inr hx)))
 rw [List.set_comm _ _ (ad7 hij)] at I5
 exact ⟨_,H1,I5,q1⟩
end
section
variable {X:Cx}{pos:Pos}
def AM (c:TT)(tb:TS):TS:=fun D σ H=>∃W:Nat→St→Hp→Prop,(∃m,W m σ H)∧∀m σ H,W m σ H→
 c σ H fun b H1=>if b=true then ∃N:St→Hp→Prop,(∀σ' H',N σ' H' →∃m',m' < m∧W m' σ' H')∧tb {D with nx:=N,ct:=N,bk:=D.nx} σ H1 else D.nx σ H1
theorem mq {c:Expr}{body:List Stmt}{tc:TT}{tb:TS}(hp:PassesOwn (model X.prog X.w) X.A X.env X.xe)(hc:PT X c tc)(hb:PSs X body tb):PS X (.While c body [] pos) (AM tc tb):=by
 intro pins s σ H D I h
 obtain ⟨W,⟨m0,w0⟩,turn⟩:=h
 refine wpAny_While (codeAny_whileLoop (fun n s' =>∃σ' H',Inv X pins σ' H' s' ∧W n σ' H') ?_ m0 ⟨σ,H,I,w0⟩)
 rintro n s1 ⟨σ1,H1,I1,w1⟩
 refine wpAny_passesOwn hp (cu (hc pins s1 σ1 H1 _ I1 (turn n σ1 H1 w1)) fun b s2 ⟨H2,I2,q2⟩=> ?_)
 cases b with
 | true=>
  obtain ⟨N,hN,q2⟩:=q2
  rw [if_pos rfl]
  refine wpAny_passesOwn hp (cu (hb pins s2 σ1 H2 _ I2 q2) fun f s3 q3=> ?_)
  cases f with
  | next=>
   obtain ⟨σ3,H3,I3,n3⟩:=q3
   obtain ⟨m',hm,w3⟩:=hN σ3 H3 n3
   exact ⟨m',hm,σ3,H3,I3,w3⟩
  | cont=>
   obtain ⟨σ3,H3,I3,n3⟩:=q3
   obtain ⟨m',hm,w3⟩:=hN σ3 H3 n3
   exact ⟨m',hm,σ3,H3,I3,w3⟩
  | brk=>exact q3
  | ret v=>exact q3
 | false=>
  rw [if_neg adT]
  exact wpAny_execs_nil ⟨σ1,H2,I2,q2⟩
end
structure It where
 go:Nat→Hp→Prop
 AN:Nat→Hp→V→Hp→Prop
 stop:Nat→Hp→Prop
def jS (X:Cx)(pins:List (Addr×Obj))(H:Hp)(b:Addr):Prop:=
 H b=none∧b≠X.env.locals∧b∉X.fs∧(b∈X.ex∨X.s₀.heap.objs.size≤b)∧(∀x c,X.env.cells.lookup x=some c→c≠b)∧∀p∈X.pn++pins,p.1≠b
theorem Inv.oy {X:Cx}{pins:List (Addr×Obj)}{σ:St}{H H' :Hp}{s:Shared}{b:Addr}(I:Inv X pins σ H s)(hb:s.heap.objs.size≤b)(hn:H' b=none):jS X pins H' b:=by
 refine ⟨hn,afr (adU I.lt hb),I.VI hb,.inr (adF I.sz hb),fun x c e z=> ?_,fun p hp z=> ?_⟩
 ·obtain ⟨v,q⟩:=I.cell x c e
  exact absurd (adU q.lt (by rw [z];exact hb)) (aew _)
 ·exact absurd (adU (Heap.lt_size (I.pin p hp).1) (by rw [z];exact hb)) (aew _)
structure Turn (P:Program)(w:World)(K:Frag)(tg:Expr)(J:It)(fp:List Addr)(it:Addr)(tn:Nat→Heap→Prop):Prop where
 mem:it∈fp
 obj:∀i h,tn i h→∀b∈fp,∃o,h.get? b=some o∧∀v,o.data≠.cell v
 keep:∀i h h',tn i h→(∀b∈fp,∀o,h.get? b=some o→h'.get? b=some o)→tn i h'
 item:∀(X:Cx),X.prog=P→X.w=w→X.K=K→X.calm=true→∀(i:Nat) (pins:List (Addr×Obj)) (s:Shared) (σ:St) (H:Hp) (E:Value→Shared→Prop),Inv X pins σ H s→(∀b∈fp,jS X pins H b)→tn i s.heap→J.go i H→
  wpAny (model P w) X.A (pyNext (.ref it)) (fun r s1=>∃u,r=some u∧
   wpAny (model P w) X.A (letOwnedTupleGo tg (.ref it) u) (fun _ s2=>∃x H',Inv X pins σ H' s2∧RelV x u∧J.AN i H x H' ∧tn (i+1) s2.heap∧∀b∈fp,H' b=none) E s1) E s
 done:∀(X:Cx),X.prog=P→X.w=w→X.K=K→X.calm=true→∀(i:Nat) (pins:List (Addr×Obj)) (s:Shared) (σ:St) (H:Hp) (E:Value→Shared→Prop),Inv X pins σ H s→(∀b∈fp,jS X pins H b)→tn i s.heap→J.stop i H→
  wpAny (model P w) X.A (pyNext (.ref it)) (fun r s1=>r=none∧Inv X pins σ H s1) E s
 self:∀(A:Around) (i:Nat) (s:Shared) (Q:Value→Shared→Prop) (E:Value→Shared→Prop),tn i s.heap→Q (.ref it) s→wpAny (model P w) A (pyIter (.ref it)) Q E s
abbrev TI:=St→Hp→(It→Hp→Prop)→Prop
def PIE (X:Cx)(pins:List (Addr×Obj))(σ:St)(tg:Expr)(R:It→Hp→Prop)(UT:Value)(s2:Shared):Prop:=
 ∃(it:Addr) (fp:List Addr) (tn:Nat→Heap→Prop) (J:It) (H' :Hp),UT=.ref it∧Inv X pins σ H' s2∧Turn X.prog X.w X.K tg J fp it tn∧tn 0 s2.heap∧(∀b∈fp,jS X pins H' b)∧R J H'
def PI (X:Cx)(tg iter:Expr)(wi:TI):Prop:=
 ∀(pins:List (Addr×Obj)) (s:Shared) (σ:St) (H:Hp) (R:It→Hp→Prop),Inv X pins σ H s→wi σ H R→
  wpAny (model X.prog X.w) X.A (eval iter X.env) (fun v s1=>wpAny (model X.prog X.w) X.A (pyIter v) (PIE X pins σ tg R) X.xe s1) X.xe s
theorem AO {M : Model} {A : Around} {E : Value → Shared → Prop} {s : Shared} {tg : Expr} {it : Addr} {u : Value} {o : Obj} {n : String} {vs : Array Value} {Q : Unit → Shared → Prop} (ho : s.heap.get? it = some o) (hc : o.cls = .type n) (hd : o.data = .fields vs)
    (hn : ["enumerate", "zip", "dict_itemiterator", "dict_reverseitemiterator", "odict_iterator", "itertools.zip_longest", "itertools.pairwise"].contains n = false) (hQ : Q () s) : wpAny M A (letOwnedTupleGo tg (.ref it) u) Q E s := by
  unfold letOwnedTupleGo
  cases tg <;> first
    | exact wpAny_pure hQ
    | (cases u <;> first
        | exact wpAny_pure hQ
        | (refine wpAny_bind (wpAny_load ho ?_)
           rw [hc, hd]
           show wpAny M A (if (["enumerate", "zip", "dict_itemiterator", "dict_reverseitemiterator", "odict_iterator", "itertools.zip_longest", "itertools.pairwise"].contains n && vs[0]? == some (rawInt _)) = true then _ else _) Q E s
           rw [if_neg (by intro h; rw [hn, Bool.false_and] at h; cases h)]
           exact wpAny_pure hQ))
def JJ (K:Frag)(a:Addr):It:=
 ⟨fun i H=>∃xs x,aV K H a xs∧xs[i]? =some x,fun i H x H' =>H' =H∧∀xs,aV K H a xs→xs[i]? =some x,fun i H=>∃xs,aV K H a xs∧xs.length≤i⟩
def MZ (lo:Int)(n:Nat):It:=⟨fun i _=>i < n,fun i H x H' =>H' =H∧x=.int (lo+i),fun i _=>n≤i⟩
theorem xO {P:Program}{w:World}{K:Frag}{tg:Expr}(a it:Addr):Turn P w K tg (JJ K a) [it] it (fun i h=>h.IsListIter it a i) where
 mem:=by simp
 obj:=fun i h st b hb=>by
  have e:b=it:=by simpa using hb
  subst e
  obtain ⟨o,e,c,d⟩:=st
  exact ⟨o,e,fun v z=>by rw [d] at z;cases z⟩
 keep:=fun i h h' st k=>st.at fun o e=>k it (by simp) o e
 item:=by
  intro X hP hw hK hc i pins s σ H E I hf st hg
  subst hP hw hK
  obtain ⟨xs,x,hq,hx⟩:=hg
  obtain ⟨its,rv,p,hz⟩:=I.list hq
  obtain ⟨u,hu,ru⟩:=rv.get hx
  obtain ⟨f0,f1,f2,f3,f4,f5⟩:=hf it (by simp)
  refine wpAny_pyNext_list_item st p.isList (x:=u) (by simpa using hu) fun h' AQ sb=> ?_
  have I1:Inv X pins σ H {s with heap:=h' }:=I.turned (t' :=s.toks) (fun b o hb e=>(sb.2 b hb).trans e) f0 f1 f3 f4 f5
  obtain ⟨o,e,c,d⟩:=id AQ
  exact ⟨u,rfl,AO (s:={s with heap:=h' }) e c d (by decide) ⟨x,H,I1,ru,⟨rfl,fun ys hy=>by rw [I.gD hy hq];exact hx⟩,AQ,fun b hb=>(hf b hb).1⟩⟩
 done:=by
  intro X hP hw hK hc i pins s σ H E I hf st hg
  subst hP hw hK
  obtain ⟨xs,hq,hx⟩:=hg
  obtain ⟨its,rv,p,hz⟩:=I.list hq
  obtain ⟨f0,f1,f2,f3,f4,f5⟩:=hf it (by simp)
  have hl:=rv.length
  exact wpAny_pyNext_list_end (I.ok.hd hc) st p.isList (by simp;omega) fun h' eb=>⟨rfl,I.turned (t' :=s.toks) (fun b o hb e=>eb b o hb e) f0 f1 f3 f4 f5⟩
 self:=fun _ _ _ _ _ st h=>wpAny_pyIter_listiter st h
theorem uV {P:Program}{w:World}{K:Frag}{tg:Expr}(it:Addr)(lo:Int)(n:Nat):Turn P w K tg (MZ lo n) [it] it (fun i h=>IsRangeIter h it (lo+(i:Nat)*1) ((n:Int) - (i:Nat)) 1) where
 mem:=by simp
 obj:=fun i h st b hb=>by
  have e:b=it:=by simpa using hb
  subst e
  exact ⟨_,st,fun v z=>by
   have z' :Data.fields _=Data.cell v:=z
   cases z'⟩
 keep:=fun i h h' st k=>k it (by simp) _ st
 item:=by
  intro X hP hw hK hc i pins s σ H E I hf st hg
  subst hP hw hK
  obtain ⟨f0,f1,f2,f3,f4,f5⟩:=hf it (by simp)
  have W:=Walks.range (prog:=X.prog) (w:=X.w) (I.ok.hd hc) it lo 1 n
  refine W.item i s _ _ hg st fun v h' tk hv AQ kk=> ?_
  obtain ⟨t,rfl⟩:=hv
  have I1:Inv X pins σ H {s with heap:=h',toks:=tk}:=I.turned (fun b o hb e=>kk b o (by simpa using hb) e) f0 f1 f3 f4 f5
  refine ⟨_,rfl,AO (s:={s with heap:=h',toks:=tk}) (n:="range_iterator") AQ rfl rfl (by decide) ⟨.int (lo+i),H,I1,⟨t,?_⟩,⟨rfl,rfl⟩,AQ,fun b hb=>(hf b hb).1⟩⟩
  rw [Int.mul_one]
 done:=by
  intro X hP hw hK hc i pins s σ H E I hf st hg
  subst hP hw hK
  obtain ⟨f0,f1,f2,f3,f4,f5⟩:=hf it (by simp)
  exact wpAny_pyNext_range_end (I.ok.hd hc) st (by have:n≤i:=hg;omega) fun h' eb=>⟨rfl,I.turned (t' :=s.toks) (fun b o hb e=>eb b o hb e) f0 f1 f3 f4 f5⟩
 self:=fun _ _ _ _ _ st h=>wpAny_pyIter_rangeiter st h
end L2
namespace L2
open PySem PySem.Spec PyProof.Rows
section
variable {X:Cx}{tg:Expr}
inductive AR (K:Frag)(R:(It→Hp→Prop))(x:V)(H1:Hp):Prop where
 | mk (a:_) (_:x=.ref a) (_:(∃xs,aV K H1 a xs)) (_:R (JJ K a) H1):AR K R x H1
def NR (K:Frag)(tl:TE):TI:=fun σ H R=>tl σ H fun x H1=>AR K R x H1
theorem bR {l:Expr}{tl:TE}(hl:PE X l tl):PI X tg l (NR X.K tl):=by
 intro pins s σ H R I h
 refine cu (hl pins s σ H _ I h) fun v s1 ⟨x,H1,I1,r1,q1⟩=> ?_
 obtain ⟨a,e,⟨xs,hq⟩,q⟩:=q1
 subst e
 cases r1
 obtain ⟨its,rv,p,hz⟩:=I1.list hq
 refine wpAny_pyIter_list p.isList ?_
 refine ⟨s1.heap.objs.size,[s1.heap.objs.size],_,_,H1,rfl,I1.kept (t' :=s1.toks) fun b o e=>Heap.get?_push_of_some _ e,xO a _,⟨_,Heap.get?_push_size _ rfl,rfl,rfl⟩,fun b hb=> ?_,q⟩
 have e:b=s1.heap.objs.size:=by simpa using hb
 subst e
 exact I1.oy (adL _) (I1.bJ.fresh (adL _))
theorem AS {pins:List (Addr×Obj)}{σ:St}{H:Hp}{s:Shared}{R:It→Hp→Prop}{E:Value→Shared→Prop}{lo hi:Int}{t u v:Tok}{tk:Nat}(I:Inv X pins σ H s)(h1: -(2^62)≤lo)(h2:lo < 2^62)(h3: -(2^62)≤hi)(h4:hi < 2^62)
  (q:R (MZ lo (hi - lo).toNat) H):wpAny (model X.prog X.w) X.A (pyIter (.ref s.heap.objs.size)) (PIE X pins σ tg R) E {s with heap:=s.heap.push {cls:=.type "range",data:=.fields #[.int lo t,.int hi u,.int 1 v]},toks:=tk}:=by
 refine wpAny_pyIter_range (IsRange.new ..) (small_one h1 h2 h3 h4) ?_
 have I1:Inv X pins σ H {s with heap:=s.heap.push {cls:=.type "range",data:=.fields #[.int lo t,.int hi u,.int 1 v]},toks:=tk}:=I.kept fun b o e=>Heap.get?_push_of_some _ e
 refine ⟨(s.heap.push {cls:=.type "range",data:=.fields #[.int lo t,.int hi u,.int 1 v]}).objs.size,[(s.heap.push {cls:=.type "range",data:=.fields #[.int lo t,.int hi u,.int 1 v]}).objs.size],_,_,H,rfl,
  I1.kept (t' :=tk) fun b o e=>Heap.get?_push_of_some _ e,uV _ lo (hi - lo).toNat,?_,fun b hb=> ?_,q⟩
 ·have e1:lo+((0:Nat):Int)*1=lo:=by simp
  have e2:(((hi - lo).toNat:Nat):Int) - ((0:Nat):Int)=Builtin.Range.rangeSize lo hi 1:=by rw [rangeSize_one];split <;> omega
  show IsRangeIter _ _ (lo+((0:Nat):Int)*1) ((((hi - lo).toNat:Nat):Int) - ((0:Nat):Int)) 1
  rw [e1,e2]
  exact Heap.get?_push_size _ rfl
 ·have e:b=(s.heap.push {cls:=.type "range",data:=.fields #[.int lo t,.int hi u,.int 1 v]}).objs.size:=by simpa using hb
  subst e
  exact I1.oy (adL _) (I1.bJ.fresh (adL _))
inductive AU (R:(It→Hp→Prop))(vs:List V)(H1:Hp):Prop where
 | mk (j:Int) (_:vs=[.int j]) (_: -(2^62)≤j) (_:j < 2^62) (_:R (MZ 0 j.toNat) H1):AU R vs H1
def NS (ta:TA):TI:=fun σ H R=>ta σ H fun vs H1=>AU R vs H1
theorem bE {a:Expr}{ta:TA}{p pos:Pos}(hg:Gl X "range")(hm:X.mg "range"=none)(ha:PA X [a] ta)(hs:starEach [a] X.env=[(false,eval a X.env)]:=by rfl):PI X tg (.Call (.Name "range" p) [a] [] pos) (NS ta):=by
 intro pins s σ H R I h
 refine Call_ (gC I hg hm boot_range (PyProof.Rows.callWith_type1 (cu (ha pos pins s σ H _ I h) fun us s1 ⟨vs,H1,I1,r1,q1⟩=> ?_) hs rfl))
 obtain ⟨j,e,q1,q2,q⟩:=q1
 subst e
 cases r1 with
 | cons r rr=>
  cases rr
  obtain ⟨t,rfl⟩:=r
  exact call_range_1 (AS I1 (by omega) (by omega) q1 q2 (by simpa using q))
def VY (wi:TI)(g:TG)(tb:TS):TS:=fun D σ H=>wi σ H fun J H1=>∃W:Nat→Nat→St→Hp→Prop,(∃m,W 0 m σ H1)∧∀i m σ H,W i m σ H→
 (J.stop i H∧D.nx σ H)∨(J.go i H∧∃N:St→Hp→Prop,(∀σ' H',N σ' H' →∃m',m' < m∧W (i+1) m' σ' H')∧∀x H',J.AN i H x H' →g x σ H' fun σ2 H2=>tb {D with nx:=N,ct:=N,bk:=D.nx} σ2 H2)
def mw (fp:List Addr)(h:Heap):List (Addr×Obj):=fp.filterMap fun b=>(h.get? b).map fun o=>(b,o)
theorem fX {fp:List Addr}{h:Heap}{b:Addr}{o:Obj}(hb:b∈fp)(e:h.get? b=some o):(b,o)∈mw fp h:=aft.mpr ⟨b,hb,by rw [e];rfl⟩
theorem xP {fp:List Addr}{h:Heap}{p:Addr×Obj}(hp:p∈mw fp h):p.1∈fp∧h.get? p.1=some p.2:=by
 obtain ⟨b,hb,e⟩:=aft.mp hp
 cases q:h.get? b with
 | none=>rw [q] at e;cases e
 | some o=>
  rw [q] at e
  have e' :(b,o)=p:=adX e
  subst e'
  exact ⟨hb,q⟩
theorem Inv.pinned {pins:List (Addr×Obj)}{σ:St}{H:Hp}{s:Shared}{fp:List Addr}(I:Inv X pins σ H s)(hf:∀b∈fp,jS X pins H b)(ho:∀b∈fp,∃o,s.heap.get? b=some o∧∀v,o.data≠.cell v):Inv X (pins++mw fp s.heap) σ H s:=
 I.wA fun p hp=>(adQ.mp hp).elim (fun z=>I.pin p (ad6 _ z)) fun z=>by
  obtain ⟨hb,e⟩:=xP z
  obtain ⟨f0,f1,f2,_⟩:=hf p.1 hb
  obtain ⟨o,e',d⟩:=ho p.1 hb
  rw [e] at e';cases e'
  exact ⟨e,f0,f1,f2,d⟩
theorem Inv.gG {pins pl:List (Addr×Obj)}{σ:St}{H:Hp}{s:Shared}(I:Inv X (pins++pl) σ H s):Inv X pins σ H s:=I.wA fun p hp=>I.pin p (ad6 _ (ad_ _ hp))
theorem bq {iter:Expr}{body:List Stmt}{wi:TI}{g:TG}{tb:TS}{pos:Pos}(hp:PassesOwn (model X.prog X.w) X.A X.env X.xe)(hc:X.calm=true)(hi:PI X tg iter wi)(hg:PG X tg g)(hb:PSs X body tb)
  (hs:∀x,foldedSetIterable iter X.env x=pure x:=by intro _;rfl):PS X (.For tg iter body [] pos) (VY wi g tb):=by
 intro pins s σ H D I h
 refine wpAny_For (cu (hi pins s σ H _ I h) fun v s1 h1=>cu h1 fun UT s2 h2=> ?_) hs
 obtain ⟨it,fp,tn,J,H2,e,I2,T,JK,f2,W,⟨m0,w0⟩,turn⟩:=h2
 subst e
 have stat:∀{H' :Hp},(∀b∈fp,H' b=none)→∀b∈fp,jS X pins H' b:=fun hn b hb=>⟨hn b hb,(f2 b hb).2⟩
 refine codeAny_forLoop_any (fun n s' =>∃i σ' H',Inv X pins σ' H' s' ∧tn i s'.heap∧(∀b∈fp,H' b=none)∧W i n σ' H') ?_ m0 ⟨0,σ,H2,I2,JK,fun b hb=>(f2 b hb).1,w0⟩
 rintro n s3 ⟨i,σ3,H3,I3,NT,NU,w3⟩
 rcases turn i n σ3 H3 w3 with ⟨stop,qn⟩ | ⟨go,N,hN,step⟩
 ·refine wpAny_passesOwn hp (cu (T.done X rfl rfl rfl hc i pins s3 σ3 H3 X.xe I3 (stat NU) NT stop) fun r s4 ⟨hr,I4⟩=> ?_)
  subst hr
  exact wpAny_execs_nil ⟨σ3,H3,I4,qn⟩
 ·refine wpAny_passesOwn hp (cu (T.item X rfl rfl rfl hc i pins s3 σ3 H3 X.xe I3 (stat NU) NT go) fun r s4 ⟨u,hr,h4⟩=> ?_)
  subst hr
  refine wpAny_passesOwn hp (cu h4 fun _ s5 ⟨x,H5,I5,r5,y5,M0,UU⟩=> ?_)
  have I5' :=I5.pinned (stat UU) (T.obj _ _ M0)
  refine wpAny_passesOwn hp (cu (hg _ s5 σ3 H5 x u _ I5' r5 (step x H5 y5)) fun _ s6 ⟨σ6,H6,I6,q6⟩=> ?_)
  refine wpAny_passesOwn hp (cu (hb _ s6 σ6 H6 _ I6 q6) fun f s7 q7=> ?_)
  have again:∀{σ7:St} {H7:Hp},Inv X (pins++mw fp s5.heap) σ7 H7 s7→N σ7 H7→∃m,m < n∧∃i σ' H',Inv X pins σ' H' s7∧tn i s7.heap∧(∀b∈fp,H' b=none)∧W i m σ' H' :=fun {σ7 H7} I7 n7=>by
   obtain ⟨m',hm,w7⟩:=hN σ7 H7 n7
   refine ⟨m',hm,i+1,σ7,H7,I7.gG,T.keep _ _ _ M0 fun b hb o e=>(I7.pin (b,o) (ad6 _ (ad6 _ (fX hb e)))).1,fun b hb=> ?_,w7⟩
   obtain ⟨o,e,d⟩:=T.obj _ _ M0 b hb
   exact (I7.pin (b,o) (ad6 _ (ad6 _ (fX hb e)))).2.1
  cases f with
  | next=>obtain ⟨σ7,H7,I7,n7⟩:=q7;exact again I7 n7
  | cont=>obtain ⟨σ7,H7,I7,n7⟩:=q7;exact again I7 n7
  | brk=>obtain ⟨σ7,H7,I7,q7⟩:=q7;exact ⟨σ7,H7,I7.gG,q7⟩
  | ret v=>obtain ⟨x7,σ7,H7,I7,r7,q7⟩:=q7;exact ⟨x7,σ7,H7,I7.gG,r7,q7⟩
end
theorem cT {K:Frag}{a:Addr}{xs:List V}{g:TG}{tb:TS}{D:Ends}{σ:St}{H:Hp}(Pv:Nat→St→Hp→Prop)(h0:Pv 0 σ H)(hl:∀i σ H,i≤xs.length→Pv i σ H→aV K H a xs)
  (hs:∀i x σ H,xs[i]? =some x→Pv i σ H→g x σ H fun σ2 H2=>tb {D with nx:=Pv (i+1),ct:=Pv (i+1),bk:=D.nx} σ2 H2) (hd:∀σ H,Pv xs.length σ H→D.nx σ H):
  ∃W:Nat→Nat→St→Hp→Prop,(∃m,W 0 m σ H)∧∀i m σ H,W i m σ H→
   ((JJ K a).stop i H∧D.nx σ H)∨((JJ K a).go i H∧∃N:St→Hp→Prop,(∀σ' H',N σ' H' →∃m',m' < m∧W (i+1) m' σ' H')∧∀x H',(JJ K a).AN i H x H' →g x σ H' fun σ2 H2=>tb {D with nx:=N,ct:=N,bk:=D.nx} σ2 H2):=by
 refine ⟨fun i m σ H=>m=xs.length - i∧i≤xs.length∧Pv i σ H,⟨xs.length,by simp,aeg _,h0⟩,?_⟩
 rintro i m σ H ⟨rfl,hi,p⟩
 have q:=hl i σ H hi p
 by_cases oa:i < xs.length
 ·refine .inr ⟨⟨xs,xs[i],q,by simp [oa]⟩,Pv (i+1),fun σ' H' p' =>⟨xs.length - (i+1),by omega,rfl,oa,p'⟩,fun x H' y=> ?_⟩
  obtain ⟨e,y⟩:=y
  subst e
  exact hs i x σ _ (y xs q) p
 ·have e:i=xs.length:=by omega
  subst e
  exact .inl ⟨⟨xs,q,adL _⟩,hd σ H p⟩
theorem bF {lo:Int}{n:Nat}{g:TG}{tb:TS}{D:Ends}{σ:St}{H:Hp}(Pv:Nat→St→Hp→Prop)(h0:Pv 0 σ H)
  (hs:∀i σ H,i < n→Pv i σ H→g (.int (lo+i)) σ H fun σ2 H2=>tb {D with nx:=Pv (i+1),ct:=Pv (i+1),bk:=D.nx} σ2 H2) (hd:∀σ H,Pv n σ H→D.nx σ H):
  ∃W:Nat→Nat→St→Hp→Prop,(∃m,W 0 m σ H)∧∀i m σ H,W i m σ H→
   ((MZ lo n).stop i H∧D.nx σ H)∨((MZ lo n).go i H∧∃N:St→Hp→Prop,(∀σ' H',N σ' H' →∃m',m' < m∧W (i+1) m' σ' H')∧∀x H',(MZ lo n).AN i H x H' →g x σ H' fun σ2 H2=>tb {D with nx:=N,ct:=N,bk:=D.nx} σ2 H2):=by
 refine ⟨fun i m σ H=>m=n - i∧i≤n∧Pv i σ H,⟨n,by simp,aeg _,h0⟩,?_⟩
 rintro i m σ H ⟨rfl,hi,p⟩
 by_cases oa:i < n
 ·refine .inr ⟨oa,Pv (i+1),fun σ' H' p' =>⟨n - (i+1),by omega,rfl,oa,p'⟩,fun x H' y=> ?_⟩
  obtain ⟨e,y⟩:=y
  subst e y
  exact hs i σ _ oa p
 ·have e:i=n:=by omega
  subst e
  exact .inl ⟨adL _,hd σ H p⟩
theorem se {c:TT}{tb:TS}{D:Ends}{σ:St}{H:Hp}(Pv:St→Hp→Prop)(μ:St→Hp→Nat)(h0:Pv σ H)
  (hs:∀σ H,Pv σ H→c σ H fun b H1=>if b=true then tb {D with nx:=fun σ' H' =>Pv σ' H' ∧μ σ' H' < μ σ H,ct:=fun σ' H' =>Pv σ' H' ∧μ σ' H' < μ σ H,bk:=D.nx} σ H1 else D.nx σ H1)
  (mono:∀σ H Q Q',(∀b H1,Q b H1→Q' b H1)→c σ H Q→c σ H Q'):AM c tb D σ H:=by
 refine ⟨fun m σ H=>m=μ σ H∧Pv σ H,⟨_,rfl,h0⟩,?_⟩
 rintro m σ H ⟨rfl,p⟩
 refine mono σ H _ _ (fun b H1 q=> ?_) (hs σ H p)
 cases b with
 | true=>exact ⟨_,fun σ' H' ⟨p',l⟩=>⟨_,l,rfl,p'⟩,q⟩
 | false=>exact q
end L2
namespace L2
open PySem PySem.Spec PyProof.Rows
abbrev R2:=V→V→Hp→VK→Prop
def jP (X:Cx)(f:Value→Value→Sem Value)(r:R2):Prop:=
 ∀(pins:List (Addr×Obj)) (s:Shared) (σ:St) (H:Hp) (x y:V) (v u:Value) (Q:VK),Inv X pins σ H s→RelV x v→RelV y u→r x y H Q→
  wpAny (model X.prog X.w) X.A (f v u) (EP X pins σ Q) X.xe s
def VZ (X:Cx)(f:Value→Sem Value)(r:V→Hp→VK→Prop):Prop:=
 ∀(pins:List (Addr×Obj)) (s:Shared) (σ:St) (H:Hp) (x:V) (v:Value) (Q:VK),Inv X pins σ H s→RelV x v→r x H Q→
  wpAny (model X.prog X.w) X.A (f v) (EP X pins σ Q) X.xe s
def gH (X:Cx)(f:Value)(r:List V→Hp→VK→Prop):Prop:=
 ∀(pins:List (Addr×Obj)) (s:Shared) (σ:St) (H:Hp) (xs:List V) (us:List Value) (Q:VK),Inv X pins σ H s→Vals xs us→r xs H Q→
  wpAny (model X.prog X.w) X.A (call f us) (EP X pins σ Q) X.xe s
def M1 (r:R2)(ta tb:TE):TE:=fun σ H Q=>ta σ H fun x H1=>tb σ H1 fun y H2=>r x y H2 Q
def tUn (r:V→Hp→VK→Prop)(ta:TE):TE:=fun σ H Q=>ta σ H fun x H1=>r x H1 Q
inductive rI (C:Int→Int→Prop)(g:Int→Int→V)(x:V)(y:V)(H:Hp)(Q:VK):Prop where
 | mk (i j:_) (_:x=.int i) (_:y=.int j) (_:C i j) (_:Q (g i j) H):rI C g x y H Q
inductive JL (g:Int→Int→V)(x:V)(y:V)(H:Hp)(Q:VK):Prop where
 | mk (i j:_) (_:x=.int i) (_:y=.int j) (_:Q (g i j) H):JL g x y H Q
inductive rU (g:Int→V)(x:V)(H:Hp)(Q:VK):Prop where
 | mk (i:_) (_:x=.int i) (_:Q (g i) H):rU g x H Q
section
variable {X:Cx}{a b c:Expr}{ta tb tc:TE}{pos:Pos}
theorem K2 (ha:PE X a ta)(hb:PE X b tb){pins:List (Addr×Obj)}{s:Shared}{σ:St}{H:Hp}{R:V→V→Hp→Prop}(I:Inv X pins σ H s)
  (h:ta σ H fun x H1=>tb σ H1 fun y H2=>R x y H2) {Q:Value→Shared→Prop} {f:Value→Value→Sem Value}
  (hf:∀v u s2 x y H2,Inv X pins σ H2 s2→RelV x v→RelV y u→R x y H2→wpAny (model X.prog X.w) X.A (f v u) Q X.xe s2):
  wpAny (model X.prog X.w) X.A (eval a X.env) (fun v s₁=>wpAny (model X.prog X.w) X.A (eval b X.env) (fun u s₂=>wpAny (model X.prog X.w) X.A (f v u) Q X.xe s₂) X.xe s₁) X.xe s:=by
 refine cu (ha pins s σ H _ I h) fun v s1 ⟨x,H1,I1,r1,q1⟩=> ?_
 refine cu (hb pins s1 σ H1 _ I1 q1) fun u s2 ⟨y,H2,I2,r2,q2⟩=> ?_
 exact hf v u s2 x y H2 I2 r1 r2 q2
theorem aI {op:Operator}{r:R2}(ho:jP X (binaryOp op) r)(ha:PE X a ta)(hb:PE X b tb):PE X (.BinOp a op b pos) (M1 r ta tb):=by
 intro pins s σ H Q I h
 exact wpAny_BinOp (K2 ha hb I h fun v u s2 x y H2 I2 rx ry q=>ho pins s2 σ H2 x y v u Q I2 rx ry q)
theorem JM {op:UnaryOp}{r:V→Hp→VK→Prop}(ho:VZ X (unaryOp op) r)(ha:PE X a ta):PE X (.UnaryOp op a pos) (tUn r ta):=by
 intro pins s σ H Q I h
 exact UnaryOp_ (cu (ha pins s σ H _ I h) fun v s1 ⟨x,H1,I1,r1,q1⟩=>ho pins s1 σ H1 x v Q I1 r1 q1)
theorem UW {f:Value→Value→Sem Value}{C:Int→Int→Prop}{g:Int→Int→Int}
  (rule:∀(i j:Int) (t u:Tok) (s:Shared) (Q:Value→Shared→Prop) (E:Value→Shared→Prop),C i j→Q (.int (g i j) s.toks) {s with toks:=s.toks+1}→wpAny (model X.prog X.w) X.A (f (.int i t) (.int j u)) Q E s):
  jP X f (rI C fun i j=>.int (g i j)):=by
 intro pins s σ H x y v u Q I rx ry h
 obtain ⟨i,j,rfl,rfl,hc,q⟩:=h
 obtain ⟨t,rfl⟩:=rx
 obtain ⟨t',rfl⟩:=ry
 exact rule i j t t' s _ _ hc ⟨.int (g i j),H,I.tok _,⟨_,rfl⟩,q⟩
theorem NV {f:Value→Value→Sem Value}{g:Int→Int→Int}
  (rule:∀(i j:Int) (t u:Tok) (s:Shared) (Q:Value→Shared→Prop) (E:Value→Shared→Prop),Q (.int (g i j) s.toks) {s with toks:=s.toks+1}→wpAny (model X.prog X.w) X.A (f (.int i t) (.int j u)) Q E s):
  jP X f (JL fun i j=>.int (g i j)):=by
 intro pins s σ H x y v u Q I rx ry h
 obtain ⟨i,j,rfl,rfl,q⟩:=h
 obtain ⟨t,rfl⟩:=rx
 obtain ⟨t',rfl⟩:=ry
 exact rule i j t t' s _ _ ⟨.int (g i j),H,I.tok _,⟨_,rfl⟩,q⟩
theorem K3 {f:Value→Value→Sem Value}{g:Int→Int→Bool}
  (rule:∀(i j:Int) (t u:Tok) (s:Shared) (Q:Value→Shared→Prop) (E:Value→Shared→Prop),Q (.bool (g i j)) s→wpAny (model X.prog X.w) X.A (f (.int i t) (.int j u)) Q E s):
  jP X f (JL fun i j=>.bl (g i j)):=by
 intro pins s σ H x y v u Q I rx ry h
 obtain ⟨i,j,rfl,rfl,q⟩:=h
 obtain ⟨t,rfl⟩:=rx
 obtain ⟨t',rfl⟩:=ry
 exact rule i j t t' s _ _ ⟨.bl (g i j),H,I,rfl,q⟩
theorem bU:jP X (binaryOp .Add) (JL fun i j=>.int (i+j)):=NV fun _ _ _ _ _ _ _ q=>add_int q
theorem cG:jP X (binaryOp .Sub) (JL fun i j=>.int (i - j)):=NV fun _ _ _ _ _ _ _ q=>sub_int q
theorem GL:jP X (binaryOp .Mod) (rI (fun _ j=>j≠0) fun i j=>.int (i.fmod j)):=UW fun _ _ _ _ _ _ _ hc q=>mod_int' hc q
theorem unI {f:Value→Sem Value}{g:Int→Int}
  (rule:∀(i:Int) (t:Tok) (s:Shared) (Q:Value→Shared→Prop) (E:Value→Shared→Prop),Q (.int (g i) s.toks) {s with toks:=s.toks+1}→wpAny (model X.prog X.w) X.A (f (.int i t)) Q E s):
  VZ X f (rU fun i=>.int (g i)):=by
 intro pins s σ H x v Q I rx h
 obtain ⟨i,rfl,q⟩:=h
 obtain ⟨t,rfl⟩:=rx
 exact rule i t s _ _ ⟨.int (g i),H,I.tok _,⟨_,rfl⟩,q⟩
theorem AV:VZ X (unaryOp .USub) (rU fun i=>.int (-i)):=unI fun _ _ _ _ _ q=>neg_int q
end
def NW:V→V→Bool
 | .cA,.cA=>true | .cA,.int _=>true | .int _,.cA=>true | .cA,.bl _=>true | .bl _,.cA=>true | .cA,.str _=>true | .str _,.cA=>true
 | .int _,.int _=>true | .bl _,.bl _=>true | .str _,.str _=>true | .byt _,.byt _=>true
 | .int _,.str _=>true | .str _,.int _=>true | .bl _,.str _=>true | .str _,.bl _=>true
 | _,_=>false
def rEq:R2:=fun x y H Q=>NW x y=true∧Q (.bl (decide (x=y))) H
def rNe:R2:=fun x y H Q=>NW x y=true∧Q (.bl (!decide (x=y))) H
theorem wD {i j:Int}:decide (V.int i=V.int j)=(i==j):=by
 rw [aeX]
 simp
theorem AW {i j:Bool}:decide (V.bl i=V.bl j)=(i==j):=by
 rw [aeX]
 simp
theorem wG {i j:Str}:decide (V.str i=V.str j)=(i==j):=by
 rw [aeX]
 simp
theorem wH {i j:Array UInt8}:decide (V.byt i=V.byt j)=(i.toList==j.toList):=by
 rw [aeX]
 cases i
 cases j
 simp
section
variable {X:Cx}{a b c:Expr}{ta tb tc:TE}{pos:Pos}
theorem bB {pins:List (Addr×Obj)}{σ:St}{H:Hp}{s:Shared}{Q:VK}{k k' :Bool}(I:Inv X pins σ H s)(q:Q (.bl k) H)(e:k=k'):EP X pins σ Q (.bool k') s:=by
 subst e
 exact ⟨.bl k,H,I,rfl,q⟩
theorem de:jP X (compareOp .Eq) rEq:=by
 intro pins s σ H x y v u Q I rx ry h
 obtain ⟨hs,q⟩:=h
 cases x with
 | cA=>
  cases rx
  cases y with
  | cA=>cases ry;exact PySem.EqNone.eq_none_none (bB I q (by simp))
  | bl j=>cases ry;exact PySem.EqNone.eq_none_bool (bB I q (by simp))
  | int j=>obtain ⟨t',rfl⟩:=ry;exact PySem.EqNone.eq_none_int (bB I q (by simp))
  | str j=>obtain ⟨t',rfl⟩:=ry;exact PySem.EqNone.eq_none_str (bB I q (by simp))
  | _=>exact absurd (show false=true from hs) adT
 | bl i=>
  cases rx
  cases y with
  | cA=>cases ry;exact PySem.EqNone.eq_bool_none (bB I q (by simp))
  | bl j=>cases ry;exact eq_bool (bB I q AW)
  | str j=>obtain ⟨t',rfl⟩:=ry;exact PySem.EqMixed.eq_bool_str (bB I q (by simp))
  | _=>exact absurd (show false=true from hs) adT
 | int i=>
  obtain ⟨t,rfl⟩:=rx
  cases y with
  | cA=>cases ry;exact PySem.EqNone.eq_int_none (bB I q (by simp))
  | int j=>obtain ⟨t',rfl⟩:=ry;exact eq_int (bB I q wD)
  | str j=>obtain ⟨t',rfl⟩:=ry;exact PySem.EqMixed.eq_int_str (bB I q (by simp))
  | _=>exact absurd (show false=true from hs) adT
 | str i=>
  obtain ⟨t,rfl⟩:=rx
  cases y with
  | cA=>cases ry;exact PySem.EqNone.eq_str_none (bB I q (by simp))
  | bl j=>cases ry;exact PySem.EqMixed.eq_str_bool (bB I q (by simp))
  | int j=>obtain ⟨t',rfl⟩:=ry;exact PySem.EqMixed.eq_str_int (bB I q (by simp))
  | str j=>obtain ⟨t',rfl⟩:=ry;exact eq_str (bB I q wG)
  | _=>exact absurd (show false=true from hs) adT
 | byt i=>
  obtain ⟨t,rfl⟩:=rx
  cases y with
  | byt j=>obtain ⟨t',rfl⟩:=ry;exact PySem.W.eq_bytes (bB I q wH)
  | _=>exact absurd (show false=true from hs) adT
 | _=>cases y <;> exact absurd (show false=true from hs) adT
theorem sf:jP X (compareOp .NotEq) rNe:=by
 intro pins s σ H x y v u Q I rx ry h
 obtain ⟨hs,q⟩:=h
 cases x with
 | cA=>
  cases rx
  cases y with
  | cA=>cases ry;exact PySem.EqNone.ne_none_none (bB I q (by simp))
  | bl j=>cases ry;exact PySem.EqNone.ne_none_bool (bB I q (by simp))
  | int j=>obtain ⟨t',rfl⟩:=ry;exact PySem.EqNone.ne_none_int (bB I q (by simp))
  | str j=>obtain ⟨t',rfl⟩:=ry;exact PySem.EqNone.ne_none_str (bB I q (by simp))
  | _=>exact absurd (show false=true from hs) adT
 | bl i=>
  cases rx
  cases y with
  | cA=>cases ry;exact PySem.EqNone.ne_bool_none (bB I q (by simp))
  | bl j=>cases ry;exact ne_bool (bB I q (congrArg not AW))
  | str j=>obtain ⟨t',rfl⟩:=ry;exact PySem.EqMixed.ne_bool_str (bB I q (by simp))
  | _=>exact absurd (show false=true from hs) adT
 | int i=>
  obtain ⟨t,rfl⟩:=rx
  cases y with
  | cA=>cases ry;exact PySem.EqNone.ne_int_none (bB I q (by simp))
  | int j=>obtain ⟨t',rfl⟩:=ry;exact ne_int (bB I q (congrArg not wD))
  | str j=>obtain ⟨t',rfl⟩:=ry;exact PySem.EqMixed.ne_int_str (bB I q (by simp))
  | _=>exact absurd (show false=true from hs) adT
 | str i=>
  obtain ⟨t,rfl⟩:=rx
  cases y with
  | cA=>cases ry;exact PySem.EqNone.ne_str_none (bB I q (by simp))
  | bl j=>cases ry;exact PySem.EqMixed.ne_str_bool (bB I q (by simp))
  | int j=>obtain ⟨t',rfl⟩:=ry;exact PySem.EqMixed.ne_str_int (bB I q (by simp))
  | str j=>obtain ⟨t',rfl⟩:=ry;exact ne_str (bB I q (congrArg not wG))
  | _=>exact absurd (show false=true from hs) adT
 | byt i=>
  obtain ⟨t,rfl⟩:=rx
  cases y with
  | byt j=>obtain ⟨t',rfl⟩:=ry;exact PySem.W.ne_bytes (bB I q (congrArg not wH))
  | _=>exact absurd (show false=true from hs) adT
 | _=>cases y <;> exact absurd (show false=true from hs) adT
theorem si:jP X (compareOp .Lt) (JL fun i j=>.bl (decide (i < j))):=K3 fun _ _ _ _ _ _ _ q=>lt_int q
theorem NX:jP X (compareOp .Gt) (JL fun i j=>.bl (decide (j < i))):=K3 fun _ _ _ _ _ _ _ q=>gt_int q
theorem JN:jP X (compareOp .GtE) (JL fun i j=>.bl (decide (j≤i))):=K3 fun _ _ _ _ _ _ _ q=>ge_int q
theorem AX:jP X (compareOp .Is) (fun x y H Q=>y=.cA∧Q (.bl (decide (x=.cA))) H):=by
 intro pins s σ H x y v u Q I rx ry h
 obtain ⟨rfl,q⟩:=h
 cases ry
 refine is_none_gen (bB I q ?_)
 cases x <;> first
  | (cases rx;rfl)
  | (obtain ⟨t,rfl⟩:=rx;rfl)
theorem GN:jP X (compareOp .IsNot) (fun x y H Q=>y=.cA∧Q (.bl (!decide (x=.cA))) H):=by
 intro pins s σ H x y v u Q I rx ry h
 obtain ⟨rfl,q⟩:=h
 cases ry
 refine isnot_none_gen (bB I q ?_)
 cases x <;> first
  | (cases rx;rfl)
  | (obtain ⟨t,rfl⟩:=rx;rfl)
theorem bu (b:Expr){op:CmpOp}(h:op≠.In:=by decide)(h2:op≠.NotIn:=by decide):behindInMarks op b=false:=by
 have e1:(op==CmpOp.In)=false:=by cases op <;> first | rfl | exact absurd rfl h
 have e2:(op==CmpOp.NotIn)=false:=by cases op <;> first | rfl | exact absurd rfl h2
 cases b <;> simp [behindInMarks,e1,e2]
theorem wI {op:CmpOp}{r:R2}(ho:jP X (compareOp op) r)(ha:PE X a ta)(hb:PE X b tb)(hm:behindInMarks op b=false):PE X (.Compare a [op] [b] pos) (M1 r ta tb):=by
 intro pins s σ H Q I h
 exact wpAny_Compare1 (K2 ha hb I h fun v u s2 x y H2 I2 rx ry q=>ho pins s2 σ H2 x y v u Q I2 rx ry q) hm
inductive AY (Q:(Bool→Hp→Prop))(x:V)(H' :Hp):Prop where
 | mk (k:_) (_:x=.bl k) (_:Q k H'):AY Q x H'
def NY (t:TE):TT:=fun σ H Q=>t σ H fun x H' =>AY Q x H'
theorem bf {op:CmpOp}{r:R2}(ho:jP X (compareOp op) r)(ha:PE X a ta)(hb:PE X b tb)(hm:behindInMarks op b=false):PT X (.Compare a [op] [b] pos) (NY (M1 r ta tb)):=by
 intro pins s σ H Q I h
 refine wpAny_isTrue_Compare1 (cu (ha pins s σ H _ I h) fun v s1 ⟨x,H1,I1,r1,q1⟩=>cu (hb pins s1 σ H1 _ I1 q1) fun u s2 ⟨y,H2,I2,r2,q2⟩=>
  cu (ho pins s2 σ H2 x y v u _ I2 r1 r2 q2) fun c s3 ⟨z,H3,I3,r3,k,e,q3⟩=> ?_) hm
 subst e
 cases r3
 exact wpAny_truthy_bool ⟨H3,I3,q3⟩
theorem my:(sizeLine:Nat) < 2^63:=by rw [sizeLine_eq];decide
theorem iw:jP X (binaryOp .Add) (fun x y H Q=>∃i j,x=.str i∧y=.str j∧i.length+j.length≤sizeLine∧Q (.str (i++j)) H):=by
 intro pins s σ H x y v u Q I rx ry h
 obtain ⟨i,j,rfl,rfl,hz,q⟩:=h
 obtain ⟨t,rfl⟩:=rx
 obtain ⟨t',rfl⟩:=ry
 exact add_str (fun t' tk=>⟨.str (i++j),H,I.tok _,⟨_,rfl⟩,q⟩) hz
theorem vals1 {x:V}{us:List Value}(r:Vals [x] us):∃u,us=[u]∧RelV x u:=by
 cases r with
 | cons r1 r2=>cases r2;exact ⟨_,rfl,r1⟩
theorem vals2 {x y:V}{us:List Value}(r:Vals [x,y] us):∃u w',us=[u,w']∧RelV x u∧RelV y w' :=by
 cases r with
 | cons r1 r2=>
  cases r2 with
  | cons r3 r4=>cases r4;exact ⟨_,_,rfl,r1,r3⟩
theorem sj:gH X (.builtin "abs") (fun xs H Q=>∃i,xs=[.int i]∧Q (.int (if i < 0 then -i else i)) H):=by
 intro pins s σ H xs us Q I r h
 obtain ⟨i,rfl,q⟩:=h
 obtain ⟨u,rfl,t,rfl⟩:=vals1 r
 exact call_abs_int fun u tk=>⟨.int (if i < 0 then -i else i),H,I.tok _,⟨_,rfl⟩,q⟩
theorem xQ (hc:X.calm=true):gH X (.builtin "min") (fun xs H Q=>∃i j,xs=[.int i,.int j]∧Q (.int (if j < i then j else i)) H):=by
 intro pins s σ H xs us Q I r h
 obtain ⟨i,j,rfl,q⟩:=h
 obtain ⟨u,w',rfl,⟨t,rfl⟩,⟨t',rfl⟩⟩:=vals2 r
 refine min_two_ints (I.ok.hd hc) fun h' tk k=>⟨_,H,I.kept k,?_,q⟩
 by_cases hj:j < i
 ·rw [if_pos hj,if_pos hj];exact ⟨_,rfl⟩
 ·rw [if_neg hj,if_neg hj];exact ⟨_,rfl⟩
theorem qi:gH X (.type "str") (fun xs H Q=>∃i,xs=[.int i]∧i.natAbs.log2 < 1920∧Q (.str (toString i)) H):=by
 intro pins s σ H xs us Q I r h
 obtain ⟨i,rfl,hz,q⟩:=h
 obtain ⟨u,rfl,t,rfl⟩:=vals1 r
 exact PySem.P.str_of_int hz ⟨.str _,H,I.tok _,⟨_,rfl⟩,q⟩
end
end L2
namespace L2
open PySem PySem.Spec PyProof.Rows
structure uW (h:Heap)(x dx C:Addr)(mA:Str→Option Value):Prop where
 obj:h.get? x=some (PySem.W.instObj C dx)
 ns:h.Ns1 dx mA
 ne:dx≠x
theorem xR {h:Heap}{dx:Addr}{mA:Str→Option Value}(n:h.Ns1 dx mA):∃od,h.get? dx=some od∧∀name,PySem.W.lookIn name od=some (mA name):=by
 obtain ⟨o,es,ep,ho,hd,hk,_,hm⟩:=n
 refine ⟨o,ho,fun name=> ?_⟩
 have e:=hm name
 unfold nsFind findBy at e
 rw [← Array.find?_toList] at e
 unfold PySem.W.lookIn
 rw [hd]
 dsimp only
 split
 ·rename_i y q
  rw [q] at e
  exact congrArg some e
 ·rename_i q
  rw [q] at e
  have a:es.toList.any (·.refKey)=false:=by
   rw [List.any_eq_false]
   intro y hy
   obtain ⟨z,t,AZ⟩:=hk y (Array.mem_toList_iff.mp hy)
   simp [DictEntry.refKey,AZ]
  have a' :¬ es.toList.any (·.refKey)=true:=by rw [a];exact adT
  rw [if_neg a']
  exact congrArg some e
theorem uW.look {h:Heap}{x dx C:Addr}{mA:Str→Option Value}(I:uW h x dx C mA):∃od,PySem.W.InstAt h x (PySem.W.instObj C dx) C (some od)∧∀name,PySem.W.lookIn name od=some (mA name):=
 let ⟨od,ho,hl⟩:=xR I.ns
 ⟨od,⟨I.obj,rfl,rfl,ho⟩,hl⟩
section
variable {prog:Program}{w:World}{A:Around}{E:Value→Shared→Prop}{s:Shared}{K:Frag}{x dx C f:Addr}{mA:Str→Option Value}{name:Str}{v:Value}
theorem get_map {expr:Bool}{Q:Value→Shared→Prop}(X:K.In s.heap)(I:uW s.heap x dx C mA)(hg:PySem.W.plainGet K C name=true)(hh:PySem.W.hasDictIn K C=true)
  (ha:PySem.W.findIn K (.ref C) name=some none) (hv:mA name=some v) (UX :PySem.W.handedIn v=true) (h:Q v {s with toks:=s.toks+1}):
  wpAny (model prog w) A (getAttr (.ref x) name expr) Q E s:=by
 obtain ⟨od,J,hl⟩:=I.look
 exact PySem.W.get_value X J (PySem.W.plainGet_of hg).1 (PySem.W.findObj_own hh ha rfl (by rw [hl,hv])) UX h
theorem A_ {pl:Sem Bool}{Q:Value×List Value→Shared→Prop}(X:K.In s.heap)(I:uW s.heap x dx C mA)(hg:PySem.W.plainGet K C name=true)
  (hf:PySem.W.findIn K (.ref C) name=some (some (.ref f))) (ht:PySem.W.isFn K (.ref f)=true) (hv:mA name=none) (h:Q (.ref f,[.ref x]) s):
  wpAny (model prog w) A (getMethod (.ref x) name pl) Q E s:=by
 obtain ⟨od,J,hl⟩:=I.look
 exact PySem.W.method_fn X J (PySem.W.plainGet_of hg).1 (PySem.W.plainGet_of hg).2 hf (beq_iff_eq.mp ht) (by show (PySem.W.lookIn name od).map (·.isSome)=some false;rw [hl,hv];rfl) h
theorem GO {ns:List Str}{Q:Unit→Shared→Prop}(X:K.In s.heap)(I:uW s.heap x dx C mA)
  (hs:PySem.W.findIn K (.ref C) "__setattr__"=some (some (.builtin "object.__setattr__"))) (hp:PySem.W.plainOver K C=true) (ht:PySem.W.takerIn K C name=some none) (hh:PySem.W.hasDictIn K C=true)
  (hw:PySem.Within mA ns) (hsz:ns.length≤sizeLine)
  (h:∀h',uW h' x dx C (fun y=>if y=name then some v else mA y)→Heap.SameBut dx s.heap h' →Q () {s with heap:=h',toks:=s.toks+2}):
  wpAny (model prog w) A (setAttr (.ref x) name v) Q E s:=by
 obtain ⟨od,J,hl⟩:=I.look
 refine PySem.W.set_plain X J hs (PySem.W.osa_open (s:={s with toks:=s.toks+1}) (r:=none) X J hp ht fun b=> ?_)
 obtain ⟨cd,hc,JD⟩:=PySem.W.any_some hh
 have hx:s.heap.get? x=some ⟨.ref C,some dx,.plain, #[]⟩:=I.obj
 refine wpAny_bind (wpAny_pure (wpAny_bind (wpAny_bind (wpAny_loadPart hx (wpAny_bind (PySem.W.Looks.here (s:={s with toks:=s.toks+1}) (PySem.W.looks_clsIn X hc) ?_))))))
 rw [JD]
 refine wpAny_pure (a:=some dx) (wpAny_bind (wpAny_pure (wpAny_bind ?_)))
 refine wpAny_nsSet1 (s:={s with toks:=s.toks+1}) I.ns fun h' M3 FE=> ?_
 obtain ⟨oD,esD,epD,hoD,hdD,hcD⟩:=M3.count (PySem.Within.cons name v hw)
 refine wpAny_bind (wpAny_lookBehind hoD (by rw [hdD];exact pastItsLine_dict (adF hcD (by rw [ad4];omega))) ?_)
 exact wpAny_pure (h _ ⟨(FE.2 _ (ad7 I.ne)).trans I.obj,M3,I.ne⟩ FE)
theorem BA {R:Result→Shared→Prop}{vs:List Value}{kw:List (Str×Value)}(X:K.In s.heap)(hm:PySem.W.makesIn K C=true)
  (hi:PySem.W.findIn K (.ref C) "__init__"=some (some (.ref f))) (hf:PySem.W.typeIn K (.ref f)=some (.type "function"))
  (h:codeAny (model prog w) (A.under (.builtin "type.__call__" ⟨.ref C::vs,kw⟩)) (.call (.ref f) ⟨.ref (s.heap.objs.size+1)::vs,kw⟩) (PySem.W.InitBack (s.heap.objs.size+1) R)
   {s with heap:=(s.heap.push PySem.W.emptyDict).push (PySem.W.instObj C s.heap.objs.size)}):
  codeAny (model prog w) A (.call (.ref C) ⟨vs,kw⟩) R s:=by
 obtain ⟨hh,g,d,t,os⟩:=s
 exact PySem.W.make_core (PySem.W.makes_of X hm) (PySem.W.looks_findIn X hi) (fun self=>PySem.W.bind_fn X self hf) (.inl rfl) h
theorem xS {R:Result→Shared→Prop}(X:K.In s.heap)(hm:PySem.W.makesIn K C=true)
  (hi:PySem.W.findIn K (.ref C) "__init__"=some (some (.builtin "object.__init__")))
  (hb:∀self,PySem.W.Looks (model prog w) s.heap (bindSpecial (.builtin "object.__init__") self) (.builtin "object.__init__",[self]))
  (h:codeAny (model prog w) (A.under (.builtin "type.__call__" ⟨[.ref C],[]⟩)) (.call (.builtin "object.__init__") ⟨[.ref (s.heap.objs.size+1)],[]⟩) (PySem.W.InitBack (s.heap.objs.size+1) R)
   {s with heap:=(s.heap.push PySem.W.emptyDict).push (PySem.W.instObj C s.heap.objs.size)}):
  codeAny (model prog w) A (.call (.ref C) ⟨[],[]⟩) R s:=by
 obtain ⟨hh,g,d,t,os⟩:=s
 exact PySem.W.make_core (PySem.W.makes_of X hm) (PySem.W.looks_findIn X hi) hb (.inr ⟨rfl,rfl⟩) h
end
def df (f:Str)(v:V):List (Str×V)→List (Str×V)
 | []=>[(f,v)]
 | (g,x)::r=>if g=f then (g,v)::r else (g,x)::df f v r
theorem kj (f g:Str)(v:V):∀fs:List (Str×V),(df f v fs).lookup g=if g=f then some v else fs.lookup g
 | []=>by
  show aeN g [(f,v)]=_
  by_cases h:g=f
  ·have hb:(g==f)=true:=beq_iff_eq.mpr h
   simp only [aeN,hb,if_pos h]
  ·have hb:(g==f)=false:=beq_eq_false_iff_ne.mpr h
   simp only [aeN,hb,if_neg h]
 | (k,x)::r=>by
  have ih:=kj f g v r
  rw [show df f v ((k,x)::r)=(if k=f then (k,v)::r else (k,x)::df f v r) from rfl]
  by_cases hk:k=f
  ·rw [if_pos hk]
   by_cases h:g=k
   ·have hb:(g==k)=true:=beq_iff_eq.mpr h
    simp only [aeN,hb,if_pos (h.trans hk)]
   ·have hb:(g==k)=false:=beq_eq_false_iff_ne.mpr h
    simp only [aeN,hb,if_neg (fun e:g=f=>h (e.trans hk.symm))]
  ·rw [if_neg hk]
   by_cases h:g=k
   ·have hb:(g==k)=true:=beq_iff_eq.mpr h
    simp only [aeN,hb,if_neg (fun e:g=f=>hk (h.symm.trans e))]
   ·have hb:(g==k)=false:=beq_eq_false_iff_ne.mpr h
    simp only [aeN,hb]
    exact ih
theorem jV (f:Str)(v:V):∀fs:List (Str×V),f∈(df f v fs).map (·.1)∧∀g,g∈fs.map (·.1)→g∈(df f v fs).map (·.1)
 | []=>⟨by simp [df],fun g h=>by simp at h⟩
 | (k,x)::r=>by
  obtain ⟨i1,i2⟩:=jV f v r
  rw [show df f v ((k,x)::r)=(if k=f then (k,v)::r else (k,x)::df f v r) from rfl]
  by_cases hk:k=f
  ·rw [if_pos hk]
   subst hk
   exact ⟨by simp,fun g h=>by simpa using h⟩
  ·rw [if_neg hk]
   refine ⟨?_,fun g h=> ?_⟩
   ·rw [ac_]
    exact adE _ i1
   ·rw [ac_] at h ⊢
    rcases adY.mp h with e | e
    ·exact adY.mpr (.inl e)
    ·exact adE _ (i2 g e)
theorem kq (f:Str)(v:V):∀fs:List (Str×V),(df f v fs).length≤fs.length+1
 | []=>by simp [df]
 | (k,x)::r=>by
  have ih:=kq f v r
  rw [show df f v ((k,x)::r)=(if k=f then (k,v)::r else (k,x)::df f v r) from rfl]
  by_cases hk:k=f
  ·rw [if_pos hk,ad4,ad4];omega
  ·rw [if_neg hk,ad4,ad4];omega
theorem gA.some_of {v:V}{o:Option Value}(r:gA (some v) o):∃u,o=some u∧RelV v u:=by
 cases o with
 | none=>exact (show False from r).elim
 | some u=>exact ⟨u,rfl,r⟩
theorem gA.none_of {o:Option Value}(r:gA none o):o=none:=by
 cases o with
 | none=>rfl
 | some u=>exact (show False from r).elim
theorem xT {v:V}{u:Value}(r:RelV v u):PySem.W.handedIn u=true:=by
 cases v with
 | cA=>cases (show u=Value.none from r);rfl
 | bl b=>cases (show u=Value.bool b from r);rfl
 | int i=>obtain ⟨t,e⟩:=(show ∃t,u=Value.int i t from r);cases e;rfl
 | str x=>obtain ⟨t,e⟩:=(show ∃t,u=Value.str x t from r);cases e;rfl
 | byt b=>obtain ⟨t,e⟩:=(show ∃t,u=Value.bytes b t from r);cases e;rfl
 | KI b=>obtain ⟨t,e⟩:=(show ∃t,u=Value.float b t from r);cases e;rfl
 | ref a=>cases (show u=Value.ref a from r);rfl
 | ty n=>cases (show u=Value.type n from r);rfl
section
variable {P:Program}{w:World}{H H' :Hp}{h h' :Heap}{a C dx:Addr}{fs fs' :List (Str×V)}
theorem lK (bJ:ig P w H h)(e:H a=some (.ins C dx fs)):∃mA,uW h a dx C mA∧(∀f,gA (fs.lookup f) (mA f))∧PySem.Within mA (fs.map (·.1))∧fs.length≤1000∧H dx=some (.own a):=by
 obtain ⟨d,z,ne,ob,mA,n,r,q⟩:=(show cy P w H h a (.ins C dx fs) from bJ a _ e)
 exact ⟨mA,⟨ob,n,ne⟩,r,q,z,d⟩
end
structure sk (K:Frag)(C:Addr):Prop where
 pg:PySem.W.plainGet K C Str.empty=true
 hd:PySem.W.hasDictIn K C=true
 po:PySem.W.plainOver K C=true
 sa:PySem.W.findIn K (.ref C) "__setattr__"=some (some (.builtin "object.__setattr__"))
theorem sk.get {K:Frag}{C:Addr}(c:sk K C)(f:Str):PySem.W.plainGet K C f=true:=c.pg
def ef (K:Frag)(C:Addr)(f:Str):Prop:=PySem.W.findIn K (.ref C) f=some none
theorem ef.NZ {K:Frag}{C:Addr}{f:Str}(n:ef K C f):PySem.W.takerIn K C f=some none:=by
 unfold PySem.W.takerIn
 rw [show PySem.W.findIn K (.ref C) f=some none from n]
 rfl
structure Meth (K:Frag)(C:Addr)(m:Str)(f:Addr):Prop where
 at_:PySem.W.findIn K (.ref C) m=some (some (.ref f))
 fn:PySem.W.isFn K (.ref f)=true
 kp:keepIn K (.ref f)=true
section
variable {X:Cx}{pins:List (Addr×Obj)}{σ:St}{H:Hp}{s:Shared}{a C dx:Addr}{fs:List (Str×V)}{f:Str}{v:V}{A:Around}{E:Value→Shared→Prop}
theorem uX {b:Bool}{Q:Value→Shared→Prop}(I:Inv X pins σ H s)(e:H a=some (.ins C dx fs))(c:sk X.K C)(n:ef X.K C f)(l:fs.lookup f=some v)
  (h:∀u s',Inv X pins σ H s' →RelV v u→Q u s'):wpAny (model X.prog X.w) A (getAttr (.ref a) f b) Q E s:=by
 obtain ⟨mA,O,r,_,_,_⟩:=lK I.bJ e
 obtain ⟨u,hu,ru⟩:=gA.some_of (v:=v) (o:=mA f) (by rw [← l];exact r f)
 exact get_map I.iV O (c.get f) c.hd n hu (xT ru) (h u _ (I.tok _) ru)
theorem ix {m:Str}{g:Addr}{pl:Sem Bool}{Q:Value×List Value→Shared→Prop}(I:Inv X pins σ H s)(e:H a=some (.ins C dx fs))(c:sk X.K C)(k:Meth X.K C m g)(l:fs.lookup m=none)
  (h:Q (.ref g,[.ref a]) s):wpAny (model X.prog X.w) A (getMethod (.ref a) m pl) Q E s:=by
 obtain ⟨mA,O,r,_,_,_⟩:=lK I.bJ e
 have hn:mA m=none:=gA.none_of (by rw [← l];exact r m)
 exact A_ I.iV O (c.get m) k.at_ k.fn hn h
theorem uY {y:V}{u:Value}{Q:Unit→Shared→Prop}(I:Inv X pins σ H s)(e:H a=some (.ins C dx fs))(c:sk X.K C)(n:ef X.K C f)(hl:fs.length < 1000)(ry:RelV y u)
  (h:∀s',Inv X pins σ (upd H a (.ins C dx (df f y fs))) s' →Q () s'):wpAny (model X.prog X.w) A (setAttr (.ref a) f u) Q E s:=by
 obtain ⟨mA,O,r,wi,_,ho⟩:=lK I.bJ e
 have hz:(fs.map (·.1)).length≤sizeLine:=by rw [Wp,sizeLine_eq];omega
 refine GO I.iV O c.sa c.po n.NZ c.hd wi hz fun h' O' sb=>h _ ?_
 have hd:∃o,h'.get? dx=some o:=let ⟨o,_,_,e',_⟩:=O'.ns;⟨o,e'⟩
 refine I.write (x:=a) (e:=dx) (by rw [e];exact True.intro) (.inr ho) (fun b q hb z=>(sb.2 b hb).trans z) hd ?_
 refine ⟨by rw [ao O.ne];exact ho,?_,O.ne,O'.obj,_,O'.ns,fun g=> ?_,fun g hg=> ?_⟩
 ·have:=kq f y fs;omega
 ·show gA ((df f y fs).lookup g) (if g=f then some u else mA g)
  rw [kj]
  by_cases q:g=f
  ·rw [if_pos q,if_pos q];exact ry
  ·rw [if_neg q,if_neg q];exact r g
 ·by_cases q:g=f
  ·rw [q];exact (jV f y fs).1
  ·refine (jV f y fs).2 g (wi g fun z=>hg ?_)
   show (if g=f then some u else mA g)=none
   rw [if_neg q];exact z
theorem Inv.made (I:Inv X pins σ H s):Inv X pins σ (upd (upd H s.heap.objs.size (.own (s.heap.objs.size+1))) (s.heap.objs.size+1) (.ins C s.heap.objs.size []))
  {s with heap:=(s.heap.push PySem.W.emptyDict).push (PySem.W.instObj C s.heap.objs.size)}:=by
 have e1:(s.heap.push PySem.W.emptyDict).get? s.heap.objs.size=some PySem.W.emptyDict:=Heap.get?_push_size s.heap rfl
 have e2:((s.heap.push PySem.W.emptyDict).push (PySem.W.instObj C s.heap.objs.size)).get? (s.heap.objs.size+1)=some (PySem.W.instObj C s.heap.objs.size):=by
  have:=Heap.get?_push_size (s.heap.push PySem.W.emptyDict) (o:=PySem.W.instObj C s.heap.objs.size) rfl
  rwa [Heap.size_push] at this
 have e3:(s.heap.push PySem.W.emptyDict).Ns s.heap.objs.size (fun _=>none):=⟨PySem.W.emptyDict, #[],_,e1,rfl,(fun e he=>absurd he (by simp)),fun _=>rfl⟩
 have I1:=I.laid (a:=s.heap.objs.size) (o:=.own (s.heap.objs.size+1)) (h' :=s.heap.push PySem.W.emptyDict) (t' :=s.toks) (fun b u q=>Heap.get?_push_of_some _ q) (adL _) ⟨_,e1⟩
 refine I1.laid (a:=s.heap.objs.size+1) (o:=.ins C s.heap.objs.size []) (t' :=s.toks) (fun b u q=>Heap.get?_push_of_some _ q) (am_ (Heap.size_push _ _)) ?_
 have ne:s.heap.objs.size≠s.heap.objs.size+1:=ad5 (aef _)
 refine ⟨by rw [ao ne,ah],aeg _,ne,e2,fun _=>none,(Heap.Ns1.of_empty e3).at fun o q=>Heap.get?_push_of_some _ q,fun _=>True.intro,fun y hy=>absurd rfl hy⟩
theorem GP {prog:Program}{w:World}{env:Env}{e:Expr}{f:Str}{pos:Pos}{s:Shared}{Q:Value→Shared→Prop}(hb:attributeBase e f env (eval e env)=eval e env)
  (h:wpAny (model prog w) A (eval e env) (fun o s₁=>wpAny (model prog w) A (getAttr o f true) Q E s₁) E s):wpAny (model prog w) A (eval (.Attribute e f pos) env) Q E s:=
 Attribute_any_ h (by rw [arm_eval_Attribute,hb])
end
inductive JO (K:Frag)(f:Str)(Q:VK)(x:V)(H1:Hp):Prop where
 | mk (a C dx fs v:_) (_:x=.ref a) (_:H1 a=some (.ins C dx fs)) (_:sk K C) (_:ef K C f) (_:fs.lookup f=some v) (_:Q v H1):JO K f Q x H1
def V0 (K:Frag)(ta:TE)(f:Str):TE:=fun σ H Q=>ta σ H fun x H1=>JO K f Q x H1
inductive JP (K:Frag)(f:Str)(D:Ends)(σ:St)(y:V)(x:V)(H2:Hp):Prop where
 | mk (a C dx fs:_) (_:x=.ref a) (_:H2 a=some (.ins C dx fs)) (_:sk K C) (_:ef K C f) (_:fs.length < 1000) (_:D.nx σ (upd H2 a (.ins C dx (df f y fs)))):JP K f D σ y x H2
def V1 (K:Frag)(ta tv:TE)(f:Str):TS:=fun D σ H=>tv σ H fun y H1=>ta σ H1 fun x H2=>JP K f D σ y x H2
section
variable {X:Cx}{o e value:Expr}{f:Str}{pos pos' qj:Pos}{ta tv:TE}
theorem cP (he:PE X e ta)(hb:attributeBase e f X.env (eval e X.env)=eval e X.env):PE X (.Attribute e f pos) (V0 X.K ta f):=by
 intro pins s σ H Q I h
 refine GP hb (cu (he pins s σ H _ I h) fun u s1 ⟨x,H1,I1,rx,a,C,dx,fs,v,ex,ea,c,n,l,q⟩=> ?_)
 subst ex
 obtain rfl:u=Value.ref a:=rx
 exact uX I1 ea c n l fun u' s2 I2 ru=>⟨v,H1,I2,ru,q⟩
theorem qk (ha:PE X o ta)(hv:PE X value tv)(hs:swapsWith value (some (.Attribute o f pos')) pos.line X.env=pure false):PS X (.Assign [.Attribute o f pos'] value pos) (V1 X.K ta tv f):=by
 intro pins s σ H D I h
 refine plainObj_wpAny_Assign_Attribute (cu (hv pins s σ H _ I h) fun u s1 ⟨y,H1,I1,ry,q⟩=>cu (ha pins s1 σ H1 _ I1 q) fun ov s2 ⟨x,H2,I2,rx,a,C,dx,fs,ex,ea,c,n,l,q2⟩=> ?_) hs
 subst ex
 obtain rfl:ov=Value.ref a:=rx
 exact uY I2 ea c n l ry fun s3 I3=>⟨σ,_,I3,q2⟩
end
section
variable {X:Cx}{pins:List (Addr×Obj)}{σ:St}{H:Hp}{s:Shared}{A:Around}{E:Value→Shared→Prop}{Q:Value→Shared→Prop}{c:Value}{b:Bool}
inductive jW (K:Frag)(H:Hp):V→Value→Prop where
 | cA:jW K H .cA (.type "NoneType")
 | bl (x:Bool):jW K H (.bl x) (.type "bool")
 | int (i:Int):jW K H (.int i) (.type "int")
 | str (x:Str):jW K H (.str x) (.type "str")
 | KI (x:UInt64):jW K H (.KI x) (.type "float")
 | lst {a:Addr} {xs:List V} (e:H a=some (.lst xs)):jW K H (.ref a) (.type "list")
 | du {a:Addr} {o:Obj} {xs:List V} (e:H a=some (.du o (.lst xs))):jW K H (.ref a) (.type "list")
 | tup {a:Addr} {xs:List V} (e:H a=some (.tup xs)):jW K H (.ref a) (.type "tuple")
 | dK {a:Addr} {kvs:List (Key×V)} (e:H a=some (.dK kvs)):jW K H (.ref a) (.type "dict")
 | dT {a:Addr} {kvs:List (List Key×V)} (e:H a=some (.dT kvs)):jW K H (.ref a) (.type "dict")
 | ins {a C dx:Addr} {fs:List (Str×V)} (e:H a=some (.ins C dx fs)) (cl:sk K C) (ha:PySem.W.findIn K (.ref C) "__class__"=some (some (.builtin "object.__class__")))
   (hn:PySem.W.specialIn K (.builtin "object.__class__") "__get__"=some (some (.builtin "getset_descriptor.__get__"))) (htk:PySem.W.takesIn K (.builtin "object.__class__")=some true)
   (hm:PySem.W.mroIn K C (.type "object")=some true):jW K H (.ref a) (.ref C)
theorem xU {x:V}{u t:Value}(I:Inv X pins σ H s)(rx:RelV x u)(ty:jW X.K H x t)(e:PySem.W.kitOne X.K t c=some b)(h:∀tk,Q (.bool b) {s with toks:=tk}):
  wpAny (model X.prog X.w) A (call (.builtin "isinstance") [u,c]) Q E s:=by
 cases ty with
 | cA=>cases (show u=Value.none from rx);exact PySem.W.kia_one PySem.W.kitx_none I.iV True.intro e (fun z=>nomatch z) h
 | bl y=>cases (show u=Value.bool y from rx);exact PySem.W.kia_one PySem.W.kitx_bool I.iV True.intro e (fun z=>nomatch z) h
 | int i=>obtain ⟨t,q⟩:=(show ∃t,u=Value.int i t from rx);cases q;exact PySem.W.kia_one PySem.W.kitx_int I.iV True.intro e (fun z=>nomatch z) h
 | str y=>obtain ⟨t,q⟩:=(show ∃t,u=Value.str y t from rx);cases q;exact PySem.W.kia_one PySem.W.kitx_str I.iV True.intro e (fun z=>nomatch z) h
 | KI y=>obtain ⟨t,q⟩:=(show ∃t,u=Value.float y t from rx);cases q;exact PySem.W.kia_one PySem.W.kitx_float I.iV True.intro e (fun z=>nomatch z) h
 | @lst a xs ea=>
  cases (show u=Value.ref a from rx)
  obtain ⟨_,_,n,_,h1⟩:=(show cy X.prog X.w H s.heap a (.lst xs) from I.bJ a _ ea)
  exact PySem.W.kia_one PySem.W.kitx_list I.iV ⟨_,h1,rfl⟩ e (fun z=>nomatch z) h
 | @du a ob xs ea=>
  cases (show u=Value.ref a from rx)
  obtain ⟨_,_,_,n,_,h1⟩:=(show cy X.prog X.w H s.heap a (.du ob (.lst xs)) from I.bJ a _ ea)
  exact PySem.W.kia_one PySem.W.kitx_list I.iV ⟨_,h1,rfl⟩ e (fun z=>nomatch z) h
 | @tup a xs ea=>
  cases (show u=Value.ref a from rx)
  obtain ⟨_,_,_,p⟩:=(show cy X.prog X.w H s.heap a (.tup xs) from I.bJ a _ ea)
  obtain ⟨o,h1,h2,_⟩:=p
  exact PySem.W.kia_one PySem.W.kitx_tuple I.iV ⟨o,h1,h2⟩ e (fun z=>nomatch z) h
 | @dK a kvs ea=>
  cases (show u=Value.ref a from rx)
  obtain ⟨_,_,vs,_,p⟩:=(show cy X.prog X.w H s.heap a (.dK kvs) from I.bJ a _ ea)
  obtain ⟨o,es,ep,h1,h2,_⟩:=p
  exact PySem.W.kia_one PySem.W.kitx_dict I.iV ⟨o,h1,h2.1⟩ e (fun z=>nomatch z) h
 | @dT a kvs ea=>
  cases (show u=Value.ref a from rx)
  obtain ⟨_,_,xs,_,o,es,ep,h1,h2,_⟩:=(show cy X.prog X.w H s.heap a (.dT kvs) from I.bJ a _ ea)
  exact PySem.W.kia_one PySem.W.kitx_dict I.iV ⟨o,h1,h2.1⟩ e (fun z=>nomatch z) h
 | @ins a C dx fs ea cl ha hn htk hm=>
  cases (show u=Value.ref a from rx)
  obtain ⟨mA,O,_⟩:=lK I.bJ ea
  obtain ⟨od,J,_⟩:=O.look
  exact PySem.W.kia_one (PySem.W.kitx_own (cl.get _) cl.hd ha hn htk hm) I.iV J e (fun z=>nomatch z) h
end
end L2
namespace L2
open PySem PySem.Spec PyProof.Rows
structure cv (k:Nat)(A:Around):Prop where
 hd:A.handled=none
 dp:A.depth+3*k+5 < recursionLimit
 un:A.units+16*k+200 < cLine
theorem cv.mono {j k:Nat}{A:Around}(r:cv k A)(h:j≤k):cv j A:=⟨r.hd,by have:=r.dp;omega,by have:=r.un;omega⟩
theorem cv.deeper {k:Nat}{A:Around}(r:cv (k+1) A)(env:Env):cv k (A.deeper env):=
 ⟨r.hd,by have:=r.dp;show A.depth+1+3*k+5 < _;omega,by have:=r.un;show A.units+3+16*k+200 < _;omega⟩
theorem uZ {A:Around}{C:Addr}{us:List Value}{kw:List (Str×Value)}:(A.under (.builtin "type.__call__" ⟨.ref C::us,kw⟩)).depth=A.depth+1:=by
 first | rfl | simp [Around.under,Code.weight,Code.isCreation,Code.isGuard,Code.isCaller,Code.frames,Code.isFrame,guardIds]
theorem u0 {A:Around}{C:Addr}{us:List Value}{kw:List (Str×Value)}:(A.under (.builtin "type.__call__" ⟨.ref C::us,kw⟩)).units=A.units+1:=by
 first | rfl | simp [Around.under,Code.cUnits,Code.frames,Code.isFrame]
theorem cv.make {k:Nat}{A:Around}(r:cv (k+1) A)(C:Addr)(us:List Value)(kw:List (Str×Value)):cv k (A.under (.builtin "type.__call__" ⟨.ref C::us,kw⟩)):=
 ⟨r.hd,by have:=r.dp;rw [uZ];omega,by have:=r.un;rw [u0];omega⟩
theorem cv.depth {k:Nat}{A:Around}(r:cv k A):A.depth < recursionLimit:=by have:=r.dp;omega
theorem cv.units {k:Nat}{A:Around}(r:cv k A):A.units+64 < cLine:=by have:=r.un;omega
def i5:TA:=fun _ H Q=>Q [] H
def JQ (ta:TE)(tr:TA):TA:=fun σ H Q=>ta σ H fun x H1=>tr σ H1 fun xs H2=>Q (x::xs) H2
section
variable {X:Cx}{e:Expr}{es:List Expr}{te:TE}{t:TA}{pos:Pos}
theorem aa:PA X [] i5:=fun _ _ _ _ H Q I h=>Calls.spliced_nil ⟨[],H,I,.nil,h⟩
theorem GQ (ha:PE X e te)(hr:PA X es t)(hs:starEach (e::es) X.env=(false,eval e X.env)::starEach es X.env:=by rfl):PA X (e::es) (JQ te t):=by
 intro pos pins s σ H Q I h
 rw [hs]
 show wpAny _ _ (spliced ((false,eval e X.env)::backTo pos (starEach es X.env))) _ _ s
 refine Calls.spliced_cons (cu (ha pins s σ H _ I h) fun u s1 ⟨x,H1,I1,r1,q1⟩=> ?_)
 exact cu (hr pos pins s1 σ H1 _ I1 q1) fun us s2 ⟨xs,H2,I2,r2,q2⟩=>⟨x::xs,H2,I2,.cons r1 r2,q2⟩
def V2 (t:TA):TE:=fun σ H Q=>t σ H fun xs H1=>xs.length≤sizeLine∧∀p,H1 p=none→Q (.ref p) (upd H1 p (.tup xs))
def V3 (t:TA):TE:=fun σ H Q=>t σ H fun xs H1=>xs.length≤sizeLine∧∀p,H1 p=none→Q (.ref p) (upd H1 p (.lst xs))
theorem aZ {x1}(h:PA X es t):PE X (.Tuple es x1 pos) (V2 t):=by
 intro pins s σ H Q I hq
 refine wpAny_Tuple_spliced (cu (h pos pins s σ H _ I hq) fun us s1 ⟨xs,H1,I1,r,z,q⟩=>⟨by rw [← r.length];exact z,?_⟩)
 have hf:H1 s1.heap.objs.size=none:=I1.bJ.fresh (adL _)
 refine ⟨.ref s1.heap.objs.size,upd H1 s1.heap.objs.size (.tup xs),I1.laid (t' :=s1.toks) (fun b u e=>Heap.get?_push_of_some _ e) (adL _) ?_,rfl,q _ hf⟩
 exact ⟨z,us,r,⟨_,Heap.get?_push_size _ rfl,rfl,_,rfl⟩⟩
theorem bO (h:PA X es t):PE X (.List es pos) (V3 t):=by
 intro pins s σ H Q I hq
 refine wpAny_List_spliced (cu (h pos pins s σ H _ I hq) fun us s1 ⟨xs,H1,I1,r,z,q⟩=>⟨by rw [← r.length];exact z,?_⟩)
 have hf:H1 s1.heap.objs.size=none:=I1.bJ.fresh (adL _)
 refine ⟨.ref s1.heap.objs.size,upd H1 s1.heap.objs.size (.lst xs),I1.laid (t' :=s1.toks) (fun b u e=>Heap.get?_push_of_some _ e) (adL _) ?_,rfl,q _ hf⟩
 exact ⟨z,us,0,r,Heap.get?_push_size _ rfl⟩
end
abbrev Sp:=List V→Hp→VK→XK→Prop
abbrev jQ:=List Env→Hp→Shared→XK→Value→Shared→Prop
structure u3 (P:Program)(w:World)(K:Frag)(mg:Str→Option Value)(base:Heap)(A:Around)(outer:List Env)(s:Shared)(H:Hp):Prop where
 frames:A.frames=some outer
 mod:Mod K mg base
 bs:∀b o,base.get? b=some o→s.heap.get? b=some o∧H b=none
 GG:base.objs.size≤s.heap.objs.size
 kR:s.heap.FunFrames base outer
 KO:∀b∈wu outer,H b=none
 bJ:ig P w H s.heap
 bare:AllBare s.gens
def CE (outer:List Env)(P:Program)(w:World)(H:Hp)(s:Shared)(Q:VK)(u:Value)(s' :Shared):Prop:=
 ∃v H',s'.os=s.os∧AllBare s'.gens∧Un (wu outer) [] H H' s.heap s'.heap∧ig P w H' s'.heap∧RelV v u∧Q v H'
def CR (CX:jQ)(outer:List Env)(P:Program)(w:World)(H:Hp)(s:Shared)(Q:VK)(E:XK)(r:Result)(s' :Shared):Prop:=
 match r with
 | .ok (.ret u)=>CE outer P w H s Q u s'
 | .ok _=>False
 | .error e=>CX outer H s E e s'
structure cH (P:Program)(w:World)(K:Frag)(mg:Str→Option Value)(base:Heap)(CX:jQ)(k:Nat)(f:Addr)(fd:FuncData)(ps:List Str)(sp:Sp):Prop where
 len:∀vs H Q E,sp vs H Q E→vs.length=ps.length
 run:∀(A:Around) (outer:List Env) (s:Shared) (H:Hp) (args:Args) (us:List Value) (vs:List V) (Q:VK) (E:XK),cv k A→u3 P w K mg base A outer s H→BindsTo s fd args (ps.zip us)→Vals vs us→sp vs H Q E→
  codeAny (model P w) A (.call (.ref f) args) (CR CX outer P w H s Q E) s
theorem cH.mono {P:Program}{w:World}{K:Frag}{mg:Str→Option Value}{base:Heap}{CX:jQ}{j k:Nat}{f:Addr}{fd:FuncData}{ps:List Str}{sp:Sp}(F:cH P w K mg base CX j f fd ps sp)(h:j≤k):
  cH P w K mg base CX k f fd ps sp:=⟨F.len,fun A outer s H args us vs Q E hr=>F.run A outer s H args us vs Q E (hr.mono h)⟩
theorem cH.imp {P:Program}{w:World}{K:Frag}{mg:Str→Option Value}{base:Heap}{CX:jQ}{k:Nat}{f:Addr}{fd:FuncData}{ps:List Str}{sp sp' :Sp}(F:cH P w K mg base CX k f fd ps sp)
  (h:∀vs H Q E,sp' vs H Q E→sp vs H Q E):cH P w K mg base CX k f fd ps sp' :=
 ⟨fun vs H Q E q=>F.len vs H Q E (h _ _ _ _ q),fun A outer s H args us vs Q E hr he hb hv hs=>F.run A outer s H args us vs Q E hr he hb hv (h _ _ _ _ hs)⟩
theorem u3.make {P:Program}{w:World}{K:Frag}{mg:Str→Option Value}{base:Heap}{A:Around}{outer:List Env}{s:Shared}{H:Hp}(e:u3 P w K mg base A outer s H)(C:Addr)(us:List Value)(kw:List (Str×Value)):
  u3 P w K mg base (A.under (.builtin "type.__call__" ⟨.ref C::us,kw⟩)) outer s H:=⟨by first | exact e.frames | (simpa [Around.under,Code.envs,Code.isFrame,pushEnvs] using e.frames),e.mod,e.bs,e.GG,e.kR,e.KO,e.bJ,e.bare⟩
section
variable {X:Cx}{pins:List (Addr×Obj)}{σ:St}{H:Hp}{s s' :Shared}
theorem Inv.N1 (I:Inv X pins σ H s):u3 X.prog X.w X.K X.mg X.base X.A X.stack s H:=
 ⟨I.ok.frames,I.ok.mod,I.bs,adF I.ok.GG I.sz,I.stack,I.wz,I.bJ,I.bare⟩
theorem Inv.after {Q:VK}{u:Value}(I:Inv X pins σ H s)(h:CE X.stack X.prog X.w H s Q u s'):EP X pins σ Q u s' :=by
 obtain ⟨v,H',os,bare,un,bJ,r,q⟩:=h
 obtain ⟨hh,g,d,t,os'⟩:=s'
 obtain rfl:os' =s.os:=os
 exact ⟨v,H',I.call (h' :=hh) (g' :=g) (d' :=d) (t' :=t) (ch:=[]) un bJ bare (fun b z=>absurd z (by simp)),r,q⟩
end
def JR (sp:Sp)(dvs:List V)(E:XK)(t:TA):TE:=fun σ H Q=>t σ H fun vs H1=>sp (vs++dvs) H1 Q E
def JS (C:Addr)(sp:Sp)(dvs:List V)(E:XK)(t:TA):TE:=fun σ H Q=>t σ H fun vs H1=>∀x dx,H1 x=none→H1 dx=none→dx≠x→
 sp (.ref x::(vs++dvs)) (upd (upd H1 dx (.own x)) x (.ins C dx [])) (fun v H2=>v=.cA∧Q (.ref x) H2) E
def Binds (K:Frag)(fd:FuncData)(ps:List Str)(ds:List Value):Prop:=
 ∀(s:Shared) (us:List Value),K.In s.heap→(us++ds).length=ps.length→BindsTo s fd ⟨us,[]⟩ (ps.zip (us++ds))
theorem Binds.all {K:Frag}{fd:FuncData}{ps:List Str}(h:∀us:List Value,us.length=ps.length→bindArgs fd ⟨us,[]⟩=pure (ps.zip us)):Binds K fd ps []:=fun s us _ hl=>by
 rw [afn] at hl ⊢
 exact .of_eq (h us hl)
def Passes (CX:jQ)(X:Cx)(E:XK):Prop:=∀(pins:List (Addr×Obj)) (σ:St) (H:Hp) (s:Shared) (e:Value) (s' :Shared),Inv X pins σ H s→CX X.stack H s E e s' →X.xe e s'
section
variable {X:Cx}{CX:jQ}{k:Nat}{f C:Addr}{fd:FuncData}{ps:List Str}{sp:Sp}{dvs:List V}{ds:List Value}{E:XK}{x m:Str}{p pos apos:Pos}{e o:Expr}{es:List Expr}{ta:TE}{t:TA}
theorem qm {pins:List (Addr×Obj)}{σ:St}{H:Hp}{s:Shared}{Q:VK}{us:List Value}{vs:List V}(F:cH X.prog X.w X.K X.mg X.base CX k f fd ps sp)(hr:cv k X.A)(hb:Binds X.K fd ps ds)(hd:Vals dvs ds)(hx:Passes CX X E)
  (I:Inv X pins σ H s) (r:Vals vs us) (h:sp (vs++dvs) H Q E):wpAny (model X.prog X.w) X.A (call (.ref f) us) (EP X pins σ Q) X.xe s:=by
 have r2:Vals (vs++dvs) (us++ds):=r.append hd
 have hl:(us++ds).length=ps.length:=by rw [← r2.length];exact F.len _ _ _ _ h
 refine wpAny_call (codeAny_mono (F.run X.A X.stack s H ⟨us,[]⟩ (us++ds) (vs++dvs) Q E hr I.N1 (hb s us I.iV hl) r2 h) fun r s' hq=> ?_)
 cases r with
 | error e=>exact hx pins σ H s e s' I hq
 | ok fl=>
  cases fl with
  | ret u=>exact I.after hq
  | next=>exact False.elim hq
  | brk=>exact False.elim hq
  | cont=>exact False.elim hq
theorem GU (F:cH X.prog X.w X.K X.mg X.base CX k f fd ps sp)(hr:cv k X.A)(hg:Gl X x)(hm:X.mg x=some (.ref f))(hk:keepIn X.K (.ref f)=true)(hb:Binds X.K fd ps ds)(hd:Vals dvs ds)(hx:Passes CX X E)
  (ha:PA X (e::es) t) (xV:(x==("__debug__":Str))=false:=by decide) (he:starEach (e::es) X.env=(false,eval e X.env)::starEach es X.env:=by rfl) (wJ:(backTo pos (starEach es X.env)).any (·.1)=false:=by rfl):
  PE X (.Call (.Name x p) (e::es) [] pos) (JR sp dvs E t):=by
 intro pins s σ H Q I h
 refine wpAny_Call_Name_kw (i0 I hg hm ?_ xV)
 refine PySem.W.callWith_K (h₀:=X.base) I.ok.mod.MY hk (cu (ha pos pins s σ H _ I h) fun us s1 ⟨vs,H1,I1,r,q⟩=>⟨I1.iV,?_⟩) he wJ
 exact qm F hr hb hd hx I1 r q
structure Mk (K:Frag)(C f:Addr):Prop where
 makes:PySem.W.makesIn K C=true
 init:PySem.W.findIn K (.ref C) "__init__"=some (some (.ref f))
 fn:PySem.W.isFn K (.ref f)=true
 kp:keepIn K (.ref C)=true
theorem so {pins:List (Addr×Obj)}{σ:St}{H:Hp}{s:Shared}{Q:VK}{us:List Value}{vs:List V}(M:Mk X.K C f)(F:cH X.prog X.w X.K X.mg X.base CX k f fd ps sp)(hr:cv (k+1) X.A)(hb:Binds X.K fd ps ds)(hd:Vals dvs ds)
  (hx:Passes CX X E) (I:Inv X pins σ H s) (r:Vals vs us)
  (h:∀x dx,H x=none→H dx=none→dx≠x→sp (.ref x::(vs++dvs)) (upd (upd H dx (.own x)) x (.ins C dx [])) (fun v H2=>v=.cA∧Q (.ref x) H2) E):
  wpAny (model X.prog X.w) X.A (call (.ref C) us) (EP X pins σ Q) X.xe s:=by
 have hq:=h (s.heap.objs.size+1) s.heap.objs.size (I.bJ.fresh (amS _)) (I.bJ.fresh (adL _)) (ad5 (aef _))
 have I2:=Inv.made (C:=C) I
 have r2:Vals (V.ref (s.heap.objs.size+1)::(vs++dvs)) (Value.ref (s.heap.objs.size+1)::(us++ds)):=.cons rfl (r.append hd)
 have hl:(Value.ref (s.heap.objs.size+1)::us++ds).length=ps.length:=by
  have e:=r2.length
  rw [F.len _ _ _ _ hq] at e
  exact e.symm
 refine wpAny_call (BA (f:=f) I.iV M.makes M.init (beq_iff_eq.mp M.fn) (codeAny_mono (F.run _ X.stack _ _ ⟨Value.ref (s.heap.objs.size+1)::us,[]⟩ (Value.ref (s.heap.objs.size+1)::(us++ds)) _ _ E (hr.make C us [])
  (I2.N1.make C us []) (hb _ (Value.ref (s.heap.objs.size+1)::us) I2.iV hl) r2 hq) fun r s' i6 => ?_))
 cases r with
 | error e=>exact hx pins σ _ _ e s' I2 i6
 | ok fl=>
  cases fl with
  | ret u=>
   obtain ⟨v,H',I3,rv,ev,q3⟩:=I2.after i6
   subst ev
   exact ⟨rv,⟨V.ref (s.heap.objs.size+1),H',I3,rfl,q3⟩⟩
  | next=>exact False.elim i6
  | brk=>exact False.elim i6
  | cont=>exact False.elim i6
theorem GV (M:Mk X.K C f)(F:cH X.prog X.w X.K X.mg X.base CX k f fd ps sp)(hr:cv (k+1) X.A)(hg:Gl X x)(hm:X.mg x=some (.ref C))(hb:Binds X.K fd ps ds)(hd:Vals dvs ds)(hx:Passes CX X E)
  (ha:PA X (e::es) t) (xV:(x==("__debug__":Str))=false:=by decide) (he:starEach (e::es) X.env=(false,eval e X.env)::starEach es X.env:=by rfl) (wJ:(backTo pos (starEach es X.env)).any (·.1)=false:=by rfl):
  PE X (.Call (.Name x p) (e::es) [] pos) (JS C sp dvs E t):=by
 intro pins s σ H Q I h
 refine wpAny_Call_Name_kw (i0 I hg hm ?_ xV)
 refine PySem.W.callWith_K (h₀:=X.base) I.ok.mod.MY M.kp (cu (ha pos pins s σ H _ I h) fun us s1 ⟨vs,H1,I1,r,q⟩=>⟨I1.iV,?_⟩) he wJ
 exact so M F hr hb hd hx I1 r q
theorem BB (M:Mk X.K C f)(F:cH X.prog X.w X.K X.mg X.base CX k f fd ps sp)(hr:cv (k+1) X.A)(hg:Gl X x)(hm:X.mg x=some (.ref C))(hb:Binds X.K fd ps ds)(hd:Vals dvs ds)(hx:Passes CX X E)
  (xV:(x==("__debug__":Str))=false:=by decide):PE X (.Call (.Name x p) [] [] pos) (JS C sp dvs E i5):=by
 intro pins s σ H Q I h
 refine wpAny_Call_Name_kw (i0 I hg hm ?_ xV)
 exact PySem.W.callWith_K0 I.iV M.kp (so (us:=[]) M F hr hb hd hx I .nil h)
end
section
variable {X:Cx}{CX:jQ}{k:Nat}{f C:Addr}{fd:FuncData}{ps ks:List Str}{sp:Sp}{E:XK}{x m:Str}{p pos apos amN:Pos}{e o:Expr}{es:List Expr}{kws:List Keyword}{te ta:TE}{t tk:TA}{nm:Option Str}
variable {g:List Value→List Value→List Value}{gV:List V→List V→List V}
end
structure aG (N P:List Str)(sc:Scope):Prop where
 kind:sc.kind=.function
 co:sc.isCoroutine=false
 gen:sc.isGenerator=false
 nd:N.Nodup
 pre:N.take P.length=P
 par:∀x∈P,sc.names.lookup x=some .local∨sc.names.lookup x=some .cell
 K4:∀y∈sc.names,y.2≠.free
theorem oO {kindOf:Str→Option NameKind}{x:Str}:∀{binds:List (Str×Value)} {m:Str→Option Value},(∀v,(x,v)∉binds)→bindL kindOf binds m x=m x
 | [],_,_=>rfl
 | (n,v)::r,m,h=>by
  unfold bindL
  rw [oO fun w hw=>h w (adE _ hw)]
  split
  ·have:x≠n:=by rintro rfl;exact h v adG
   simp [this]
  ·rfl
theorem oP {kindOf:Str→Option NameKind}{x:Str}:∀{binds:List (Str×Value)} {m:Str→Option Value},(∀v,(x,v)∉binds)→bindC kindOf binds m x=m x
 | [],_,_=>rfl
 | (n,v)::r,m,h=>by
  unfold bindC
  rw [oP fun w hw=>h w (adE _ hw)]
  split
  ·rfl
  ·have:x≠n:=by rintro rfl;exact h v adG
   simp [this]
theorem oQ {kindOf:Str→Option NameKind}{x:Str}{v:Value}:∀{P:List Str} {vs:List Value} {i:Nat} {m:Str→Option Value},P.Nodup→P[i]? =some x→vs[i]? =some v→kindOf x=some .local→
  bindL kindOf (P.zip vs) m x=some v
 | [],_,_,_,_,h,_,_=>by simp at h
 | _::_,[],_,_,_,_,h,_=>by simp at h
 | p::P,w::vs,0,m,nd,h1,h2,hk=>by
  simp at h1 h2;subst h1;subst h2
  show bindL kindOf ((p,w)::P.zip vs) m p=_
  unfold bindL
  rw [oO fun v hv=>(ad8.mp nd).1 (amI hv).1,if_pos hk]
  simp
 | p::P,w::vs,i+1,m,nd,h1,h2,hk=>by
  show bindL kindOf ((p,w)::P.zip vs) m x=_
  unfold bindL
  exact oQ (i:=i) (ad8.mp nd).2 (by simpa using h1) (by simpa using h2) hk
theorem oR {kindOf:Str→Option NameKind}{x:Str}{v:Value}:∀{P:List Str} {vs:List Value} {i:Nat} {m:Str→Option Value},P.Nodup→P[i]? =some x→vs[i]? =some v→kindOf x≠some .local→
  bindC kindOf (P.zip vs) m x=some v
 | [],_,_,_,_,h,_,_=>by simp at h
 | _::_,[],_,_,_,_,h,_=>by simp at h
 | p::P,w::vs,0,m,nd,h1,h2,hk=>by
  simp at h1 h2;subst h1;subst h2
  show bindC kindOf ((p,w)::P.zip vs) m p=_
  unfold bindC
  rw [oP fun v hv=>(ad8.mp nd).1 (amI hv).1,if_neg hk]
  simp
 | p::P,w::vs,i+1,m,nd,h1,h2,hk=>by
  show bindC kindOf ((p,w)::P.zip vs) m x=_
  unfold bindC
  exact oR (i:=i) (ad8.mp nd).2 (by simpa using h1) (by simpa using h2) hk
def start (N:List Str)(vs:List V):St:=vs.map some++adP (N.length - vs.length) none
def kX (CX:jQ)(P:Program)(w:World)(K:Frag)(mg:Str→Option Value)(base:Heap)(N:List Str)(qual:Str)(scope:Scope)(f:Addr)(cd:Value)(A:Around)(outer:List Env)(s:Shared)(H:Hp)(E:XK):Cx where
 prog:=P
 w:=w
 K:=K
 mg:=mg
 base:=base
 A:=A.deeper (envOfC qual scope s.heap.objs.size f cd)
 N:=N
 s₀:=s
 H₀:=H
 env:=envOfC qual scope s.heap.objs.size f cd
 outer:=outer
 stack:=envOfC qual scope s.heap.objs.size f cd::outer
 ex:=[]
 calm:=true
 fn:=fun _=>true
 pn:=[]
 xe:=fun e s' =>wpAny (model P w) (A.deeper (envOfC qual scope s.heap.objs.size f cd)) (leaving (envOfC qual scope s.heap.objs.size f cd) e) (fun _ N2 =>CX outer H s E e N2) (fun e' N2 =>CX outer H s E e' N2) s'
theorem sr {sc:Scope}{n:Nat}{x:Str}(h:sc.names.lookup x=some .cell):∃c,(cellsFrom n sc.names []).lookup x=some c:=by
 have q:=PySem.W.cellsFrom_some sc.names n [] (.inl h)
 exact al_.mp q
theorem xW {CX:jQ}{P:Program}{w:World}{K:Frag}{mg:Str→Option Value}{base:Heap}{N ps:List Str}{qual:Str}{scope:Scope}{f:Addr}{cd:Value}{A:Around}{outer:List Env}{s s1:Shared}{H:Hp}{E:XK}{us:List Value}{vs:List V}
  (S:aG N ps scope) (hd:A.handled=none) (e0:u3 P w K mg base A outer s H) (hl:vs.length=ps.length) (r:Vals vs us)
  (x:InCallC s s.heap.objs.size (bindL (envOfC qual scope s.heap.objs.size f cd).kindOf (ps.zip us) fun _=>none) (cellsFrom (s.heap.objs.size+1) scope.names []) (bindC (envOfC qual scope s.heap.objs.size f cd).kindOf (ps.zip us) fun _=>none) s1):
  Inv (kX CX P w K mg base N qual scope f cd A outer s H E) [] (start N vs) H s1:=by
 have wJ:ps.length≤N.length:=by have:=congrArg aeE S.pre;rw [adZ] at this;omega
 obtain ⟨h1,tk,rfl,hk⟩:=x.done
 have N3:∀b:Addr,b∉(kX CX P w K mg base N qual scope f cd A outer s H E).ex:=fun b z=>absurd (show b∈([]:List Addr) from z) (by simp)
 refine ⟨⟨e0.mod,S.kind,rfl,rfl,adL _,fun y z c h1 h2=> ?_,fun y hy=> ?_,fun y c _ h=> ?_,fun _=>hd,Around.frames_deeper e0.frames,.inr ⟨rfl,rfl⟩,fun b z=>absurd z (N3 b),e0.bs,e0.GG,fun b _ _=>N3 b,fun b z=>absurd z (N3 b),e0.kR,e0.KO⟩,
  rfl,e0.bare,Un.kept hk,⟨_,x.toInCall.ns,fun i y v h1 h2 h3=> ?_⟩,fun y c h=>⟨_,x.cell y c h⟩,e0.bJ.fresh (adL _),fun y c h=> ?_,fun p hp=>absurd (show p∈([]:List (Addr×Obj)) from hp) (by simp),e0.bJ.kept hk,?_⟩
 ·exact name_of_addr x.apart (PySem.mem_of_lookup h1) (PySem.mem_of_lookup h2)
 ·have hy:scope.names.lookup y=some .cell∨scope.names.lookup y=some .free:=hy
  rcases hy with hy | hy
  ·exact sr hy
  ·exact absurd rfl (S.K4 _ (PySem.mem_of_lookup hy))
 ·exact aeD (x.above y c (PySem.mem_of_lookup h))
 ·have hi:i < vs.length:=by
   unfold start at h2
   by_cases hi:i < vs.length
   ·exact hi
   ·rw [adN (by simpa using hi)] at h2
    rw [aei] at h2
    split at h2 <;> cases h2
  have ha:vs[i]? =some v:=by
   unfold start at h2
   rw [adI (by simpa using hi),ir] at h2
   cases e:vs[i]? with
   | none=>rw [e] at h2;cases h2
   | some a=>rw [e] at h2;cases h2;rfl
  obtain ⟨u,hu,rv⟩:=r.get ha
  have hp:ps[i]? =some y:=by
   rw [← S.pre,amt (by omega)];exact h1
  have ndP:ps.Nodup:=by rw [← S.pre];exact S.nd.sublist (List.take_sublist _ _)
  refine ⟨u,rv,?_⟩
  rcases S.par y (aa_ hp) with k | k
  ·exact .inl ⟨k,oQ ndP hp hu k⟩
  ·obtain ⟨c,e⟩:=sr (n:=s.heap.objs.size+1) k
   refine .inr ⟨.inl k,c,e,?_⟩
   have q:=x.cell y c e
   rw [oR ndP hp hu (by show scope.names.lookup y≠_;rw [k];decide)] at q
   exact q
 ·exact e0.bJ.fresh (aeD (x.above y c (PySem.mem_of_lookup h)))
 ·unfold start
  show _=N.length
  rw [adK,Wp,aeB]
  omega
theorem wK {CX:jQ}{P:Program}{w:World}{K:Frag}{mg:Str→Option Value}{base:Heap}{k:Nat}{f:Addr}{name qual:Str}{params:Arguments}{body:List Stmt}{scope:Scope}{dV kV doc pm bD ct oc:Value}{an od:Option Addr}
  {og:Array (Option Value)} {N ps:List Str} {sp:Sp} (lk:K.lookup f=some ⟨oc,od,.func (fnOf name qual params body scope dV kV doc pm an bD ct),og⟩) (ot:codeIn K bD qual=true) (S:aG N ps scope)
  (len:∀vs H Q E,sp vs H Q E→vs.length=ps.length)
  (i7:∀(A:Around) (outer:List Env) (s:Shared) (H:Hp) (vs:List V) (Q:VK) (E:XK),cv k (A.deeper (envOfC qual scope s.heap.objs.size f bD))→sp vs H Q E→
   ∃t,PSs (kX CX P w K mg base N qual scope f bD A outer s H E) body t∧t {nx:=fun _ H' =>Q .cA H',rt:=Q} (start N vs) H):
  cH P w K mg base CX (k+1) f (fnOf name qual params body scope dV kV doc pm an bD ct) ps sp:=by
 refine ⟨len,fun A outer s H args us vs Q E hr e0 hb r uI=> ?_⟩
 have hl:=len _ _ _ _ uI
 have KX:K.In s.heap:=e0.mod.MY.keeps fun b o e=>(e0.bs b o e).1
 have lim:s.heap.NoLimit:=e0.mod.nolimit.keeps fun b o e=>(e0.bs b o e).1
 have N4:∀y∈ps.zip us,scope.names.lookup y.1=some .local∨(scope.names.lookup y.1=some .cell∧((cellsFrom (s.heap.objs.size+1) scope.names []).lookup y.1).isSome=true):=fun ⟨n,v⟩ hy=>by
  rcases S.par n (amI hy).1 with q | q
  ·exact .inl q
  ·exact .inr ⟨q,PySem.W.cellsFrom_some _ _ _ (.inl q)⟩
 refine codeAny_call_function hr.depth (KX _ _ lk) rfl S.co S.gen rfl (PySem.W.codeRec_of KX ot) (hb _ _ _ _ ?_)
 refine wpAny_newFunctionEnv_cells S.kind N4 fun env he s1 x=> ?_
 subst he
 refine ⟨lim.keeps x.toInCall.keep,codeAny_func ?_⟩
 obtain ⟨t,ht,hq⟩:=i7 A outer s H vs Q E (hr.deeper _) uI
 have I:Inv (kX CX P w K mg base N qual scope f bD A outer s H E) [] (start N vs) H s1:=xW S hr.hd e0 hl r x
 refine wpAny_mono (ht [] s1 (start N vs) H _ I hq) (fun fl s' hs=> ?_) fun e s' hs=>hs
 have fin:∀{σ' :St} {H' :Hp} {v:V} {u:Value},Inv (kX CX P w K mg base N qual scope f bD A outer s H E) [] σ' H' s' →RelV v u→Q v H' →CE outer P w H s Q u s' :=
  fun {σ' H' v u} J rv q=>⟨v,H',J.os,J.bare,J.base,J.bJ,rv,q⟩
 cases fl with
 | ret u=>
  obtain ⟨v,σ',H',J,rv,q⟩:=hs
  exact fin J rv q
 | next=>
  obtain ⟨σ',H',J,q⟩:=hs
  exact fin (v:=V.cA) (u:=Value.none) J rfl q
 | brk=>
  obtain ⟨_,_,_,q⟩:=hs
  exact False.elim q
 | cont=>
  obtain ⟨_,_,_,q⟩:=hs
  exact False.elim q
end L2
namespace L2
open PySem PySem.Spec PyProof.Rows
section
variable {X:Cx}{x:Str}{p pos:Pos}{e:Expr}{es:List Expr}{t:TA}{id T:String}{r:List V→Hp→VK→Prop}
def tCB (r:List V→Hp→VK→Prop)(t:TA):TE:=fun σ H Q=>t σ H fun vs H1=>r vs H1 Q
theorem aT (hc:gH X (.builtin id) r)(hg:Gl X x)(hm:X.mg x=none)(hv:bootBuiltins x=some (.builtin id))(ha:PA X (e::es) t)(hn:x≠ "__name__":=by decide)(xV:(x==("__debug__":Str))=false:=by decide)
  (he:starEach (e::es) X.env=(false,eval e X.env)::starEach es X.env:=by rfl) (wJ:(backTo pos (starEach es X.env)).any (·.1)=false:=by rfl):PE X (.Call (.Name x p) (e::es) [] pos) (tCB r t):=by
 intro pins s σ H Q I h
 refine wpAny_Call_Name_kw (gC I hg hm hv ?_ hn xV)
 exact PyProof.Rows.callWith_builtin1 (cu (ha pos pins s σ H _ I h) fun us s1 ⟨vs,H1,I1,r1,q1⟩=>hc pins s1 σ H1 vs us Q I1 r1 q1) he wJ
theorem dY (hc:gH X (.type T) r)(hg:Gl X x)(hm:X.mg x=none)(hv:bootBuiltins x=some (.type T))(ha:PA X (e::es) t)(hn:x≠ "__name__":=by decide)(xV:(x==("__debug__":Str))=false:=by decide)
  (he:starEach (e::es) X.env=(false,eval e X.env)::starEach es X.env:=by rfl) (wJ:(backTo pos (starEach es X.env)).any (·.1)=false:=by rfl):PE X (.Call (.Name x p) (e::es) [] pos) (tCB r t):=by
 intro pins s σ H Q I h
 refine wpAny_Call_Name_kw (gC I hg hm hv ?_ hn xV)
 exact PyProof.Rows.callWith_type1 (cu (ha pos pins s σ H _ I h) fun us s1 ⟨vs,H1,I1,r1,q1⟩=>hc pins s1 σ H1 vs us Q I1 r1 q1) he wJ
end
end L2
namespace HT
open PySem PyProof.Rows
section
open PySem.SeqAt
open PySem.AutoSeq1 (wpAny_loadPart')
open PySem.MeetsSeq PySem.MeetsSeq2 PySem.MeetsSeq3
end
section
variable {prog:Program}{w:World}{A:Around}{E:Value→Shared→Prop}{s:Shared}
def sy (n d:Nat):Option Int→Nat
 | none=>d
 | some v=>if v < 0 then (v+(n:Int)).toNat else min v.toNat n
theorem sE (n d:Nat):sy n d none=d:=rfl
theorem lM (n d k:Nat):sy n d (some (k:Int))=min k n:=by
 show (if (k:Int) < 0 then ((k:Int)+(n:Int)).toNat else min (k:Int).toNat n)=min k n
 rw [if_neg (by omega),am']
end
end HT
namespace L2
open PySem PySem.Spec PyProof.Rows
abbrev TO:=St→Hp→(Option Int→Hp→Prop)→Prop
def PO (X:Cx)(e:Option Expr)(t:TO):Prop:=
 ∀(pins:List (Addr×Obj)) (s:Shared) (σ:St) (H:Hp) (Q:Option Int→Hp→Prop),Inv X pins σ H s→t σ H Q→
  wpAny (model X.prog X.w) X.A (evalPart e X.env) (fun u s' =>∃o H',Inv X pins σ H' s' ∧IsPart u o∧Q o H') X.xe s
def GX:TO:=fun _ H Q=>Q none H
inductive BC (Q:(Option Int→Hp→Prop))(x:V)(H1:Hp):Prop where
 | mk (i:_) (_:x=.int i) (_:Q (some i) H1):BC Q x H1
def N5 (t:TE):TO:=fun σ H Q=>t σ H fun x H1=>BC Q x H1
section
variable {X:Cx}{e:Expr}{te:TE}{lo hi:Option Expr}{tl th:TO}{pos p2:Pos}
theorem fY:PO X none GX:=by
 intro pins s σ H Q I h
 rw [evalPart_none]
 exact wpAny_pure ⟨none,H,I,.none,h⟩
theorem dS (h:PE X e te):PO X (some e) (N5 te):=by
 intro pins s σ H Q I hw
 rw [evalPart_some]
 refine cu (h pins s σ H _ I hw) fun u s1 ⟨x,H1,I1,r1,q1⟩=> ?_
 obtain ⟨i,rfl,q⟩:=q1
 obtain ⟨t,rfl⟩:=r1
 exact ⟨some i,H1,I1,.int i t,q⟩
def V4 (X:Cx)(r:V→Option Int→Option Int→Hp→VK→Prop):Prop:=
 ∀(pins:List (Addr×Obj)) (s:Shared) (σ:St) (H:Hp) (x:V) (v vl vu:Value) (lo hi:Option Int) (sl:Addr) (Q:VK),Inv X pins σ H s→RelV x v→s.heap.IsSliceOf sl vl vu .none→IsPart vl lo→IsPart vu hi→r x lo hi H Q→
  ∃T id,typeLookup (.type T) "__getitem__"=pure (some (.builtin id))∧s.TypeIs v T∧wpAny (model X.prog X.w) X.A (getItem v (.ref sl)) (EP X pins σ Q) X.xe s
def tSl (r:V→Option Int→Option Int→Hp→VK→Prop)(te:TE)(tl th:TO):TE:=fun σ H Q=>te σ H fun x H1=>tl σ H1 fun l H2=>th σ H2 fun u H3=>r x l u H3 Q
theorem dI {r:V→Option Int→Option Int→Hp→VK→Prop}(hr:V4 X r)(he:PE X e te)(hl:PO X lo tl)(hu:PO X hi th):PE X (.Subscript e (.Slice lo hi none p2) pos) (tSl r te tl th):=by
 intro pins s σ H Q I h
 refine Subscript_ (cu (he pins s σ H _ I h) fun v s1 ⟨x,H1,I1,r1,q1⟩=> ?_)
 refine wpAny_Slice (cu (hl pins s1 σ H1 _ I1 q1) fun vl s2 ⟨l,H2,I2,pl,q2⟩=>cu (hu pins s2 σ H2 _ I2 q2) fun vu s3 ⟨u,H3,I3,pu,q3⟩=> ?_)
 rw [evalPart_none]
 refine wpAny_pure ?_
 have I4:Inv X pins σ H3 {s3 with heap:=s3.heap.push {cls:=.type "slice",data:=.fields #[vl,vu,.none]}}:=I3.kept (t' :=s3.toks) fun b ob q=>Heap.get?_push_of_some _ q
 obtain ⟨T,id,hT,ht,hg⟩:=hr pins {s3 with heap:=s3.heap.push {cls:=.type "slice",data:=.fields #[vl,vu,.none]}} σ H3 x v vl vu l u s3.heap.objs.size Q I4 r1 (Heap.IsSliceOf.new ..) pl pu q3
 show wpAny (model X.prog X.w) X.A (subscriptTail e (.Slice lo hi none p2) v (.ref s3.heap.objs.size)) (EP X pins σ Q) X.xe {s3 with heap:=s3.heap.push {cls:=.type "slice",data:=.fields #[vl,vu,.none]}}
 exact tail_any (ops:=[.ref s3.heap.objs.size,v]) ht hT hg (by with_unfolding_all rfl)
def fZ (xs:List V)(lo hi:Option Int):List V:=(xs.drop (HT.sy xs.length 0 lo)).take (HT.sy xs.length xs.length hi - HT.sy xs.length 0 lo)
theorem sG (xs:List V)(lo hi:Option Int):(fZ xs lo hi).length≤xs.length:=by
 unfold fZ
 rw [adZ,amv]
 omega
end
end L2
namespace L2
open PySem PySem.Spec PyProof.Rows
def FF (n:Nat)(i:Int):Option Nat:=if 0≤i then (if i < n then some i.toNat else none) else if -(n:Int)≤i then some (i+n).toNat else none
def fU {α:Type}(xs:List α)(i:Int):Option α:=(FF xs.length i).bind fun j=>xs[j]?
theorem wL {n:Nat}{i:Int}{j:Nat}(h:FF n i=some j):seqIndex? i n=some j∧j < n∧ -(n:Int)≤i∧i < n:=by
 unfold FF at h
 by_cases h0:0≤i
 ·rw [if_pos h0] at h
  by_cases h1:i < n
  ·rw [if_pos h1] at h
   have e:i.toNat=j:=adX h
   exact ⟨by rw [seqIndex_of h0 h1,e],by omega,by omega,h1⟩
  ·rw [if_neg h1] at h;cases h
 ·rw [if_neg h0] at h
  by_cases h1: -(n:Int)≤i
  ·rw [if_pos h1] at h
   have e:(i+n).toNat=j:=adX h
   exact ⟨by rw [seqIndex_neg (by omega) h1,e],by omega,h1,by omega⟩
  ·rw [if_neg h1] at h;cases h
theorem qp {α:Type}{xs:List α}{i:Int}{v:α}(h:fU xs i=some v):∃j,seqIndex? i xs.length=some j∧xs[j]? =some v∧j < xs.length∧ -(xs.length:Int)≤i∧i < xs.length:=by
 unfold fU at h
 cases e:FF xs.length i with
 | none=>rw [e] at h;cases h
 | some j=>
  rw [e] at h
  obtain ⟨h1,h2,h3,h4⟩:=wL e
  exact ⟨j,h1,h,h2,h3,h4⟩
theorem bh {α:Type}{xs:List α}{j:Nat}{v:α}(h:xs[j]? =some v):fU xs (j:Int)=some v:=by
 have hj:j < xs.length:=(be.mp h).1
 have e:FF xs.length (j:Int)=some j:=by
  unfold FF
  rw [if_pos (by omega),if_pos (by omega)];simp
 unfold fU;rw [e];exact h
def GY (b:Expr):Prop:=∀o i,subscripted b false o i=operate [o,i] (getItem o i)
def M6 (X:Cx)(r:R2):Prop:=
 ∀(value slice:Expr) (pins:List (Addr×Obj)) (s:Shared) (σ:St) (H:Hp) (x y:V) (v u:Value) (Q:VK),Inv X pins σ H s→RelV x v→RelV y u→r x y H Q→
  subscripted slice false v u=operate [v,u] (getItem v u)→wpAny (model X.prog X.w) X.A (subscriptTail value slice v u) (EP X pins σ Q) X.xe s
def MtR (X:Cx)(id:String)(r:V→List V→Hp→VK→Prop):Prop:=
 ∀(pins:List (Addr×Obj)) (s:Shared) (σ:St) (H:Hp) (x:V) (xs:List V) (v:Value) (us:List Value) (Q:VK),Inv X pins σ H s→RelV x v→Vals xs us→r x xs H Q→
  wpAny (model X.prog X.w) X.A (call (.builtin id) (v::us)) (EP X pins σ Q) X.xe s
section
variable {X:Cx}{a b:Expr}{ta tb:TE}{pos:Pos}
theorem aU {r:R2}(hr:M6 X r)(ha:PE X a ta)(hb:PE X b tb)(hs:GY b):PE X (.Subscript a b pos) (M1 r ta tb):=by
 intro pins s σ H Q I h
 exact Subscript_ (K2 ha hb I h fun v u s2 x y H2 I2 rx ry q=>hr a b pins s2 σ H2 x y v u Q I2 rx ry q (hs _ _))
inductive GZ (K:Frag)(x:V)(y:V)(H:Hp)(Q:VK):Prop where
 | mk (p xs i v:_) (_:x=.ref p) (_:y=.int i) (_:aV K H p xs) (_:fU xs i=some v) (_:Q v H):GZ K x y H Q
inductive G_ (K:Frag)(x:V)(y:V)(H:Hp)(Q:VK):Prop where
 | mk (p xs i v:_) (_:x=.ref p) (_:y=.int i) (_:cf K H p xs) (_:fU xs i=some v) (_:Q v H):G_ K x y H Q
inductive N6 (x:V)(y:V)(H:Hp)(Q:VK):Prop where
 | mk (z i c:_) (_:x=.str z) (_:y=.int i) (_:z.length≤sizeLine) (_:fU z.cps.toList i=some c) (_:Q (.str ⟨#[c]⟩) H):N6 x y H Q
theorem aK:M6 X (GZ X.K):=by
 intro value slice pins s σ H x y v u Q I rx ry h hs
 obtain ⟨p,xs,i,z,rfl,rfl,hq,he,q⟩:=h
 cases rx
 obtain ⟨t,rfl⟩:=ry
 obtain ⟨its,r,pl,hz⟩:=I.list hq
 obtain ⟨j,h1,h2,h3,h4,h5⟩:=qp he
 obtain ⟨w,ew,rW⟩:=r.get h2
 have hl:=r.length
 have hn:=my
 have fin:EP X pins σ Q w s:=⟨z,H,I,rW,q⟩
 by_cases h0:0≤i
 ·have hj:i.toNat=j:=by
   rw [seqIndex_of h0 h5] at h1
   exact adX h1
  exact item_listR pl.isList h0 (by omega) (by rw [hj];simpa using ew) fin hs
 ·have hj:(i+(its.toArray.size:Int)).toNat=j:=by
   rw [seqIndex_neg (by omega) h4] at h1
   rw [adW, ← hl]
   exact adX h1
  exact subscriptTail_builtinR (x:=w) pl.isList.typeIs slot_list_getitem.lookup
   (wpAny_getItem_list_neg (Q:=fun r s' =>r=w∧EP X pins σ Q r s') pl.isList (by omega) (by rw [adW] <;> omega) (by omega) (by rw [hj];simpa using ew) ⟨rfl,fin⟩) hs
theorem mz:M6 X (G_ X.K):=by
 intro value slice pins s σ H x y v u Q I rx ry h hs
 obtain ⟨p,xs,i,z,rfl,rfl,hq,he,q⟩:=h
 cases rx
 obtain ⟨t,rfl⟩:=ry
 obtain ⟨its,r,pl,hz⟩:=I.tuple hq
 obtain ⟨j,h1,h2,h3,h4,h5⟩:=qp he
 obtain ⟨w,ew,rW⟩:=r.get h2
 have hl:=r.length
 have hn:=my
 have fin:EP X pins σ Q w s:=⟨z,H,I,rW,q⟩
 exact subscriptTail_builtinR (x:=w) pl.typeIs slot_tuple_getitem.lookup
  (getItem_tuple (j:=j) (Q:=fun r s' =>r=w∧EP X pins σ Q r s') pl (by omega) (by omega) (by rw [adW, ← hl];exact h1) (by simpa using ew) ⟨rfl,fin⟩) hs
theorem K5:M6 X N6:=by
 intro value slice pins s σ H x y v u Q I rx ry h hs
 obtain ⟨z,i,c,rfl,rfl,hz,he,q⟩:=h
 obtain ⟨t,rfl⟩:=rx
 obtain ⟨t',rfl⟩:=ry
 obtain ⟨j,h1,h2,h3,h4,h5⟩:=qp he
 have hl:z.cps.toList.length=z.length:=by simp [Str.length]
 rw [hl] at h1 h4 h5
 have hn:=my
 exact tail_any (typeIs_str s z t) slot_str_getitem.lookup (getItem_str (c:=c) (by
  have e1:decide (i < -(2^63:Int))=false:=decide_eq_false (by omega)
  have e2:decide (i≥2^63)=false:=decide_eq_false (by omega)
  rw [e1,e2,anU]) (by rw [h1];simpa using h2) ⟨.str ⟨#[c]⟩,H,I.tok _,⟨_,rfl⟩,q⟩) hs
theorem u4 (its:List Value)(n j:Nat)(u:Value):Obj.mapSeq (·.setIfInBounds j u) {cls:=.type "list",data:=.seq its.toArray n}={cls:=.type "list",data:=.seq (its.set j u).toArray n}:=by
 simp [Obj.mapSeq]
theorem Inv.lst {pins:List (Addr×Obj)}{σ:St}{H:Hp}{s:Shared}{p:Addr}{xs:List V}(I:Inv X pins σ H s)(h:H p=some (.lst xs)):
  ∃(its:List Value) (n:Nat),Vals xs its∧s.heap.get? p=some {cls:=.type "list",data:=.seq its.toArray n}∧xs.length≤sizeLine:=by
 obtain ⟨z,its,n,r,e⟩:=I.bJ p _ h
 exact ⟨its,n,r,e,z⟩
theorem Inv.K6 {pins:List (Addr×Obj)}{σ:St}{H:Hp}{s:Shared}{p:Addr}{xs ys:List V}{its its' :List Value}{n n' :Nat}{f:Obj→Obj}(I:Inv X pins σ H s)(h:H p=some (.lst xs))
  (ho:s.heap.get? p=some {cls:=.type "list",data:=.seq its.toArray n}) (hf:f {cls:=.type "list",data:=.seq its.toArray n}={cls:=.type "list",data:=.seq its'.toArray n' }) (r:Vals ys its') (hz:ys.length≤sizeLine) (t:Nat):
  Inv X pins σ (upd H p (.lst ys)) {s with heap:=s.heap.update p f,toks:=t}:=by
 have e:(s.heap.update p f).get? p=some {cls:=.type "list",data:=.seq its'.toArray n' }:=by
  rw [Heap.get?_update_self f ho (by rw [hf] <;> rfl),hf]
 refine I.write (x:=p) (e:=p) (by rw [h];trivial) (.inl rfl) (fun b u hb q=>(Heap.get?_update_other _ _ (ad7 hb)).trans q) ⟨_,e⟩ ?_
 exact ⟨hz,its',n',r,e⟩
inductive JT (o:V)(i:V)(v:V)(H:Hp)(Q:(Hp→Prop)):Prop where
 | mk (p xs k j:_) (_:o=.ref p) (_:i=.int k) (_:H p=some (.lst xs)) (_:FF xs.length k=some j) (_:Q (upd H p (.lst (xs.set j v)))):JT o i v H Q
theorem set_list:NQ X JT:=by
 intro pins s σ H o i v ov iv u Q I ro ri rv h
 obtain ⟨p,xs,k,j,rfl,rfl,hp,hj,q⟩:=h
 cases ro
 obtain ⟨t,rfl⟩:=ri
 obtain ⟨its,n,r,ho,hz⟩:=I.lst hp
 obtain ⟨h1,h2,h3,h4⟩:=wL hj
 have hl:=r.length
 have hn:=my
 have I' :Inv X pins σ (upd H p (.lst (xs.set j v))) {s with heap:=s.heap.update p (Obj.mapSeq (·.setIfInBounds j u))}:=
  I.K6 hp ho (u4 its n j u) (r.set rv j) (by rw [List.length_set];exact hz) s.toks
 by_cases h0:0≤k
 ·have hk:k.toNat=j:=by
   rw [seqIndex_of h0 h4] at h1
   exact adX h1
  exact PySem.W.ki_setAt ho h0 (by omega) (by rw [adW, ← hl];exact h4) (by rw [hk];exact ⟨_,I',q⟩)
 ·have hk:(k+(its.toArray.size:Int)).toNat=j:=by
   rw [seqIndex_neg (by omega) h3] at h1
   rw [adW, ← hl]
   exact adX h1
  exact PySem.W.ki_setBack ho (by omega) (by rw [adW, ← hl];exact h3) (by omega) (by rw [hk];exact ⟨_,I',q⟩)
theorem qt (lo hi:Option Int)(n:Nat):(sliceBounds lo hi none n).1=((HT.sy n 0 lo:Nat):Int)∧(sliceBounds lo hi none n).2.1=((HT.sy n n hi:Nat):Int)∧(sliceBounds lo hi none n).2.2=1:=by
 refine ⟨?_,?_,rfl⟩
 ·cases lo with
  | none=>simp [sliceBounds,HT.sy]
  | some i=>
   simp only [sliceBounds,HT.sy,ano,show (1:Int) > 0 by decide,if_true]
   by_cases h:i < 0
   ·simp only [h,if_true] <;> omega
   ·simp only [h,if_false] <;> omega
 ·cases hi with
  | none=>simp [sliceBounds,HT.sy]
  | some i=>
   simp only [sliceBounds,HT.sy,ano,show (1:Int) > 0 by decide,if_true]
   by_cases h:i < 0
   ·simp only [h,if_true] <;> omega
   ·simp only [h,if_false] <;> omega
theorem oz (its:List Value)(lo hi:Option Int):slicePick its.toArray lo hi none=((its.drop (HT.sy its.length 0 lo)).take (HT.sy its.length its.length hi - HT.sy its.length 0 lo)).toArray:=by
 obtain ⟨h1,h2,h3⟩:=qt lo hi its.toArray.size
 unfold slicePick
 rw [h1,h2,h3]
 simp only [sliceRange_one,pick_run,adW] <;> rfl
inductive N7 (K:Frag)(x:V)(lo:Option Int)(hi:Option Int)(H:Hp)(Q:VK):Prop where
 | mk (a xs:_) (_:x=.ref a) (_:aV K H a xs) (_:∀p,H p=none→Q (.ref p) (upd H p (.lst (fZ xs lo hi)))):N7 K x lo hi H Q
theorem f9:V4 X (N7 X.K):=by
 intro pins s σ H x v vl vu lo hi sl Q I rx hs pl pu h
 obtain ⟨a,xs,rfl,hx,q⟩:=h
 cases rx
 obtain ⟨its,r,ht,hz⟩:=I.list hx
 have hlen:=r.length
 refine ⟨"list",_,slot_list_getitem.lookup,ht.isList.typeIs,?_⟩
 refine wpAny_getItem_list_slice ht.isList hs pl pu .none (by simp) ?_ (by rw [adW] <;> omega)
 rw [oz, ← hlen]
 refine ⟨.ref s.heap.objs.size,_,I.laid (t' :=s.toks) (o:=.lst (fZ xs lo hi)) (fun b ob q=>Heap.get?_push_of_some _ q) (adL _) ?_,rfl,q _ (I.bJ.fresh (adL _))⟩
 exact ⟨adF (sG xs lo hi) hz,_,0,(r.drop (HT.sy xs.length 0 lo)).take (HT.sy xs.length xs.length hi - HT.sy xs.length 0 lo),Heap.get?_push_size _ rfl⟩
def gI:V→Bool
 | .cA=>true
 | .bl _=>true
 | .int _=>true
 | .str _=>true
 | _=>false
def oh:V→V→Bool
 | .cA,.cA=>true
 | .bl a,.bl b=>a==b
 | .bl a,.int b=>(if a then 1 else 0)==b
 | .int a,.bl b=>a==(if b then 1 else 0)
 | .int a,.int b=>a==b
 | .str a,.str b=>a==b
 | _,_=>false
theorem BD {A:Around}{s:Shared}{y x:V}{u v:Value}(ry:RelV y u)(rx:RelV x v)(fy:gI y=true)(fx:gI x=true):SeqAt.EqAt A s u v (oh y x):=by
 cases y with
 | cA=>
  cases ry
  cases x with
  | cA=>cases rx;exact SeqAt.EqAt.same _
  | bl b=>cases rx;exact SeqAt.EqAt.none_bool b
  | int b=>obtain ⟨t,rfl⟩:=rx;exact SeqAt.EqAt.none_int b t
  | str b=>obtain ⟨t,rfl⟩:=rx;exact SeqAt.EqAt.none_str b t
  | _=>exact absurd (show false=true from fx) adT
 | bl a=>
  cases ry
  cases x with
  | cA=>cases rx;exact SeqAt.EqAt.bool_none a
  | bl b=>cases rx;exact SeqAt.EqAt.bool_bool a b
  | int b=>obtain ⟨t,rfl⟩:=rx;exact SeqAt.EqAt.bool_int a b t
  | str b=>obtain ⟨t,rfl⟩:=rx;exact SeqAt.EqAt.bool_str a b t
  | _=>exact absurd (show false=true from fx) adT
 | int a=>
  obtain ⟨t',rfl⟩:=ry
  cases x with
  | cA=>cases rx;exact SeqAt.EqAt.int_none a t'
  | bl b=>cases rx;exact SeqAt.EqAt.int_bool a t' b
  | int b=>obtain ⟨t,rfl⟩:=rx;exact SeqAt.EqAt.int_int a t' b t
  | str b=>obtain ⟨t,rfl⟩:=rx;exact SeqAt.EqAt.int_str a t' b t
  | _=>exact absurd (show false=true from fx) adT
 | str a=>
  obtain ⟨t',rfl⟩:=ry
  cases x with
  | cA=>cases rx;exact SeqAt.EqAt.str_none a t'
  | bl b=>cases rx;exact SeqAt.EqAt.str_bool a t' b
  | int b=>obtain ⟨t,rfl⟩:=rx;exact SeqAt.EqAt.str_int a t' b t
  | str b=>obtain ⟨t,rfl⟩:=rx;exact SeqAt.EqAt.str_str a t' b t
  | _=>exact absurd (show false=true from fx) adT
 | _=>exact absurd (show false=true from fy) adT
def G' (x:V)(u:Value):Bool:=match u with
 | .none=>oh .cA x
 | .bool b=>oh (.bl b) x
 | .int i _=>oh (.int i) x
 | .str z _=>oh (.str z) x
 | _=>false
theorem BE {x y:V}{u:Value}(r:RelV y u)(f:gI y=true):G' x u=oh y x:=by
 cases y with
 | cA=>cases r;rfl
 | bl b=>cases r;rfl
 | int i=>obtain ⟨t,rfl⟩:=r;rfl
 | str z=>obtain ⟨t,rfl⟩:=r;rfl
 | _=>exact absurd (show false=true from f) adT
theorem qu {x:V}:∀{xs:List V} {us:List Value},Vals xs us→xs.all gI=true→us.any (G' x)=xs.any fun y=>oh y x
 | _,_,.nil,_=>rfl
 | y::xs,u::us,.cons r t,f=>by
  rw [am4,aeK] at f
  rw [ae_,ae_,BE r f.1,qu t f.2]
theorem mB {A:Around}{s:Shared}{x:V}{v:Value}(rx:RelV x v)(fx:gI x=true):∀{xs:List V} {us:List Value},Vals xs us→xs.all gI=true→∀u∈us,SeqAt.EqAt A s u v (G' x u)
 | _,_,.nil,_=>fun u hu=>by cases hu
 | y::xs,u::us,.cons r t,f=>fun u' hu=>by
  rw [am4,aeK] at f
  rcases adY.mp hu with rfl | hu
  ·rw [BE r f.1];exact BD r rx f.1 fx
  ·exact mB rx fx t f.2 u' hu
def N8 (x:V)(xs:List V):Bool:=xs.any fun y=>oh y x
inductive rIn (K:Frag)(neg:Bool)(x:V)(y:V)(H:Hp)(Q:VK):Prop where
 | mk (p xs:_) (_:y=.ref p) (_:(aV K H p xs∨cf K H p xs)) (_:gI x=true) (_:xs.all gI=true) (_:Q (.bl (if neg then !N8 x xs else N8 x xs)) H):rIn K neg x y H Q
theorem qv:jP X (compareOp .NotIn) (rIn X.K true):=by
 intro pins s σ H x y v u Q I rx ry h
 obtain ⟨p,xs,rfl,hq,fx,fs,q⟩:=h
 cases ry
 rcases hq with hq | hq
 ·obtain ⟨its,r,pl,hz⟩:=I.list hq
  refine SeqAt.notIn_listAt (G' x) pl.isList (fun w hw=>mB rx fx r fs w (by simpa using hw)) ⟨.bl _,H,I,rfl,?_⟩
  rw [show its.toArray.any (G' x)=its.any (G' x) by simp,qu r fs]
  exact q
 ·obtain ⟨its,r,pl,hz⟩:=I.tuple hq
  refine SeqAt.notIn_tupleAt (G' x) pl (fun w hw=>mB rx fx r fs w (by simpa using hw)) ⟨.bl _,H,I,rfl,?_⟩
  rw [show its.toArray.any (G' x)=its.any (G' x) by simp,qu r fs]
  exact q
theorem aJ:gH X (.builtin "len") (fun xs H Q=>∃p ys,xs=[.ref p]∧(aV X.K H p ys∨cf X.K H p ys)∧Q (.int ys.length) H):=by
 intro pins s σ H xs us Q I r h
 obtain ⟨p,ys,rfl,hq,q⟩:=h
 obtain ⟨u,rfl,rx⟩:=vals1 r
 cases rx
 have hn:=my
 rcases hq with hq | hq
 ·obtain ⟨its,r',pl,hz⟩:=I.list hq
  have hlen:=r'.length
  exact Calls.call_len_list pl.isList (by simp only [adW] <;> omega) ⟨.int ys.length,H,I.tok _,⟨s.toks+1,by rw [adW,hlen]⟩,q⟩
 ·obtain ⟨its,r',pl,hz⟩:=I.tuple hq
  have hlen:=r'.length
  exact len_tuple pl (by simp only [adW] <;> omega) ⟨.int ys.length,H,I.tok _,⟨s.toks+1,by rw [adW,hlen]⟩,q⟩
def tyV (K:Frag)(T:String)(x:V)(H:Hp):Prop:=match x with
 | .str _=>T="str"
 | .int _=>T="int"
 | .ref p=>(T="list"∧∃xs,aV K H p xs)∨(T="tuple"∧∃o,K.lookup p=some o∧o.cls=.type "tuple"∧o.dict=none)∨
   (T="dict"∧((∃kvs,H p=some (.dK kvs))∨∃kvs,H p=some (.dT kvs)))∨(T="set"∧∃S n,H p=some (.set S n))
 | _=>False
theorem BF {pins:List (Addr×Obj)}{σ:St}{H:Hp}{s:Shared}{T:String}{x:V}{v:Value}(I:Inv X pins σ H s)(r:RelV x v)(ty:tyV X.K T x H):
  s.TypeIs v T∧∀a,v=.ref a→∃ob,s.heap.get? a=some ob∧ob.dict=none:=by
 cases x with
 | str z=>
  obtain ⟨t,rfl⟩:=r
  cases (show T="str" from ty)
  exact ⟨typeIs_str s z t,fun _ e=>nomatch e⟩
 | int i=>
  obtain ⟨t,rfl⟩:=r
  cases (show T="int" from ty)
  exact ⟨typeIs_int s i t,fun _ e=>nomatch e⟩
 | ref p=>
  cases r
  rcases ty with ⟨rfl,xs,hq⟩ | ⟨rfl,o,hk,hc,hd⟩ | ⟨rfl,hk⟩ | ⟨rfl,S,n,hk⟩
  ·obtain ⟨its,_,pl,_⟩:=I.list hq
   refine ⟨pl.isList.typeIs,fun a e=> ?_⟩
   cases e
   obtain ⟨o,n,e,c,hd,_⟩:=pl
   exact ⟨o,e,hd⟩
  ·refine ⟨⟨o,I.iV p o hk,hc⟩,fun a e=> ?_⟩
   cases e
   exact ⟨o,I.iV _ o hk,hd⟩
  ·have z:∃o,s.heap.get? p=some o∧o.ExactDict:=by
    rcases hk with ⟨kvs,hk⟩ | ⟨kvs,hk⟩
    ·obtain ⟨_,_,_,_,o,_,_,e,ex,_⟩:=I.bJ p _ hk
     exact ⟨o,e,ex⟩
    ·obtain ⟨_,_,_,_,o,_,_,e,ex,_⟩:=I.bJ p _ hk
     exact ⟨o,e,ex⟩
   obtain ⟨o,e,ex⟩:=z
   refine ⟨⟨o,e,ex.1⟩,fun a e2=> ?_⟩
   cases e2
   exact ⟨o,e,ex.2.1⟩
  ·obtain ⟨o,_,_,_,e,ex,_⟩:=I.bJ p _ hk
   refine ⟨⟨o,e,ex.1⟩,fun a e2=> ?_⟩
   cases e2
   exact ⟨o,e,ex.2.1⟩
 | _=>exact False.elim ty
def tBM (K:Frag)(T:String)(r:V→List V→Hp→VK→Prop)(to:TE)(t:TA):TE:=fun σ H Q=>to σ H fun x H1=>tyV K T x H1∧t σ H1 fun xs H2=>r x xs H2 Q
variable {o e:Expr}{es:List Expr}{to:TE}{t:TA}{name:Str}{apos eZ:Pos}{T id:String}{r:V→List V→Hp→VK→Prop}
theorem kr (pa:PlainAttrs T)(slot:Slot T name id)(hty:typeOf (.builtin id)=pure (.type "method_descriptor"))(hm:MtR X id r)(ho:PE X o to)(ha:PA X (e::es) t)
  (sH:attributeBase o name X.env (eval o X.env)=eval o X.env:=by rfl)
  (V5:((backTo eZ (starEach (e::es) X.env)).all (fun x=> !x.1) && (backToKw eZ (keywordEach [] X.env)).all (fun x=>x.1.isSome)
   && decide ((e::es).length+([]:List Keyword).length+(if ([]:List Keyword).isEmpty then 0 else 1) < 30))=true:=by rfl)
  (sI:(apos.endLine==eZ.line)=true:=by rfl) (hs:starEach (e::es) X.env=(false,eval e X.env)::starEach es X.env:=by rfl) (K7:(backTo eZ (starEach es X.env)).any (·.1)=false:=by rfl):
  PE X (.Call (.Attribute o name apos) (e::es) [] eZ) (tBM X.K T r to t):=by
 intro pins s σ H Q I h
 refine wpAny_Call_method_late sH V5 sI rfl (cu (ho pins s σ H _ I h) fun v s1 ⟨x,H1,I1,r1,ty,q1⟩=> ?_)
 obtain ⟨h1,h2⟩:=BF I1 r1 ty
 refine ⟨T,id,pa,slot,hty,h1,h2,?_⟩
 have hA:=ha eZ pins s1 σ H1 _ I1 q1
 rw [hs] at hA ⊢
 refine Calls.callWith_builtin (by show (false || (backTo eZ (starEach es X.env)).any (·.1))=false;rw [K7] <;> rfl) (Calls.evalArgs_plain ?_)
 exact cu hA fun us s2 ⟨vs,H2,I2,r2,q2⟩=>hm pins s2 σ H2 x vs v us Q I2 r1 r2 q2
end
end L2
namespace L2
open PySem PySem.Spec PyProof.Rows
def MtM (X:Cx)(id:String)(r:V→List V→Hp→VK→Prop):Prop:=
 ∀(pins:List (Addr×Obj)) (s:Shared) (σ:St) (H:Hp) (x:V) (xs:List V) (v:Value) (us:List Value) (Q:VK),Inv X pins σ H s→RelV x v→Vals xs us→r x xs H Q→
  wpAny (model X.prog X.w) X.A (call (.builtin id) (v::us)) (EP X pins σ Q) X.xe s
theorem Vals.one:∀{x:V} {us:List Value},Vals [x] us→∃u,us=[u]∧RelV x u
 | _,_,.cons r .nil=>⟨_,rfl,r⟩
theorem Vals.rep {xs:List V}{us:List Value}(h:Vals xs us):∀k:Nat,Vals (adP k xs).flatten (adP k us).flatten
 | 0=>.nil
 | k+1=>by
  rw [aeH,aeH,afd,afd]
  exact Vals.append h (Vals.rep h k)
theorem foldl_rep (its:List Value):∀(k:Nat) (acc:List Value),
  anJ (fun x1 x2=>x1++x2) acc.toArray (adP k its.toArray)=(acc++(adP k its).flatten).toArray
 | 0,acc=>by simp
 | k+1,acc=>by
  have e:acc.toArray++its.toArray=(acc++its).toArray:=by simp
  have e2:(acc++its)++(adP k its).flatten=acc++(adP (k+1) its).flatten:=by
   rw [aeH,afd,ae1]
  rw [← e2, ← foldl_rep its k (acc++its), ← e,aeH,List.foldl_cons]
section
variable {X:Cx}{pins:List (Addr×Obj)}{σ:St}{H:Hp}{s:Shared}{l b:Addr}{xs ys zs:List V}
theorem Inv.N9 {its its' :List Value}{n:Nat}{f:Array Value→Array Value}{t' :Nat}(I:Inv X pins σ H s)(hH:H l=some (.lst xs))
  (e:s.heap.get? l=some {cls:=.type "list",data:=.seq its.toArray n}) (hf:f its.toArray=its'.toArray) (hv:Vals ys its') (hz:ys.length≤sizeLine):
  Inv X pins σ (upd H l (.lst ys)) {s with heap:=s.heap.update l (Obj.mapSeq f),toks:=t' }:=by
 have q:=PySem.IsL.update e f
 rw [hf] at q
 refine I.write (x:=l) (e:=l) (by rw [hH];exact trivial) (.inl rfl) (fun b' u hb hu=>(Heap.get?_update_other s.heap (Obj.mapSeq f) (ad7 hb)).trans hu) ⟨_,q⟩ ?_
 exact ⟨hz,its',_,hv,q⟩
theorem Inv.K8 {its:List Value}{t' :Nat}(I:Inv X pins σ H s)(hv:Vals ys its)(hz:ys.length≤sizeLine):
  Inv X pins σ (upd H s.heap.objs.size (.lst ys)) {s with heap:=s.heap.push {cls:=.type "list",data:=.seq its.toArray},toks:=t' }:=
 I.laid (fun _ _ q=>Heap.get?_push_of_some _ q) (adL _) ⟨hz,its,0,hv,Heap.get?_push_size _ rfl⟩
theorem Inv.fresh (I:Inv X pins σ H s):H s.heap.objs.size=none:=I.bJ.fresh (adL _)
theorem Inv.mC (I:Inv X pins σ H s)(hH:H l=some (.lst xs)):xs.length≤sizeLine∧∃(its:List Value) (n:Nat),Vals xs its∧xs.length=its.length∧s.heap.get? l=some {cls:=.type "list",data:=.seq its.toArray n}:=by
 obtain ⟨z,its,n,r,e⟩:=I.bJ l _ hH
 exact ⟨z,its,n,r,r.length,e⟩
theorem sJ {n:Nat}(h:n≤sizeLine):Builtin.List.listTooLong n=false:=by
 unfold Builtin.List.listTooLong
 exact decide_eq_false (by omega)
end
section
variable {X:Cx}
inductive wM (x:V)(vs:List V)(H:Hp)(Q:VK):Prop where
 | mk (l xs y:_) (_:x=.ref l) (_:vs=[y]) (_:H l=some (.lst xs)) (_:xs.length < sizeLine) (_:Q .cA (upd H l (.lst (xs++[y])))):wM x vs H Q
theorem c6:MtM X "list.append" wM:=by
 intro pins s σ H x vs v us Q I rx rv h
 obtain ⟨l,xs,y,rfl,rfl,hH,hz,q⟩:=h
 cases rx
 obtain ⟨u,rfl,ru⟩:=rv.one
 obtain ⟨z,its,n,r,hl,e⟩:=I.mC hH
 refine call_meets F.slot_list_append ⟨_,e,rfl⟩ F.entry_list_append (F.args_list_append_2 _ _) (PySem.list_append l its.toArray n u (by rw [adW];omega)) ⟨e,?_⟩
 refine ⟨.cA,_,I.N9 (its' :=its++[u]) hH e (by simp) (r.append (.cons ru .nil)) ?_,rfl,q⟩
 rw [adK,amO]
 omega
inductive N_ (x:V)(y:V)(H:Hp)(Q:VK):Prop where
 | mk (l b xs zs:_) (_:x=.ref l) (_:y=.ref b) (_:H l=some (.lst xs)) (_:H b=some (.lst zs)) (_:xs.length+zs.length≤sizeLine) (_:∀p,H p=none→Q (.ref p) (upd H p (.lst (xs++zs)))):N_ x y H Q
theorem iy:jP X (binaryOp .Add) N_:=by
 intro pins s σ H x y v u Q I rx ry h
 obtain ⟨l,b,xs,zs,rfl,rfl,hH,hB,hz,q⟩:=h
 cases rx
 cases ry
 obtain ⟨z,its,n,r,hl,e⟩:=I.mC hH
 obtain ⟨z2,eg,n2,r2,u5,e2⟩:=I.mC hB
 refine PySem.P.add_list e e2 ?_ (by rw [adW,adW];omega)
 have ea:its.toArray++eg.toArray=(its++eg).toArray:=by simp
 rw [ea]
 exact ⟨.ref _,_,I.K8 (t' :=s.toks) (r.append r2) (by rw [adK];omega),rfl,q _ I.fresh⟩
inductive N' (x:V)(y:V)(H:Hp)(Q:VK):Prop where
 | mk (l k xs:_) (_:x=.ref l) (_:y=.int k) (_:H l=some (.lst xs)) (_: -(2^63)≤k) (_:k < 2^63) (_:xs.length*k.toNat≤sizeLine) (_:∀p,H p=none→Q (.ref p) (upd H p (.lst (adP k.toNat xs).flatten))):N' x y H Q
theorem len_rep {α:Type}(xs:List α)(k:Nat):(adP k xs).flatten.length=k*xs.length:=by
 induction k with
 | zero=>simp
 | succ k ih=>rw [aeH,afd,adK,ih,Nat.succ_mul,amD]
theorem u6:jP X (binaryOp .Mult) N':=by
 intro pins s σ H x y v u Q I rx ry h
 obtain ⟨l,k,xs,rfl,rfl,hH,h1,h2,hz,q⟩:=h
 cases rx
 obtain ⟨t,rfl⟩:=ry
 obtain ⟨z,its,n,r,hl,e⟩:=I.mC hH
 have hlen:its.toArray.size*k.toNat≤sizeLine:=by rw [adW, ← hl];exact hz
 have V6:¬ its.toArray.size*k.toNat > (2^63 - 1) / 8:=by
  have:(sizeLine:Nat)≤(2^63 - 1) / 8:=by decide
  omega
 have V7:¬ (!Builtin.List.listFitsIndex k)=true:=by
  rw [fitsIndex_both h1 h2]
  exact adT
 have BG:¬ Builtin.List.listTooLong (its.toArray.size*k.toNat)=true:=by
  rw [sJ hlen]
  exact adT
 have V8:anJ (fun x1 x2=>x1++x2) #[] (adP (if its.toArray.isEmpty=true then 0 else k.toNat) its.toArray)=(adP k.toNat its).flatten.toArray:=by
  have f0:∀m:Nat,anJ (fun x1 x2=>x1++x2) #[] (adP m its.toArray)=(adP m its).flatten.toArray:=fun m=>by
   have:=foldl_rep its m []
   rw [ae'] at this
   exact this
  rw [f0]
  cases its with
  | nil=>simp
  | cons a r' =>rw [if_neg (by simp)]
 refine wpAny_binaryOp_repeat_ref (T:="list") (U:="int") (by decide) ⟨_,e,rfl⟩ (fun s' =>typeIs_int s' k t) noFill_list_mul F.fills_int_mul F.slot_int_rmul repeat_list F.slot_int_index.lookup
  (call_meets F.slot_int_rmul (typeIs_int s k t) F.entry_int_rmul (F.args_int_rmul_2 _ _) (int___rmul___int_list k t l its.toArray n)
   ⟨e,rfl,⟨_,e,rfl⟩,call_meets F.slot_list_mul ⟨_,e,rfl⟩ F.entry_list_mul (F.args_list_mul_2 _ _) (AutoListH.list___mul___list_int_3 l its.toArray n k t V7 V6 BG) ⟨e,?_⟩⟩)
 rw [V8]
 exact ⟨.ref _,_,I.K8 (t' :=s.toks) (r.rep k.toNat) (by rw [len_rep,afs];exact hz),rfl,q _ I.fresh⟩
end
section
variable {prog:Program}{w:World}{A:Around}{E:Value→Shared→Prop}{s:Shared}
set_option maxRecDepth 100000 in
end
section
variable {X:Cx}
end
end L2
namespace Att
open PySem PySem.W PySem.Calls PyProof.Rows
theorem kY {P:Params}{h:Heap}:∀(ns:List Int) (vs:List Value),WellAll P h vs (ns.map WData.int)→IntsAre vs ns:=by
 intro ns
 induction ns with
 | nil=>
  intro vs w
  rw [aeb] at w
  cases w
  exact .nil
 | cons n ns ih=>
  intro vs w
  rw [ac_] at w
  cases w with
  | cons a b=>
   cases a
   exact .cons _ _ (ih _ b)
theorem xX {l:OpenLaw}{n:Nat}(hn:l.most=some n){P:Params}{h:Heap}{args:List WData}{vals:List Value}
  (HE:l.row.toRowW.claim.pre args=true) (V9:WellAll P h vals args):
  ∃a vs ns,vals=[Value.ref a]∧args=[WData.list (ns.map WData.int)]∧h.get? a=some {cls:=.type "list",data:=.seq vs.toArray}∧IntsAre vs ns∧ns.length≤n:=by
 have hsh:WShape.hasAll [] args [.list .int]=true:=(pre_splitW HE).1
 have hc:l.pre.holds [] {args:=args}=true:=(pre_splitW HE).2
 obtain ⟨d,r,rfl,h1,h2⟩:=hasAllW_cons hsh
 obtain rfl:=hasAllW_nil h2
 obtain ⟨xs,rfl,h3⟩:=hasW_list h1
 obtain ⟨ns,rfl⟩:=items_int h3
 have hlen:ns.length≤n:=by
  unfold OpenLaw.pre at hc
  have h4:(WTm.not (.lt (.lit (.int (n:Int))) (.len (.arg 0)))).holds [] {args:=[.list (ns.map .int)]}=true:=by
   have h4:=(holds_andW hc).1
   rw [hn] at h4
   exact h4
  have h5:=condW_of h4 (w_not (w_lt w_lit (w_len_list (w_arg rfl))))
  rw [Wp] at h5
  refine amw fun q=> ?_
  have q' :(n:Int) < ((ns.length:Nat):Int):=by omega
  first
   | (rw [decide_eq_true q'] at h5;exact absurd h5 (by decide))
   | (simp at h5;omega)
 cases V9 with
 | cons w1 w2=>
  cases w2
  cases w1 with
  | list ho BH=>exact ⟨_,_,ns,rfl,rfl,ho,kY ns _ BH,hlen⟩
theorem xY (l:OpenLaw)(args:List WData):l.row.toRowW.claim.post args (.bool true) args=true:=
 postW_of (r:=l.row.toRowW) (X:=(true==true))
  (show WShape.has [] (.bool true) .bool=true by first | rfl | decide | simp [WShape.has,WShape.arms,WShape.armsAll])
  (show (WTm.eq .res (.lit (.bool true))).value [] {args:=args,res:=some (.bool true),after:=args}=some (.bool (true==true)) from w_eq_bool (w_res rfl) w_lit) rfl
section
variable {prog:Program}{w:World}{A:Around}{E:Value→Shared→Prop}{s:Shared}{K:Frag}
end
end Att
namespace L2
open PySem PySem.Spec PyProof.Rows
theorem oV:∀{vs:List Value} {ns:List Int},IntsAre vs ns→Vals (ns.map V.int) vs
 | _,_,.nil=>.nil
 | _,_,.cons n t h=>.cons ⟨t,rfl⟩ (oV h)
def Oa (H:Hp):Prop:=∀b,H b=none∨∃o xs,H b=some (.du o (.lst xs))
theorem BI {P:Program}{w:World}{K:Frag}{mg mb:Str→Option Value}{CX:jQ}{k:Nat}{fa a:Addr}{fd:FuncData}{x:Str}{sp:Sp}{s₁:Shared}{vs:List Value}{ns:List Int}
  (KX:K.In s₁.heap) (hns:s₁.heap.Ns mainGlobals mg) (hb:s₁.heap.Ns builtinsNs mb) (hbb:∀x:Str,x≠ "__name__"→mb x=bootBuiltins x) (V_:s₁.heap.NoLimit) (HF:s₁.heap.NoSeer) (hg:s₁.gens= #[])
  (ha:s₁.heap.get? a=some {cls:=.type "list",data:=.seq vs.toArray}) (hi:IntsAre vs ns) (hl:ns.length≤sizeLine) (hr:cv k callerA)
  (F:∀base:Heap,K.In base→base.Ns mainGlobals mg→cH P w K mg base CX k fa fd [x] sp) (Ob:∀(s:Shared) (u:Value),BindsTo s fd ⟨[u],[]⟩ [(x,u)])
  (uI:∀H:Hp,Oa H→aV K H a (ns.map V.int)→sp [.ref a] H (fun v _=>v=.bl true) fun _ _ _=>False)
  (hCX:∀H e s',CX [] H s₁ (fun _ _ _=>False) e s' →False):
  codeAny (model P w) callerA (.call (.ref fa) ⟨[.ref a],[]⟩) (fun r s' =>r=.ok (.ret (.bool true))∧OldK s₁.heap s'.heap∧s'.os=s₁.os∧AllBare s'.gens) s₁:=by
 have rv:=oV hi
 have V':=hi.length
 have core:∀H:Hp,Oa H→aV K H a (ns.map V.int)→ig P w H s₁.heap→(∀b,H b≠none→b=a)→(H a≠none→K.lookup a=none)→
   codeAny (model P w) callerA (.call (.ref fa) ⟨[.ref a],[]⟩) (fun r s' =>r=.ok (.ret (.bool true))∧OldK s₁.heap s'.heap∧s'.os=s₁.os∧AllBare s'.gens) s₁:=by
  intro H hO hS bJ hA hK
  have qw:∀{b:Addr} {o:Obj},s₁.heap.get? b=some o→H b=none→(qe s₁.heap H).get? b=some o:=fun e n=>AH e n
  have N3:∀{b:Addr} {o:Obj} {es:Array DictEntry} {ep:Nat},s₁.heap.get? b=some o→o.data=.dict es ep→H b=none:=fun {b o es ep} e d=>by
   cases q:H b with
   | none=>rfl
   | some u=>
    have e' :b=a:=hA b (by rw [q];simp)
    subst e'
    rw [ha] at e;cases e
    have d' :Data.seq vs.toArray _=Data.dict es ep:=d
    cases d'
  have JU:∀{b:Addr} {m:Str→Option Value},s₁.heap.Ns b m→(qe s₁.heap H).Ns b m:=fun {b m} ⟨o,es,ep,e,d,r⟩=>⟨o,es,ep,qw e (N3 e d),d,r⟩
  have hKb:K.In (qe s₁.heap H):=fun b o e=>qw (KX b o e) (by
   cases q:H b with
   | none=>rfl
   | some u=>
    have e' :b=a:=hA b (by rw [q];simp)
    subst e'
    rw [hK (by rw [q];simp)] at e;cases e)
  have hM:Mod K mg (qe s₁.heap H):=⟨hKb,JU hns,⟨mb,JU hb,hbb⟩,let ⟨mc,h1,h2⟩:=V_;⟨mc,JU h1,h2⟩,
   ⟨let ⟨mc,h1,h2⟩:=HF.statics;⟨mc,JU h1,h2⟩,let ⟨mc,h1,h2⟩:=HF.mods;⟨mc,JU h1,h2⟩,let ⟨mc,h1,h2⟩:=HF.imp;⟨mc,JU h1,h2⟩,
    let ⟨mg',bm,ob,h1,h2,h3,h4,h5⟩:=HF.main;⟨mg',bm,ob,JU h1,h2,qw h3 (by
     cases q:H bm with
     | none=>rfl
     | some u=>
      have e' :bm=a:=hA bm (by rw [q];simp)
      subst e'
      rw [ha] at h3
      cases h3
      have h4' :Value.type "list"=Value.type "module":=h4
      injection h4' with e9
      exact absurd e9 (by decide)),h4,h5⟩⟩⟩
  have e0:u3 P w K mg (qe s₁.heap H) callerA [] s₁ H:=⟨rfl,hM,fun b o e=>F' e,am_ (xN _ _),trivial,fun b hb=>absurd (show b∈([]:List Addr) from hb) (by simp),bJ,.of_eq hg⟩
  refine codeAny_mono ((F _ hKb (JU hns)).run callerA [] s₁ H ⟨[.ref a],[]⟩ [.ref a] [.ref a] _ _ hr e0 (Ob s₁ (.ref a)) (.cons rfl .nil) (uI H hO hS)) fun r s' h=> ?_
  cases r with
  | error e=>exact (hCX H e s' h).elim
  | ok fl=>
   cases fl with
   | next=>exact False.elim h
   | brk=>exact False.elim h
   | cont=>exact False.elim h
   | ret u=>
    obtain ⟨v,H',os,bare,un,Wa,r',q⟩:=h
    have q' :v=.bl true:=q
    subst q'
    obtain rfl:u=Value.bool true:=r'
    refine ⟨rfl,OldK.of_keep fun b o e=> ?_,os,bare⟩
    cases q:H b with
    | none=>exact un.keep b o e q (by intro z;exact absurd (show b∈([]:List Addr) from z) (by simp)) (by simp)
    | some u=>
     rcases hO b with z | ⟨ob,xs,z⟩
     ·rw [q] at z;cases z
     ·have z2:=un.oq b ob _ z
      obtain ⟨e1,_⟩:=bJ b _ z
      obtain ⟨e2,_⟩:=Wa b _ z2
      rw [e] at e1;cases e1
      exact e2
 cases hk:K.lookup a with
 | some o=>
  have e:=KX a o hk
  rw [ha] at e
  cases e
  refine core (fun _=>none) (fun _=>.inl rfl) (.inr ⟨_,vs.toArray,_,hk,rfl,rfl,rfl,by rw [adW,V'];exact hl,by simpa using rv⟩) (fun b u z=>by have z' :(none:Option HO)=some u:=z;cases z') (fun b z=>absurd rfl z) fun z=>absurd rfl z
 | none=>
  refine core (fun b=>if b=a then some (.du {cls:=.type "list",data:=.seq vs.toArray} (.lst (ns.map V.int))) else none) (fun b=> ?_) (.inl (.inr ⟨{cls:=.type "list",data:=.seq vs.toArray},if_pos rfl⟩)) (fun b u z=> ?_) (fun b z=> ?_) fun _=>hk
  ·by_cases hb:b=a
   ·exact .inr ⟨_,_,if_pos hb⟩
   ·exact .inl (if_neg hb)
  ·by_cases hb:b=a
   ·have z' :=(if_pos hb).symm.trans z
    cases z'
    subst hb
    exact ⟨ha,by rw [Wp];exact hl,vs,_,rv,ha⟩
   ·have z' :=(if_neg hb).symm.trans z
    cases z'
  ·by_cases hb:b=a
   ·exact hb
   ·exact absurd (if_neg hb) z
end L2
namespace L2
open PySem PySem.Spec PyProof.Rows
abbrev KOf {K:Frag}{h:Heap}(_:K.In h):Frag:=K
end L2
namespace L2
open PySem PySem.Spec PyProof.Rows
def inClass (s:Stmt)(j:Nat):Stmt:=match s with
 | .ClassDef _ _ _ body _ _ _ _ _ _ _=>body.getD j (.Pass ⟨0,0,0,0⟩)
 | _=>.Pass ⟨0,0,0,0⟩
def aA (s:Stmt):Arguments:=match s with
 | .FunctionDef _ a _ _ _ _ _ _ _ _=>a
 | _=>{posonlyargs:=[],args:=[],vararg:=none,kwonlyargs:=[],kw_defaults:=[],kwarg:=none,defaults:=[]}
def aw (s:Stmt):List Stmt:=match s with
 | .FunctionDef _ _ b _ _ _ _ _ _ _=>b
 | _=>[]
def af (s:Stmt):Scope:=match s with
 | .FunctionDef _ _ _ _ _ _ sc _ _ _=>sc
 | _=>{kind:=.function,names:=[],isGenerator:=false,isCoroutine:=false}
abbrev E0:XK:=fun _ _ _=>False
structure oi (K:Frag)(x qual:Str)(st:Stmt)(f:Addr)(fd:FuncData):Prop where
 ex:∃(oc:Value) (od:Option Addr) (kV doc pm:Value) (an:Option Addr) (bD ct:Value) (og:Array (Option Value)),
  fd=fnOf x qual (aA st) (aw st) (af st) .none kV doc pm an bD ct∧K.lookup f=some ⟨oc,od,.func fd,og⟩∧codeIn K bD qual=true
 kp:keepIn K (.ref f)=true
section
variable {P:Program}{w:World}{K:Frag}{mg:Str→Option Value}{base:Heap}
theorem oi.binds {x qual:Str}{st:Stmt}{f:Addr}{fd:FuncData}{ps:List Str}(F:oi K x qual st f fd)
  (h:∀(kV doc pm:Value) (an:Option Addr) (bD ct:Value) (us:List Value),us.length=ps.length→bindArgs (fnOf x qual (aA st) (aw st) (af st) .none kV doc pm an bD ct) ⟨us,[]⟩=pure (ps.zip us)):Binds K fd ps []:=by
 obtain ⟨oc,od,kV,doc,pm,an,bD,ct,og,rfl,lk,ot⟩:=F.ex
 exact .all (h kV doc pm an bD ct)
theorem cQ {x qual:Str}{st:Stmt}{f:Addr}{oc:Value}{od an:Option Addr}{og:Array (Option Value)}{kV doc pm bD ct:Value}(l:K.lookup f=some ⟨oc,od,.func (fnOf x qual (aA st) (aw st) (af st) .none kV doc pm an bD ct),og⟩)
  (c:codeIn K bD qual=true) (k:keepIn K (.ref f)=true):oi K x qual st f (fnOf x qual (aA st) (aw st) (af st) .none kV doc pm an bD ct):=⟨⟨oc,od,kV,doc,pm,an,bD,ct,og,rfl,l,c⟩,k⟩
end
theorem b6 {A:Around}{k:Nat}(hr:cv k A):A.units+1 < cLine:=adO (Nat.add_le_add_left (by decide:1≤64) _) hr.units
section
variable {X:Cx}
theorem pv (i:Nat){x:Str}{pos:Pos}(hN:X.N[i]? =some x:=by rfl)(hv:VG X.env.scope x:=by first | exact adH rfl | exact aex (adH rfl) | exact aex (aex rfl))(hd:(x==("__debug__":Str))=false:=by decide)
  (ot:(x==("__classdict__":Str))=false:=by decide):PE X (.Name x pos) (KR i):=KS hN hv hd ot
end
theorem Oc {A B:Prop}(h:B):if false=true then A else B:=by
 rw [if_neg adT]
 exact h
theorem bM {c A B:Prop}[Decidable c](h1:c→A)(h2:¬ c→B):if c then A else B:=by
 by_cases h:c
 ·rw [if_pos h]
  exact h1 h
 ·rw [if_neg h]
  exact h2 h
def av (H H' :Hp):Prop:=∀b o,H b=some o→H' b=some o
theorem av.refl (H:Hp):av H H:=fun _ _ h=>h
theorem av.trans {H H1 H2:Hp}(a:av H H1)(b:av H1 H2):av H H2:=fun c o h=>b c o (a c o h)
theorem av.free {H H' :Hp}(e:av H H'){l:Addr}(h:H' l=an_):H l=an_:=by
 cases q:H l with
 | none=>rfl
 | some o=>
  rw [e l o q] at h
  cases h
theorem av.seq {K:Frag}{H H' :Hp}{a:Addr}{xs:List V}(e:av H H')(h:aV K H a xs):aV K H' a xs:=by
 rcases h with (h | ⟨o,h⟩) | h
 ·exact .inl (.inl (e _ _ h))
 ·exact .inl (.inr ⟨o,e _ _ h⟩)
 ·exact .inr h
end L2
namespace Ty
def gz (t b:Int):Int:=(aek t b:Nat)
def sg (t b:Int):Int:=if b < 0 then -gz t b else gz t b
def low (t b:Int):Int×Int:=(t.fdiv (sg t b),b.fdiv (sg t b))
theorem sL (a b:Int):aek b (a.fmod b)=aek a b:=by
 rw [ana,Int.gcd_sub_mul_left_right,Int.gcd_comm]
theorem oW {a b:Int}(h:b≠0):(a.fmod b).natAbs < b.natAbs:=by
 rcases ah_ b 0 with q | q | q
 ·have h1:(-a).fmod (-b)= -(a.fmod b):=by
   rw [ana,ana,Int.neg_fdiv_neg,Int.neg_mul]
   omega
  have h2:=aeV (-a) (show 0 < -b by omega)
  have h3:=afu (-a) (show 0 < -b by omega)
  omega
 ·exact absurd q h
 ·have h2:=aeV a q
  have h3:=afu a q
  omega
theorem qz {t b:Int}(h:b≠0):0 < gz t b:=by
 have:=anA.mpr (aex h:t≠0∨b≠0)
 show (0:Int) < ((aek t b:Nat):Int)
 omega
theorem Od {t b:Int}(h:b≠0):(gz t b).natAbs≤b.natAbs:=by
 have h1:aek t b ∣ b.natAbs:=aeZ.mpr (aeO t b)
 have h2:=Nat.le_of_dvd (by omega) h1
 show ((aek t b:Nat):Int).natAbs≤_
 omega
theorem mD {t b:Int}(h:b≠0):sg t b≠0:=by
 have:=qz (t:=t) h
 unfold sg
 split <;> omega
theorem K9 {t b:Int}:(sg t b).natAbs=(gz t b).natAbs:=by
 unfold sg
 split
 ·exact afv _
 ·rfl
theorem sM (t b:Int):sg t b ∣ t:=by
 unfold sg gz
 split
 ·exact Int.neg_dvd.mpr (aeU t b)
 ·exact aeU t b
theorem qA (t b:Int):sg t b ∣ b:=by
 unfold sg gz
 split
 ·exact Int.neg_dvd.mpr (aeO t b)
 ·exact aeO t b
theorem cn {a g:Int}(h:g≠0)(d:g ∣ a):a=g*a.fdiv g:=by
 obtain ⟨c,hc⟩:=d
 have:=ae2 h hc
 rw [this]
 exact hc
theorem lO {t b:Int}(h:b≠0):t=sg t b*(low t b).1:=cn (mD h) (sM t b)
theorem i8 {t b:Int}(h:b≠0):b=sg t b*(low t b).2:=cn (mD h) (qA t b)
theorem i9 {t b:Int}(h:b≠0):0 < (low t b).2:=by
 have e:=i8 (t:=t) h
 have g:=qz (t:=t) h
 rcases ah_ (low t b).2 0 with q | q | q
 ·exfalso
  by_cases c:b < 0
  ·have s:sg t b= -gz t b:=by unfold sg;rw [if_pos c]
   rw [s] at e
   have:=Int.mul_pos_of_neg_of_neg (show -gz t b < 0 by omega) q
   omega
  ·have s:sg t b=gz t b:=by unfold sg;rw [if_neg c]
   rw [s] at e
   have:=afw g q
   omega
 ·exfalso
  rw [q,afe] at e
  exact h e
 ·exact q
theorem xZ {t b:Int}(h:b≠0):(low t b).1*b=t*(low t b).2:=by
 have e1:=lO (t:=t) h
 have e2:=i8 (t:=t) h
 calc (low t b).1*b=(low t b).1*(sg t b*(low t b).2):=by rw [← e2]
  _=sg t b*(low t b).1*(low t b).2:=by rw [← afl,aeP (low t b).1]
  _=t*(low t b).2:=by rw [← e1]
theorem lQ {t b:Int}(h:b≠0):aek (low t b).1 (low t b).2=1:=by
 have e1:=lO (t:=t) h
 have e2:=i8 (t:=t) h
 have k:aek t b=(sg t b).natAbs*aek (low t b).1 (low t b).2:=by
  have q:=anp (sg t b) (low t b).1 (low t b).2
  rw [← e1, ← e2] at q
  exact q
 have g:(sg t b).natAbs=aek t b:=by
  rw [K9]
  rfl
 have p:=anA.mpr (aex h:t≠0∨b≠0)
 rw [g] at k
 have k' :aek t b*1=aek t b*aek (low t b).1 (low t b).2:=by rw [Nat.mul_one];exact k
 exact (Nat.eq_of_mul_eq_mul_left p k').symm
theorem cU {g a:Int}(h:g≠0):a.natAbs≤(g*a).natAbs:=by
 rw [aeF]
 have:1≤g.natAbs:=by omega
 have:=ad0 a.natAbs this
 omega
theorem mE {t b:Int}(h:b≠0):(low t b).1.natAbs≤t.natAbs:=by
 have e:=lO (t:=t) h
 have:=cU (g:=sg t b) (a:=(low t b).1) (mD h)
 rw [← e] at this
 exact this
theorem mF {t b:Int}(h:b≠0):(low t b).2.natAbs≤b.natAbs:=by
 have e:=i8 (t:=t) h
 have:=cU (g:=sg t b) (a:=(low t b).2) (mD h)
 rw [← e] at this
 exact this
theorem BJ {t b g x y:Int}(hg:g≠0)(ht:t=g*x)(hb:b=g*y)(hy:0 < y)(h1:aek x y=1):low t b=(x,y):=by
 have hbn:b≠0:=by
  rw [hb]
  exact anB hg (by omega)
 have gg:aek t b=g.natAbs:=by
  rw [ht,hb,anp,h1,Nat.mul_one]
 have s:sg t b=g:=by
  unfold sg gz
  rw [gg]
  by_cases c:g < 0
  ·have:b < 0:=by rw [hb];exact Int.mul_neg_of_neg_of_pos c hy
   rw [if_pos this]
   omega
  ·have:¬ b < 0:=by
    have:=Int.mul_nonneg (show 0≤g by omega) (show 0≤y by omega)
    omega
   rw [if_neg this]
   omega
 unfold low
 rw [s]
 rw [ae2 hg ht,ae2 hg hb]
theorem sN {x y:Int}(hy:0 < y)(h:aek x y=1):low x y=(x,y):=BJ (g:=1) (by decide) (by omega) (by omega) hy h
theorem oX {t b k:Int}(hk:k≠0)(h:b≠0):low (k*t) (k*b)=low t b:=by
 refine BJ (g:=k*sg t b) (anB hk (mD h)) ?_ ?_ (i9 h) (lQ h)
 ·rw [afl]
  exact congrArg (k*·) (lO h)
 ·rw [afl]
  exact congrArg (k*·) (i8 h)
theorem oA {t b u c:Int}(hb:b≠0)(hc:c≠0)(h:t*c=u*b):low t b=low u c:=by
 rw [← oX (t:=t) (b:=b) hc hb, ← oX (t:=u) (b:=c) hb hc]
 rw [aeP c t,h,aeP u b,aeP c b]
end Ty
set_option maxHeartbeats 4000000
namespace Ty
open PySem PySem.Spec PyProof.Rows L2
open Builtin.Int (intBits)
section
variable {X:Cx}
def oY (i j:Int):Prop:=intBits i≤33554432∧intBits j≤33554432
theorem cC:jP X (binaryOp .Mult) (rI oY fun i j=>.int (i*j)):=
 UW fun _ _ _ _ _ _ _ hc q=>mul_int q (IntMulOk.of_le hc.1 hc.2 (by decide))
def Oe (i j:Int):Prop:=j≠0∧intBits j≤9000
theorem Wb {i j:Int}(h:intBits j≤9000):Builtin.divisionGoesByPylong i j=false:=by
 refine PyProof.noPylong_of_log2 ?_
 have h1:=intBits_le_iff.mp h
 by_cases h0:j.natAbs=0
 ·rw [h0]
  decide+kernel
 ·exact (Nat.log2_lt h0).mpr h1
theorem sO:jP X (binaryOp .FloorDiv) (rI Oe fun i j=>.int (i.fdiv j)):=
 UW fun _ _ _ _ _ _ _ hc q=>floordiv_int hc.1 q (.inl (Wb hc.2))
end
inductive Da where
 | v (x:V)
 | t (ds:List Da)
 | l (ds:List Da)
mutual
def Is (K:Frag)(H:Hp):Da→V→Prop
 | .v x,u=>u=x∧gI x=true
 | .t ds,u=>∃p xs,u=.ref p∧cf K H p xs∧iz K H ds xs
 | .l ds,u=>∃p xs,u=.ref p∧aV K H p xs∧iz K H ds xs
def iz (K:Frag)(H:Hp):List Da→List V→Prop
 | [],[]=>True
 | d::ds,x::xs=>Is K H d x∧iz K H ds xs
 | _,_=>False
end
mutual
def i_:Da→Da→Bool
 | .v x,.v y=>oh x y
 | .t ds,.t es=>eh ds es
 | .l ds,.l es=>eh ds es
 | _,_=>false
def eh:List Da→List Da→Bool
 | [],[]=>true
 | d::ds,e::es=>i_ d e && eh ds es
 | _,_=>false
end
mutual
def alike:Da→Da→Bool
 | .v _,.v _=>true
 | .t ds,.t es=>eA ds es
 | .l ds,.l es=>eA ds es
 | _,_=>false
def eA:List Da→List Da→Bool
 | d::ds,e::es=>alike d e && eA ds es
 | _,_=>true
end
mutual
def dep:Da→Nat
 | .v _=>0
 | .t ds=>oB ds+1
 | .l ds=>oB ds+1
def oB:List Da→Nat
 | []=>0
 | d::ds=>max (dep d) (oB ds)
end
theorem iz.length {K:Frag}{H:Hp}:∀{ds:List Da} {xs:List V},iz K H ds xs→ds.length=xs.length
 | [],[],_=>rfl
 | _::_,_::_,h=>congrArg (·+1) (iz.length (by unfold iz at h;exact h.2))
 | [],_::_,h=>by unfold iz at h;exact h.elim
 | _::_,[],h=>by unfold iz at h;exact h.elim
def ja (ds es:List Da)(j:Nat):Bool:=match ds[j]?,es[j]? with
 | some d,some e=>i_ d e
 | _,_=>true
theorem dz:∀ds es:List Da,eh ds es=((aen (min ds.length es.length)).all (ja ds es) && ds.length==es.length)
 | [],[]=>rfl
 | [],_::_=>by simp [eh]
 | _::_,[]=>by simp [eh]
 | d::ds,e::es=>by
  have ih:=dz ds es
  have r:min (d::ds).length (e::es).length=min ds.length es.length+1:=by simp [Nat.succ_min_succ]
  rw [r,amE,am4,List.all_map]
  have b0:ja (d::ds) (e::es) 0=i_ d e:=rfl
  have b1:(ja (d::ds) (e::es) ∘ Nat.succ)=ja ds es:=by
   funext j
   rfl
  have l1:((d::ds).length==(e::es).length)=(ds.length==es.length):=by simp
  rw [b0,b1,l1,Bool.and_assoc, ← ih]
  rfl
section
variable {X:Cx}{pins:List (Addr×Obj)}{σ:L2.St}{H:Hp}{s:Shared}
theorem BK {x:V}(h:gI x=true):oh x x=true:=by
 cases x <;> first | rfl | (simp [oh];done) | (cases h;done)
mutual
theorem qB (I:Inv X pins σ H s):∀(d e:Da) (x:V),Is X.K H d x→Is X.K H e x→alike d e=true→i_ d e=true
 | .v a,.v b,x,h1,h2,_=>by
  unfold Is at h1 h2
  obtain ⟨rfl,f⟩:=h1
  obtain ⟨rfl,_⟩:=h2
  unfold i_
  exact BK f
 | .t ds,.t es,x,h1,h2,a=>by
  unfold Is at h1 h2
  obtain ⟨p,xs,rfl,q1,k1⟩:=h1
  obtain ⟨p',ys,e',q2,k2⟩:=h2
  cases e'
  cases I.gY q1 q2
  unfold i_
  unfold alike at a
  exact mG I ds es xs k1 k2 a
 | .l ds,.l es,x,h1,h2,a=>by
  unfold Is at h1 h2
  obtain ⟨p,xs,rfl,q1,k1⟩:=h1
  obtain ⟨p',ys,e',q2,k2⟩:=h2
  cases e'
  cases I.gD q1 q2
  unfold i_
  unfold alike at a
  exact mG I ds es xs k1 k2 a
 | .v _,.t _,_,_,_,a=>by unfold alike at a;cases a
 | .v _,.l _,_,_,_,a=>by unfold alike at a;cases a
 | .t _,.v _,_,_,_,a=>by unfold alike at a;cases a
 | .t _,.l _,_,_,_,a=>by unfold alike at a;cases a
 | .l _,.v _,_,_,_,a=>by unfold alike at a;cases a
 | .l _,.t _,_,_,_,a=>by unfold alike at a;cases a
theorem mG (I:Inv X pins σ H s):∀(ds es:List Da) (xs:List V),iz X.K H ds xs→iz X.K H es xs→eA ds es=true→eh ds es=true
 | [],[],_,_,_,_=>by unfold eh;rfl
 | d::ds,e::es,x::xs,h1,h2,a=>by
  unfold iz at h1 h2
  unfold eA at a
  rw [aeK] at a
  unfold eh
  rw [qB I d e x h1.1 h2.1 a.1,mG I ds es xs h1.2 h2.2 a.2]
  rfl
 | [],_::_,[],_,h2,_=>by unfold iz at h2;exact h2.elim
 | [],_::_,_::_,h1,_,_=>by unfold iz at h1;exact h1.elim
 | _::_,[],[],h1,_,_=>by unfold iz at h1;exact h1.elim
 | _::_,[],_::_,_,h2,_=>by unfold iz at h2;exact h2.elim
 | _::_,_::_,[],h1,_,_=>by unfold iz at h1;exact h1.elim
end
theorem in1_units (A:Around):A.in1.units=A.units+1:=rfl
mutual
theorem wN (I:Inv X pins σ H s):∀(d e:Da) (x y:V) (u w:Value) (A:Around),Is X.K H d x→Is X.K H e y→alike d e=true→RelV x u→RelV y w→A.units+dep d < cLine→SeqAt.EqAt A s u w (i_ d e)
 | .v a,.v b,x,y,u,w,A,h1,h2,_,r1,r2,_=>by
  unfold Is at h1 h2
  obtain ⟨rfl,f1⟩:=h1
  obtain ⟨rfl,f2⟩:=h2
  unfold i_
  exact BD r1 r2 f1 f2
 | .t ds,.t es,x,y,u,w,A,h1,h2,a,r1,r2,hu=>by
  have hW :=h1
  have Wc :=h2
  unfold Is at h1 h2
  obtain ⟨p,xs,rfl,q1,k1⟩:=h1
  obtain ⟨p',ys,rfl,q2,k2⟩:=h2
  cases r1
  cases r2
  by_cases e:p=p'
  ·subst e
   rw [qB I _ _ _ hW Wc a]
   exact .same _
  ·refine .of_refs e ?_
   obtain ⟨its,v1,t1,_⟩:=I.tuple q1
   obtain ⟨eg,v2,t2,_⟩:=I.tuple q2
   unfold i_
   rw [dz,k1.length,k2.length,v1.length,v2.length]
   have z:=SeqAt.RcAt.tuples (A:=A) (e:=ja ds es) t1 t2 (by unfold dep at hu;omega) fun j g1 g2=>by
    unfold dep at hu
    unfold alike at a
    exact gJ I ds es xs ys its eg A.in1 k1 k2 a v1 v2 (by rw [in1_units];omega) j (by simpa using g1) (by simpa using g2)
   simpa using z
 | .l ds,.l es,x,y,u,w,A,h1,h2,a,r1,r2,hu=>by
  have hW :=h1
  have Wc :=h2
  unfold Is at h1 h2
  obtain ⟨p,xs,rfl,q1,k1⟩:=h1
  obtain ⟨p',ys,rfl,q2,k2⟩:=h2
  cases r1
  cases r2
  by_cases e:p=p'
  ·subst e
   rw [qB I _ _ _ hW Wc a]
   exact .same _
  ·refine .of_refs e ?_
   obtain ⟨its,v1,t1,_⟩:=I.list q1
   obtain ⟨eg,v2,t2,_⟩:=I.list q2
   unfold i_
   unfold dep at hu
   unfold alike at a
   by_cases el:its.length=eg.length
   ·rw [dz,k1.length,k2.length,v1.length,v2.length]
    have z:=SeqAt.RcAt.lists (A:=A) (e:=ja ds es) t1.isList t2.isList (by simpa using el) (by omega) fun j g1 g2=>
     gJ I ds es xs ys its eg A.in1 k1 k2 a v1 v2 (by rw [in1_units];omega) j (by simpa using g1) (by simpa using g2)
    rw [el,Nat.min_self,beq_self_eq_true,anW]
    rw [adW,el] at z
    exact z
   ·have ne:eh ds es=false:=by
     rw [dz,k1.length,k2.length,v1.length,v2.length,beq_eq_false_iff_ne.mpr el,amT]
    rw [ne]
    exact SeqAt.RcAt.lists_lengths t1.isList t2.isList (by simpa using el) (by omega)
 | .v _,.t _,_,_,_,_,_,_,_,a,_,_,_=>by unfold alike at a;cases a
 | .v _,.l _,_,_,_,_,_,_,_,a,_,_,_=>by unfold alike at a;cases a
 | .t _,.v _,_,_,_,_,_,_,_,a,_,_,_=>by unfold alike at a;cases a
 | .t _,.l _,_,_,_,_,_,_,_,a,_,_,_=>by unfold alike at a;cases a
 | .l _,.v _,_,_,_,_,_,_,_,a,_,_,_=>by unfold alike at a;cases a
 | .l _,.t _,_,_,_,_,_,_,_,a,_,_,_=>by unfold alike at a;cases a
theorem gJ (I:Inv X pins σ H s):∀(ds es:List Da) (xs ys:List V) (us ws:List Value) (A:Around),iz X.K H ds xs→iz X.K H es ys→eA ds es=true→Vals xs us→Vals ys ws→A.units+oB ds < cLine→
  ∀(j:Nat) (h1:j < us.length) (h2:j < ws.length),SeqAt.EqAt A s us[j] ws[j] (ja ds es j)
 | d::ds,e::es,x::xs,y::ys,u::us,w::ws,A,k1,k2,a,.cons r1 v1,.cons r2 v2,hu,0,_,_=>by
  unfold iz at k1 k2
  unfold eA at a
  rw [aeK] at a
  unfold oB at hu
  exact wN I d e x y u w A k1.1 k2.1 a.1 r1 r2 (by omega)
 | d::ds,e::es,x::xs,y::ys,u::us,w::ws,A,k1,k2,a,.cons r1 v1,.cons r2 v2,hu,j+1,h1,h2=>by
  unfold iz at k1 k2
  unfold eA at a
  rw [aeK] at a
  unfold oB at hu
  exact gJ I ds es xs ys us ws A k1.2 k2.2 a.2 v1 v2 (by omega) j (by simpa using h1) (by simpa using h2)
 | [],_,[],_,_,_,_,_,_,_,.nil,_,_,_,h1,_=>absurd h1 (aeA _)
 | _,[],_,[],_,_,_,_,_,_,_,.nil,_,_,_,h2=>absurd h2 (aeA _)
 | [],_,_::_,_,_,_,_,k1,_,_,_,_,_,_,_,_=>by unfold iz at k1;exact k1.elim
 | _::_,_,[],_,_,_,_,k1,_,_,_,_,_,_,_,_=>by unfold iz at k1;exact k1.elim
 | _,[],_,_::_,_,_,_,_,k2,_,_,_,_,_,_,_=>by unfold iz at k2;exact k2.elim
 | _,_::_,_,[],_,_,_,_,k2,_,_,_,_,_,_,_=>by unfold iz at k2;exact k2.elim
end
end
section
variable {X:Cx}
inductive JV (K:Frag)(x:V)(y:V)(H:Hp)(Q:VK):Prop where
 | mk (ds es:_) (_:((Is K H (.t ds) x∧Is K H (.t es) y)∨(Is K H (.l ds) x∧Is K H (.l es) y))) (_:eA ds es=true) (_:oB ds≤60) (_:Q (.bl (eh ds es)) H):JV K x y H Q
theorem HG (hu:X.A.units+64 < cLine):jP X (compareOp .Eq) (JV X.K):=by
 intro pins s σ H x y v u Q I rx ry h
 obtain ⟨ds,es,h,a,hd,q⟩:=h
 rcases h with ⟨h1,h2⟩ | ⟨h1,h2⟩
 ·unfold Is at h1 h2
  obtain ⟨p,xs,rfl,q1,k1⟩:=h1
  obtain ⟨p',ys,rfl,q2,k2⟩:=h2
  cases rx
  cases ry
  obtain ⟨its,v1,t1,_⟩:=I.tuple q1
  obtain ⟨eg,v2,t2,_⟩:=I.tuple q2
  have z:=SeqAt.RcAt.tuples (A:=X.A) (e:=ja ds es) t1 t2 (by omega) fun j g1 g2=>
   gJ I ds es xs ys its eg X.A.in1 k1 k2 a v1 v2 (by rw [in1_units];omega) j (by simpa using g1) (by simpa using g2)
  refine z X.prog X.w X.xe _ ⟨.bl _,H,I,rfl,?_⟩
  have e:=dz ds es
  rw [k1.length,k2.length,v1.length,v2.length] at e
  simpa [e] using q
 ·unfold Is at h1 h2
  obtain ⟨p,xs,rfl,q1,k1⟩:=h1
  obtain ⟨p',ys,rfl,q2,k2⟩:=h2
  cases rx
  cases ry
  obtain ⟨its,v1,t1,_⟩:=I.list q1
  obtain ⟨eg,v2,t2,_⟩:=I.list q2
  have e:=dz ds es
  rw [k1.length,k2.length,v1.length,v2.length] at e
  by_cases el:its.length=eg.length
  ·have z:=SeqAt.RcAt.lists (A:=X.A) (e:=ja ds es) t1.isList t2.isList (by simpa using el) (by omega) fun j g1 g2=>
    gJ I ds es xs ys its eg X.A.in1 k1 k2 a v1 v2 (by rw [in1_units];omega) j (by simpa using g1) (by simpa using g2)
   refine z X.prog X.w X.xe _ ⟨.bl _,H,I,rfl,?_⟩
   rw [el,Nat.min_self,beq_self_eq_true,anW] at e
   simpa [e,el] using q
  ·have ne:eh ds es=false:=by rw [e,beq_eq_false_iff_ne.mpr el,amT]
   rw [ne] at q
   exact SeqAt.RcAt.lists_lengths t1.isList t2.isList (by simpa using el) (by omega) X.prog X.w X.xe _ ⟨.bl _,H,I,rfl,q⟩
def Of:V→Value
 | .ty n=>.type n
 | .ref a=>.ref a
 | _=>.none
def JW:V→Bool
 | .ty _=>true
 | .ref _=>true
 | _=>false
theorem HH {c:V}{u:Value}(h:JW c=true)(r:RelV c u):u=Of c:=by
 cases c <;> first | exact r | (cases h;done)
inductive Og (K:Frag)(xs:List V)(H:Hp)(Q:VK):Prop where
 | mk (x c t b:_) (_:xs=[x,c]) (_:JW c=true) (_:jW K H x t) (_:PySem.W.kitOne K t (Of c)=some b) (_:Q (.bl b) H):Og K xs H Q
theorem BL:gH X (.builtin "isinstance") (Og X.K):=by
 intro pins s σ H xs us Q I r h
 obtain ⟨x,c,t,b,rfl,hc,ty,e,q⟩:=h
 obtain ⟨u,w,rfl,r1,r2⟩:=vals2 r
 obtain rfl:=HH hc r2
 exact xU I r1 ty e fun tk=>⟨.bl b,H,I.tok tk,rfl,q⟩
end
section
variable {K:Frag}
end
theorem b7:bootBuiltins "len"=some (.builtin "len"):=by decide+kernel
theorem JX:bootBuiltins "abs"=some (.builtin "abs"):=by decide+kernel
theorem qC:bootBuiltins "isinstance"=some (.builtin "isinstance"):=by decide+kernel
theorem Oh:bootBuiltins "str"=some (.type "str"):=by decide+kernel
theorem mH:bootBuiltins "list"=some (.type "list"):=by decide+kernel
theorem HI:bootBuiltins "tuple"=some (.type "tuple"):=by decide+kernel
theorem Oi {X:Cx}{x:Str}{n:String}{pos:Pos}(hg:Gl X x)(hm:X.mg x=none)(hv:bootBuiltins x=some (.type n))(hn:x≠ "__name__":=by decide)(hd:(x==("__debug__":Str))=false:=by decide):PE X (.Name x pos) (tC (.ty n)):=GJ (v:=.ty n) hg hm hv rfl hn hd
def K_ (_ j:Int):Prop:=j≠0
theorem nz {i j:Int}(h:j≠0):K_ i j:=h
theorem dW {X:Cx}:jP X (binaryOp .Mod) (rI K_ fun i j=>.int (i.fmod j)):=GL
end Ty
set_option maxHeartbeats 4000000
namespace TyAtt
open PySem PySem.W PySem.Calls PyProof.Rows
open Builtin.Int (intBits)
theorem x4 {ns:List Int}{n:Int}(h:(WData.list (ns.map WData.int)).layable=true)(hn:n∈ns):intBits n≤1048576:=by
 obtain ⟨_,_,hw⟩:=layableW_iff.mp h
 have a:∀(l:List Int),n∈l→intBits n≤WData.weightAll (l.map WData.int):=by
  intro l
  induction l with
  | nil=>intro q;cases q
  | cons y r ih=>
   intro q
   rw [ac_]
   unfold WData.weightAll
   rcases adY.mp q with z | z
   ·subst z
    have:intBits n≤WData.weight (.int n):=by
     unfold WData.weight
     exact adL _
    omega
   ·have:=ih z
    omega
 have b:=a ns hn
 unfold WData.weight at hw
 omega
theorem sQ {l:OpenLaw}{n:Nat}{q:Program}{loose:List Str}{XP:(Str→Option Value)→Heap→Prop}{YP:World→Heap→Prop}{d:DefRec}
  (hn:l.most=some n) (Wd:d.params.defaults=[])
  (call:∀(w:World) (s₀ s₁:Shared) (mg mb:Str→Option Value) (fa:Addr) (o:Obj) (pm cd doc:Value) (a:Addr) (vs:List Value) (ns:List Int),
   Ground q loose [] XP w s₀ mg mb s₁.heap→YP w s₁.heap→
   s₁.heap.get? fa=some o→o.data=.func (docDef d.name d.params d.body d.scope pm cd doc)→s₁.heap.CodeRec cd d.name→mg d.name=some (.ref fa)→
   s₁.heap.get? a=some {cls:=.type "list",data:=.seq vs.toArray}→IntsAre vs ns→ns.length≤n→(∀i∈ns,intBits i≤1048576)→s₁.gens= #[]→
   codeAny (model l.prog w) callerA (.call (.ref fa) ⟨[.ref a],[]⟩) (fun r s' =>r=.ok (.ret (.bool true))∧OldK s₁.heap s'.heap∧s'.os=s₁.os∧AllBare s'.gens) s₁):
  WalkO q loose XP YP l.row.toRowW d [] (fun f vs=>PySem.call f vs):=by
 intro w s₀ s₁ mg mb G Y fa o pm cd doc dV kV ho hd ot hD Oj hg args vals as HE hlay hrd V9 hlo
 obtain rfl:dV=.none:=Dflts.none hD Wd
 obtain rfl:kV=.none:=Dflts.noKw hD
 obtain ⟨a,vs,ns,rfl,rfl,K',hints,hlen⟩:=Att.xX hn HE V9
 have hb:∀i∈ns,intBits i≤1048576:=fun i hi=>x4 (layW_cons hlay).1 hi
 refine enter_call (codeAny_mono (call w s₀ s₁ mg mb fa o pm cd doc a vs ns G Y ho (fd_plain hd) ot Oj K' hints hlen hb hg) fun r s' hq=> ?_)
 obtain ⟨rfl,h2,h3,h4⟩:=hq
 exact ⟨.inl ⟨.bool true,.bool true,[],rfl,fun _=>rfl,.bool true,Att.xY l _,fun _=>⟨List.Pairwise.nil,fun _ hm=>(nomatch hm)⟩⟩,h2,h3,h4⟩
end TyAtt
namespace Ty
open PySem PySem.Spec PyProof.Rows L2
open Builtin.Int (intBits)
structure Fn (P:Program)(w:World)(K:Frag)(mg:Str→Option Value)(base:Heap)(CX:jQ)(k:Nat)(x:Str)(ps:List Str)(sp:Sp):Prop where
 ex:∃(f:Addr) (fd:FuncData),cH P w K mg base CX k f fd ps sp∧Binds K fd ps []∧mg x=some (.ref f)∧keepIn K (.ref f)=true
structure Def (K:Frag)(mg:Str→Option Value)(x:Str)(st:Stmt)(ps:List Str):Prop where
 ex:∃(f:Addr) (dV oc:Value) (od:Option Addr) (kV doc pm:Value) (an:Option Addr) (bD ct:Value) (og:Array (Option Value)),
  K.lookup f=some ⟨oc,od,.func (fnOf x x (aA st) (aw st) (af st) dV kV doc pm an bD ct),og⟩∧codeIn K bD x=true∧keepIn K (.ref f)=true∧
  Binds K (fnOf x x (aA st) (aw st) (af st) dV kV doc pm an bD ct) ps []∧mg x=some (.ref f)
theorem Def.of {K:Frag}{mg:Str→Option Value}{x:Str}{st:Stmt}{ps:List Str}{f:Addr}{fd:FuncData}(F:oi K x x st f fd)(b:Binds K fd ps [])(m:mg x=some (.ref f)):Def K mg x st ps:=by
 obtain ⟨oc,od,kV,doc,pm,an,bD,ct,og,rfl,lk,ot⟩:=F.ex
 exact ⟨f,.none,oc,od,kV,doc,pm,an,bD,ct,og,lk,ot,F.kp,b,m⟩
section
variable {P:Program}{w:World}{K:Frag}{mg:Str→Option Value}{base:Heap}{CX:jQ}
theorem Def.ok {x:Str}{st:Stmt}{N ps:List Str}{k:Nat}{sp:Sp}(D:Def K mg x st ps)(S:aG N ps (af st))(len:∀vs H Q E,sp vs H Q E→vs.length=ps.length)
  (i7:∀(f:Addr) (bD:Value) (A:Around) (outer:List Env) (s:Shared) (H:Hp) (vs:List V) (Q:VK) (E:XK),cv k (A.deeper (envOfC x (af st) s.heap.objs.size f bD))→sp vs H Q E→
   ∃t,PSs (kX CX P w K mg base N x (af st) f bD A outer s H E).wC (aw st) t∧t {nx:=fun _ H' =>Q .cA H',rt:=Q} (start N vs) H):Fn P w K mg base CX (k+1) x ps sp:=by
 obtain ⟨f,dV,oc,od,kV,doc,pm,an,bD,ct,og,lk,ot,kp,b,m⟩:=D.ex
 refine ⟨f,_,wK lk ot S len fun A outer s H vs Q E hr uI=> ?_,b,m,kp⟩
 obtain ⟨t,h,q⟩:=i7 f bD A outer s H vs Q E hr uI
 exact ⟨t,h.wC,q⟩
theorem _root_.L2.oi.okG {x:Str}{st:Stmt}{f:Addr}{fd:FuncData}{N ps:List Str}{k:Nat}{sp:Sp}(F:oi K x x st f fd)(S:aG N ps (af st))(len:∀vs H Q E,sp vs H Q E→vs.length=ps.length)
  (i7:∀(bD:Value) (A:Around) (outer:List Env) (s:Shared) (H:Hp) (vs:List V) (Q:VK) (E:XK),cv k (A.deeper (envOfC x (af st) s.heap.objs.size f bD))→sp vs H Q E→
   ∃t,PSs (kX CX P w K mg base N x (af st) f bD A outer s H E).wC (aw st) t∧t {nx:=fun _ H' =>Q .cA H',rt:=Q} (start N vs) H):cH P w K mg base CX (k+1) f fd ps sp:=by
 obtain ⟨oc,od,kV,doc,pm,an,bD,ct,og,rfl,lk,ot⟩:=F.ex
 refine wK lk ot S len fun A outer s H vs Q E hr uI=> ?_
 obtain ⟨t,h,q⟩:=i7 bD A outer s H vs Q E hr uI
 exact ⟨t,h.wC,q⟩
def sR (CX:jQ):Prop:=∀outer H s e s',CX outer H s E0 e s' →False
theorem sS {X:Cx}(h:sR CX):Passes CX X.wC E0:=fun _ _ _ _ _ _ _ q=>(h _ _ _ _ _ q).elim
section
variable {X:Cx}{k:Nat}{ps:List Str}{sp:Sp}{E:XK}{x:Str}{p pos:Pos}{e:Expr}{es:List Expr}{t:TA}
theorem aC (F:Fn X.prog X.w X.K X.mg X.base CX k x ps sp)(hr:cv k X.A)(hx:Passes CX X E)(ha:PA X (e::es) t)(hg:Gl X x:=by rfl)(xV:(x==("__debug__":Str))=false:=by decide)
  (he:starEach (e::es) X.env=(false,eval e X.env)::starEach es X.env:=by rfl) (wJ:(backTo pos (starEach es X.env)).any (·.1)=false:=by rfl):PE X (.Call (.Name x p) (e::es) [] pos) (JR sp [] E t):=by
 obtain ⟨f,fd,G,b,m,kp⟩:=F.ex
 exact GU G hr hg m kp b .nil hx ha xV he wJ
end
end
def BM (K:Frag):Sp:=fun vs H Q _=>∃(a:Addr) (ns:List Int),vs=[.ref a]∧aV K H a (ns.map V.int)∧ns.length≤63∧(∀i∈ns,intBits i≤1048576)∧∀H',Q (.bl true) H'
theorem walk {l:PySem.W.OpenLaw}{q:Program}{loose:List Str}{XP:(Str→Option Value)→Heap→Prop}{YP:World→Heap→Prop}{d:DefRec}{K:Params→Frag}{CX:World→jQ}{x:Str}{k:Nat}
  (hn:l.most=some 63) (Wd:d.params.defaults=[]) (hi:importsNone q=true) (hr:cv k callerA)
  (hY:∀(w:World) (h:Heap),YP w h→(K w.params).In h) (hm:∀w,sR (CX w))
  (F:∀(w:World) (mg:Str→Option Value) (fa:Addr) (h:Heap),(K w.params).In h→h.Ns mainGlobals mg→mg d.name=some (.ref fa)→
   ∃fd:FuncData,(∀(s:Shared) (u:Value),BindsTo s fd ⟨[u],[]⟩ [(x,u)])∧
    ∀base:Heap,(K w.params).In base→base.Ns mainGlobals mg→cH l.prog w (K w.params) mg base (CX w) k fa fd [x] (BM (K w.params))):
  PySem.W.WalkO q loose XP YP l.row.toRowW d [] (fun f vs=>PySem.call f vs):=by
 refine TyAtt.sQ hn Wd fun w s₀ s₁ mg mb fa o pm cd doc a vs ns G Y ho hd ot Oj K' hints hlen hb hg=> ?_
 have KX:=hY w _ Y
 obtain ⟨fd,hbd,hF⟩:=F w mg fa _ KX G.T.g Oj
 exact BI KX G.T.g G.T.b G.T.builtins G.T.nolimit (G.T.seer hi) hg K' hints (adF hlen (by decide)) hr hF hbd (fun H hO hS=>⟨a,ns,rfl,hS,hlen,hb,fun _=>rfl⟩) fun H e s' =>hm w [] H s₁ e s'
end Ty
set_option maxHeartbeats 4000000
namespace Ty
open PySem PySem.Spec PyProof.Rows
end Ty
set_option maxHeartbeats 4000000
namespace Ty
open PySem PySem.Spec PyProof.Rows L2
def DictAt (h:Heap)(a:Addr)(dx:Option Addr):Prop:=∃o,h.get? a=some o∧o.dict=dx
def a_ (P:Program)(w:World):jQ:=fun outer H s E e s' =>∃(a:Addr) (cls a0:Value) (dx:Option Addr) (H' :Hp) (B:Heap),
 e=.ref a∧Heap.FlyingW B outer a cls a0 s'.heap∧DictAt s'.heap a dx∧Un (wu outer) [] H H' s.heap s'.heap∧ig P w H' s'.heap∧s'.os=s.os∧AllBare s'.gens∧
 (∀b o,s.heap.get? b=some o→b∉wu outer→∃o',B.get? b=some o')∧(∀b u,H' b=some u→∃o,B.get? b=some o)∧E cls dx H'
theorem a_.sT {P:Program}{w:World}:sR (a_ P w):=fun _ _ _ _ _ ⟨_,_,_,_,_,_,_,_,_,_,_,_,_,_,_,z⟩=>z
section
variable {P:Program}{w:World}{K:Frag}{mg:Str→Option Value}{base:Heap}{N:List Str}{qual:Str}{scope:Scope}{f:Addr}{bD:Value}{A:Around}{outer:List Env}{s0:Shared}{H0:Hp}{E:XK}
abbrev cxr (P:Program)(w:World)(K:Frag)(mg:Str→Option Value)(base:Heap)(N:List Str)(qual:Str)(scope:Scope)(f:Addr)(bD:Value)(A:Around)(outer:List Env)(s0:Shared)(H0:Hp)(E:XK):Cx:=kX (a_ P w) P w K mg base N qual scope f bD A outer s0 H0 E
end
end Ty
set_option maxHeartbeats 4000000
namespace Ty
open PySem PySem.Spec PyProof.Rows L2
section
variable {X:Cx}{pins:List (Addr×Obj)}{σ:L2.St}{H H' :Hp}{s:Shared}
def XP (X:Cx)(pins:List (Addr×Obj))(σ:L2.St)(E:XK)(e:Value)(s' :Shared):Prop:=∃H s,Inv X pins σ H s∧a_ X.prog X.w X.stack H s E e s'
end
end Ty
set_option maxHeartbeats 4000000
namespace TyExc
open PySem PySem.W PySem.Calls PyProof.Rows Builtin Builtin.ObjectAttr Builtin.Getset_descriptor
section
variable {prog:Program}{w:World}{A:Around}{E:Value→Shared→Prop}{K:Frag}{h:Heap}{g:Array GenState}{d:Drawn}{t:Nat}{os:OsState}{a C:Addr}{o:Obj}
end
end TyExc
set_option maxHeartbeats 4000000
namespace Ty
open PySem PySem.Spec PyProof.Rows L2
section
variable {X:Cx}
end
end Ty
set_option maxHeartbeats 4000000
namespace TyExc
open PySem PySem.W PySem.Calls PyProof.Rows Builtin Builtin.ObjectAttr Builtin.Getset_descriptor
section
variable {prog:Program}{w:World}{A:Around}{E:Value→Shared→Prop}{K:Frag}{h:Heap}{g:Array GenState}{d:Drawn}{t:Nat}{os:OsState}{a C:Addr}{o:Obj}{od:Option Obj}{name:Str}{v:Value}
end
end TyExc
set_option maxHeartbeats 4000000
namespace TyExc
open PySem PySem.W PySem.Calls PyProof.Rows Builtin Builtin.ObjectAttr
section
variable {prog:Program}{w:World}{A:Around}{E:Value→Shared→Prop}{K:Frag}{s:Shared}{x C:Addr}{ox:Obj}{od:Option Obj}{name:Str}{v:Value}{cd:ClassData}
end
end TyExc
set_option maxHeartbeats 400000
namespace TyExc
open PySem PySem.W PySem.Calls PyProof.Rows Builtin
section
variable {prog:Program}{w:World}{A:Around}{K:Frag}{h:Heap}{g:Array GenState}{d:Drawn}{t:Nat}{os:OsState}{e C:Addr}{oe:Obj}{vs:Array Value}{args:List Value}{E:Value→Shared→Prop}
end
end TyExc
set_option maxHeartbeats 400000
namespace TyExc
open PySem PySem.W PySem.Calls PyProof.Rows Builtin
section
variable {prog:Program}{w:World}{A:Around}{K:Frag}{h:Heap}{g:Array GenState}{d:Drawn}{t:Nat}{os:OsState}{nm q:Str}{C N f:Addr}{bs bm bmB:List Value}{We:Bool}{sn:List Str}{sub:List Value}{ab:Bool}{col:Option Bool}{dd:Option Addr}{k0 k1 k2 k3 k5:Option Value}{B newId Wf:String}{rest:List Value}{E:Value→Shared→Prop}
end
end TyExc
set_option maxHeartbeats 400000
namespace TyExc
open PySem PySem.W PySem.Calls PyProof.Rows Builtin
section
variable {M:Model}{A:Around}{E:Value→Shared→Prop}{env:Env}{nm q:Str}{C N:Addr}{bs bm:List Value}{We:Bool}{sn:List Str}{sub:List Value}{ab:Bool}{col:Option Bool}{dd:Option Addr}{k0 k1 k2 k3 k5:Option Value}{newId:String}{s:Shared}{x:Sem Value}{Q:Flow→Shared→Prop}
end
end TyExc
set_option maxHeartbeats 400000
namespace TyExc
open PySem PySem.W
end TyExc
namespace Ty
open PySem PySem.Spec PyProof.Rows L2
section
variable {P:Program}{w:World}{H:Hp}{h:Heap}{C a:Addr}{dx:Option Addr}
end
section
variable {X:Cx}
end
end Ty
set_option maxHeartbeats 1000000
namespace Ty
open PySem PySem.Spec PyProof.Rows L2
section
variable {P:Program}{w:World}{K:Frag}{mg:Str→Option Value}{base:Heap}{N:List Str}{qual:Str}{scope:Scope}{f:Addr}{bD:Value}{A:Around}{outer:List Env}{s0:Shared}{H0:Hp}{E:XK}
end
end Ty
set_option maxHeartbeats 4000000
namespace Ty
open PySem PySem.Spec PyProof.Rows L2
section
variable {prog:Program}{w:World}{A:Around}{R:Result→Shared→Prop}{s:Shared}
theorem qD {elt target iter:Expr}{ifs:List Expr}{scope:Scope}{pos:Pos}{it acc:Value}{env:Env}(I:Nat→Shared→Prop)
  (turn:∀n s,I n s→wpAny (model prog w) A (pyNext it) (fun r s₁=>match r with
   | none=>R (.ok .next) s₁
   | some v=>wpAny (model prog w) A (letOwnedTupleGo target it v) (fun _ s₁' =>wpAny (model prog w) A (assign target env v) (fun _ s₂=>
     wpAny (model prog w) A (forIn ifs true fun c r=>if r=true then do let ok ← isTrue c env (eval c env);pure (ForInStep.yield ok) else pure (ForInStep.yield r)) (fun ok s₃=>
      if ok=true then wpAny (model prog w) A (eval elt env) (fun x s₄=>
       wpAny (model prog w) A (call (.builtin "list.append") [acc,x]) (fun _ s₅=>∃m,m < n∧I m s₅) (fun _ _=>False) s₄) (fun _ _=>False) s₃
      else ∃m,m < n∧I m s₃) (fun _ _=>False) s₂) (fun _ _=>False) s₁') (fun _ _=>False) s₁) (fun _ _=>False) s)
  (n:Nat) (h:I n s):
  codeAny (model prog w) A (.compLoop (.ListComp elt [⟨target,iter,ifs,0⟩] scope pos) 0 it acc env) R s:=by
 refine codeAny_loop rfl I (fun n s hI=> ?_) n h
 show wpAny _ A ((compTurn (.ListComp elt [⟨target,iter,ifs,0⟩] scope pos) 0 it acc env).onRaise (fun x=>do noteFrame x env;theTreesLotGoes x)) _ _ s
 refine wpAny_noted ?_
 rw [compTurn_list]
 refine wpAny_bind (wpAny_standAt (wpAny_bind (wpAny_mono (turn n s hI) (fun r s₁ h₁=> ?_) fun _ _ h' =>h'.elim)))
 cases r with
 | none=>exact wpAny_pure h₁
 | some v=>
  refine wpAny_bind (wpAny_mono h₁ (fun _ s₁' h₁' => ?_) fun _ _ h' =>h'.elim)
  refine wpAny_bind (wpAny_mono h₁' (fun _ s₂ h₂=>wpAny_bind (wpAny_mono h₂ (fun ok s₃ h₃=> ?_) fun _ _ h' =>h'.elim)) fun _ _ h' =>h'.elim)
  cases ok with
  | false=>exact wpAny_pure ⟨rfl,h₃⟩
  | true=>
   exact wpAny_bind (wpAny_bind (wpAny_mono h₃ (fun x s₄ h₄=>wpAny_bind (wpAny_mono h₄ (fun _ s₅ h₅=>wpAny_pure (wpAny_pure ⟨rfl,h₅⟩)) fun _ _ h' =>h'.elim)) fun _ _ h' =>h'.elim))
end
def cJ (env:Env)(fr:List Str):List (Str×Addr):=fr.filterMap fun n=>(env.cells.lookup n).map fun c=>(n,c)
theorem lookup_mem {α:Type}{x:Str}{c:α}:∀{l:List (Str×α)},l.lookup x=some c→(x,c)∈l
 | [],h=>by simp at h
 | (y,d)::r,h=>by
  rw [anq] at h
  cases e:x==y with
  | true=>
   rw [e] at h
   have e1:x=y:=by simpa using e
   cases h
   rw [e1]
   exact adG
  | false=>
   rw [e] at h
   exact adE _ (lookup_mem h)
theorem x6 {env:Env}{fr:List Str}{x:Str}{c:Addr}(h:(x,c)∈cJ env fr):env.cells.lookup x=some c:=by
 obtain ⟨n,_,e⟩:=aft.mp h
 cases q:env.cells.lookup n with
 | none=>rw [q] at e;cases e
 | some d=>
  rw [q] at e
  have e' :(n,d)=(x,c):=adX e
  cases e'
  exact q
theorem dZ {env:Env}{fr:List Str}{x:Str}{c:Addr}(h:(cJ env fr).lookup x=some c):env.cells.lookup x=some c:=x6 (lookup_mem h)
theorem jX {env:Env}{x:Str}{c:Addr}(q:env.cells.lookup x=some c):∀{fr:List Str},x∈fr→(cJ env fr).lookup x=some c
 | [],h=>nomatch h
 | y::r,h=>by
  unfold cJ
  rw [ae9]
  by_cases e:x=y
  ·subst e
   rw [q]
   simp
  ·have hr:x∈r:=by
    rcases adY.mp h with z | z
    ·exact absurd z e
    ·exact z
   have ih:=jX q hr
   cases z:env.cells.lookup y with
   | none=>exact ih
   | some d=>
    show aeN x ((y,d)::_)=_
    rw [anq]
    have ne:(x==y)=false:=by simpa using e
    rw [ne]
    exact ih
def jY (env:Env):List Str→Prop
 | []=>True
 | y::r=>(env.kindOf y=some .cell∨env.kindOf y=some .free)∧jY env r
theorem jY.at {env:Env}{x:Str}:∀{fr:List Str},jY env fr→x∈fr→env.kindOf x=some .cell∨env.kindOf x=some .free
 | [],_,h=>nomatch h
 | y::r,a,h=>by
  rcases adY.mp h with z | z
  ·rw [z]
   exact a.1
  ·exact jY.at a.2 z
section
variable {X:Cx}
def sU (X:Cx)(NB:List Str)(scope:Scope)(cl:List (Str×Addr))(C:Addr)(s:Shared)(H:Hp)(fp:List Addr):Cx:=
 {prog:=X.prog,w:=X.w,K:=X.K,mg:=X.mg,base:=X.base,A:=X.A,N:=NB,s₀:=s,H₀:=H,env:=compEnvC scope cl C X.env,outer:=X.stack,stack:=X.stack,ex:=fp,fn:=fun _=>false,calm:=X.calm,pn:=[],xe:=fun _ _=>False}
structure La (X:Cx)(scope:Scope)(fr:List Str)(caps:List Nat):Prop where
 Ol:closureFor scope X.env=pure (cJ X.env fr)
 cell:∀y∈scope.names,y.2≠.cell
 kind:scope.kind=.function
 names:∀y∈scope.names,y.2=.local→scope.names.lookup y.1=some .local
 free:∀y∈scope.names,y.2=.free→y.1∈fr
 caps:caps.map (fun i=>X.N[i]?)=fr.map some
 out:jY X.env fr
 inn:jY (compEnvC scope [] 0 X.env) fr
def PF (X:Cx)(ifs:List Expr)(t:TT):Prop:=
 ∀(pins:List (Addr×Obj)) (s:Shared) (σ:L2.St) (H:Hp) (Q:Bool→Hp→Prop),Inv X pins σ H s→t σ H Q→
  wpAny (model X.prog X.w) X.A (forIn ifs true fun c r=>if r=true then do let ok ← isTrue c X.env (eval c X.env);pure (ForInStep.yield ok) else pure (ForInStep.yield r)) (TP X pins σ Q) X.xe s
def kZ:TT:=fun _ H Q=>Q true H
theorem dA:PF X [] kZ:=fun _ _ _ H _ I h=>wpAny_tests_nil ⟨H,I,h⟩
def sB (k:Nat)(caps:List Nat)(σ:L2.St):L2.St:=adP k none++caps.map fun i=>(σ[i]?).getD none
def oC (D:Addr)(g:TG)(tt:TT)(te:TE)(J:It)(σ0:L2.St)(H1:Hp)(Q:VK):Prop:=∃W:Nat→Nat→L2.St→List V→Hp→Prop,
 (∃m,W 0 m σ0 [] (upd H1 D (.lst [])))∧∀i m σ2 ys H2,W i m σ2 ys H2→(J.stop i H2∧Q (.ref D) H2)∨(J.go i H2∧∀x H3,J.AN i H2 x H3→g x σ2 H3 fun σ4 H4=>tt σ4 H4 fun b H5=>
  if b=true then te σ4 H5 fun v H6=>H6 D=some (.lst ys)∧ys.length < sizeLine∧∃m',m' < m∧W (i+1) m' σ4 (ys++[v]) (upd H6 D (.lst (ys++[v]))) else ∃m',m' < m∧W (i+1) m' σ4 ys H5)
def JY (k:Nat)(caps:List Nat)(wi:TI)(g:TG)(tt:TT)(te:TE):TE:=fun σ H Q=>wi σ H fun J H1=>∀D,H1 D=none→oC D g tt te J (sB k caps σ) H1 Q
theorem Lb {k:Nat}{caps:List Nat}{σ:L2.St}{i:Nat}{v:V}(h:(sB k caps σ)[i]? =some (some v)):k≤i∧∃j,caps[i - k]? =some j∧σ[j]? =some (some v):=by
 unfold sB at h
 by_cases c:i < k
 ·rw [adI (by simpa using c),aei,if_pos c] at h
  cases h
 ·rw [adN (by simpa using amw c),aeB,ir] at h
  refine ⟨amw c,?_⟩
  cases e:caps[i - k]? with
  | none=>rw [e] at h;cases h
  | some j=>
   rw [e] at h
   refine ⟨j,rfl,?_⟩
   have h' :(σ[j]?).getD none=some v:=adX h
   cases z:σ[j]? with
   | none=>rw [z] at h';cases h'
   | some o=>
    rw [z] at h'
    exact congrArg some h'
theorem mI {elt target iter:Expr}{ifs:List Expr}{scope:Scope}{pos:Pos}{tn fr:List Str}{caps:List Nat}{g:TG}{tt:TT}{te:TE}{pins:List (Addr×Obj)}{σ:L2.St}{H2:Hp}{s2:Shared}{J:It}{fp:List Addr}{it:Addr}
  {JZ:Nat→Heap→Prop} {Q:VK} {RR:Value→Addr→Result→Shared→Prop} {E:Value→Shared→Prop} (hc:X.calm=true) (B:La X scope fr caps)
  (hg:∀C s H fp,PG (sU X (tn++fr) scope (cJ X.env fr) C s H fp) target g) (ht:∀C s H fp,PF (sU X (tn++fr) scope (cJ X.env fr) C s H fp) ifs tt) (he:∀C s H fp,PE (sU X (tn++fr) scope (cJ X.env fr) C s H fp) elt te)
  (I2:Inv X pins σ H2 s2) (T:Turn X.prog X.w X.K target J fp it JZ) (JK:JZ 0 s2.heap) (f2:∀b∈fp,jS X pins H2 b) (q:∀D,H2 D=none→oC D g tt te J (sB tn.length caps σ) H2 Q)
  (fin:∀D C H' s' m,Inv X pins σ H' s' →s'.heap.Ns C m→jS X pins H' C→Q (.ref D) H' →RR (.ref D) C (.ok .next) s'):
  wpAny (model X.prog X.w) X.A (newList []) (fun acc s₃=>wpAny (model X.prog X.w) X.A (newFunctionEnv scope X.env.globals (cJ X.env fr) [] X.env.qual none .none (some X.env)) (fun Om s₄=>
   codeAny (model X.prog X.w) X.A (.compStart (.ListComp elt [⟨target,iter,ifs,0⟩] scope pos) 0 (.ref it) acc {Om with scope:=relabel scope X.env}) (RR acc Om.locals) s₄) E s₃) E s2:=by
 refine wpAny_newObj_type (wpAny_newFunctionEnv B.cell (by intro y hy;simp at hy) (fun h₁ Wg Wh=> ?_) B.kind)
 have I3:Inv X pins σ (upd H2 s2.heap.objs.size (.lst [])) {s2 with heap:=s2.heap.push {cls:=.type "list",data:=.seq ([]:List Value).toArray}}:=I2.K8 (t' :=s2.toks) (its:=[]) .nil (aeg _)
 obtain ⟨W,⟨m0,w0⟩,turn⟩:=q s2.heap.objs.size (I2.bJ.fresh (adL _))
 generalize hH3:upd H2 s2.heap.objs.size (.lst [])=H3 at I3 w0
 have f3:∀b∈fp,jS X pins H3 b:=fun b hb=>by
  obtain ⟨a0,a1⟩:=f2 b hb
  refine ⟨?_,a1⟩
  obtain ⟨o,e,_⟩:=T.obj _ _ JK b hb
  rw [← hH3,ao (ad5 (Heap.lt_size e))]
  exact a0
 generalize hD:s2.heap.objs.size=D at*
 generalize UY:({s2 with heap:=s2.heap.push {cls:=.type "list",data:=.seq ([]:List Value).toArray}}:Shared)=s3 at*
 have e3:s3.heap=s2.heap.push {cls:=.type "list",data:=.seq ([]:List Value).toArray}:=by rw [← UY]
 have NT:JZ 0 s3.heap:=T.keep _ _ _ JK fun b _ o e=>by rw [e3];exact Heap.get?_push_of_some _ e
 have kept:∀b o,s3.heap.get? b=some o→h₁.get? b=some o:=fun b o e=>(Wh.2 b (ad5 (Heap.lt_size e))).trans (Heap.get?_push_of_some _ e)
 generalize hC:s3.heap.objs.size=C at*
 have UZ:s3.heap.objs.size≤C:=am_ hC
 have I4:Inv X pins σ H3 {s3 with heap:=h₁,toks:=s3.toks+([]:List (Str×Value)).length}:=I3.kept kept
 have fpC:∀b∈fp,b≠C:=fun b hb z=>by
  obtain ⟨o,e,_⟩:=T.obj _ _ NT b hb
  exact absurd z (ad5 (adU (Heap.lt_size e) UZ))
 have nst:∀b∈fp,b∉wu X.stack:=fun b hb z=>(adY.mp (I3.uU b z)).elim (f3 b hb).2.1 (f3 b hb).2.2.1
 have okB:(sU X (tn++fr) scope (cJ X.env fr) C s3 H3 fp).Ok:=by
  refine ⟨I3.ok.mod,B.kind,I3.ok.glob,I3.ok.blt,UZ,fun x y c e1 e2=>I3.ok.inj x y c (dZ e1) (dZ e2),fun x hx=> ?_,fun x c z=>(nomatch z),I3.ok.hd,I3.ok.frames,.inl rfl,
   fun b hb=>⟨fpC b hb,fun x c e=>(f3 b hb).2.2.2.2.1 x c (dZ e)⟩,I3.bs,adF I3.ok.GG I3.sz,fun b o e hb=> ?_,nst,I3.stack,I3.wz⟩
  ·have hm:∃k,(x,k)∈scope.names∧k≠.local∧(k=.cell∨k=.free):=by
    have:∃k',(relabel scope X.env).names.lookup x=some k' ∧(k' =.cell∨k' =.free):=by
     rcases hx with z | z
     ·exact ⟨_,z,.inl rfl⟩
     ·exact ⟨_,z,.inr rfl⟩
    obtain ⟨k',e',h'⟩:=this
    obtain ⟨⟨n,k⟩,hn,en⟩:=abt.mp (lookup_mem e')
    dsimp only at en
    by_cases cc:(k==NameKind.free && X.env.scope.kind==.function && X.env.kindOf n==some .cell)=true
    ·rw [if_pos cc] at en
     cases en
     have kf:k=.free:=by
      rw [aeK,aeK] at cc
      simpa using cc.1.1
     exact ⟨k,hn,(by intro z;rw [kf] at z;cases z),.inr kf⟩
    ·rw [if_neg cc] at en
     cases en
     exact ⟨k',hn,fun z' =>by rcases h' with y | y <;> (rw [y] at z';cases z'),h'⟩
   obtain ⟨k,hk,_,h2⟩:=hm
   rcases h2 with z | z
   ·exact absurd z (B.cell _ hk)
   ·have hf:=B.free _ hk z
    obtain ⟨c,ec⟩:=I3.ok.has x (B.out.at hf)
    exact ⟨c,jX ec hf⟩
  ·obtain ⟨_,_,_,h1,_⟩:=f3 b hb
   rcases h1 with z | z
   ·exact I3.ok.AI b o e z
   ·exact aew _ (adU (adU (Heap.lt_size e) I3.ok.GG) z)
 have IB:Inv (sU X (tn++fr) scope (cJ X.env fr) C s3 H3 fp) [] (sB tn.length caps σ) H3 {s3 with heap:=h₁,toks:=s3.toks+([]:List (Str×Value)).length}:=by
  refine ⟨okB,rfl,I3.bare,Un.kept kept,⟨_,Wg,fun i x v e1 e2 _=> ?_⟩,fun x c e=>I4.cell x c (dZ e),?_,fun x c e=>I3.gB x c (dZ e),fun p hp=>(nomatch hp),I3.bJ.kept kept,?_⟩
  ·obtain ⟨hk,j,ej,es⟩:=Lb e2
   have x8 :fr[i - tn.length]? =some x:=by
    have z:(tn++fr)[i]? =some x:=e1
    rw [adN hk] at z
    exact z
   have hx:x∈fr:=aa_ x8
   have eN:X.N[j]? =some x:=by
    have z:=congrArg (fun l:List (Option Str)=>l[i - tn.length]?) B.caps
    simp only [ir,ej,x8,aeM] at z
    exact adX z
   have ko:=B.out.at hx
   obtain ⟨m,hn,hl⟩:=I4.loc
   obtain ⟨u,r,lk⟩:=hl j x v eN es (by rcases ko with z | z;exact .inr (.inl z);exact .inr (.inr z))
   refine ⟨u,r,?_⟩
   rcases lk with ⟨k1,_⟩ | ⟨_,c,ec,ic⟩
   ·rcases ko with z | z <;> (rw [z] at k1;cases k1)
   ·exact .inr ⟨B.inn.at hx,c,jX ec hx,ic⟩
  ·exact I3.bJ.fresh UZ
  ·have:=congrArg aeE B.caps
   simp only [Wp] at this
   show (sB tn.length caps σ).length=(tn++fr).length
   unfold sB
   simp [this]
 have BN:∀{H' :Hp},(∀b∈fp,H' b=none)→∀b∈fp,jS (sU X (tn++fr) scope (cJ X.env fr) C s3 H3 fp) [] H' b:=fun hn b hb=>
  ⟨hn b hb,fpC b hb,nst b hb,.inl hb,fun x c e=>(f3 b hb).2.2.2.2.1 x c (dZ e),fun p hp=>(nomatch hp)⟩
 have st4:JZ 0 h₁:=T.keep _ _ _ NT fun b _ o e=>kept b o e
 have loop:codeAny (model X.prog X.w) X.A (.compLoop (.ListComp elt [⟨target,iter,ifs,0⟩] scope pos) 0 (.ref it) (.ref D) (compEnvC scope (cJ X.env fr) C X.env)) (RR (.ref D) C) {s3 with heap:=h₁,toks:=s3.toks+([]:List (Str×Value)).length}:=by
  refine qD (fun n s' =>∃i σ' ys H',Inv (sU X (tn++fr) scope (cJ X.env fr) C s3 H3 fp) [] σ' H' s' ∧JZ i s'.heap∧(∀b∈fp,H' b=none)∧W i n σ' ys H') ?_ m0 ⟨0,_,[],H3,IB,st4,fun b hb=>(f3 b hb).1,w0⟩
  rintro n s5 ⟨i,σ5,ys,H5,I5,M0,UU,w5⟩
  rcases turn i n σ5 ys H5 w5 with ⟨stop,qn⟩ | ⟨go,step⟩
  ·refine wpAny_mono (T.done (sU X (tn++fr) scope (cJ X.env fr) C s3 H3 fp) rfl rfl rfl hc i [] s5 σ5 H5 (fun _ _=>False) I5 (BN UU) M0 stop) (fun r s6 ⟨hr,I6⟩=> ?_) fun _ _ z=>z
   subst hr
   obtain ⟨m,hn,_⟩:=I6.loc
   have J6:Inv X pins σ H5 s6:=I3.NI (ch:=fp) I6.os I6.base I6.bJ I6.bare fun b hb=>⟨(f3 b hb).2.2.2.1,(f3 b hb).2.1,(f3 b hb).2.2.2.2.1,(f3 b hb).2.2.2.2.2⟩
   exact fin D C H5 s6 m J6 hn (I3.oy UZ I6.free) qn
  ·refine wpAny_mono (T.item (sU X (tn++fr) scope (cJ X.env fr) C s3 H3 fp) rfl rfl rfl hc i [] s5 σ5 H5 (fun _ _=>False) I5 (BN UU) M0 go) (fun r s6 ⟨u,hr,h6⟩=> ?_) fun _ _ z=>z
   subst hr
   refine wpAny_mono h6 (fun _ s7 ⟨x,H7,I7,r7,y7,Wi,Oo⟩=> ?_) fun _ _ z=>z
   have I7' :=I7.pinned (BN Oo) (T.obj _ _ Wi)
   have held:∀{σ' :L2.St} {H' :Hp} {s' :Shared},Inv (sU X (tn++fr) scope (cJ X.env fr) C s3 H3 fp) ([]++mw fp s7.heap) σ' H' s' →JZ (i+1) s'.heap∧∀b∈fp,H' b=none:=fun {σ' H' s'} I' =>by
    refine ⟨T.keep _ _ _ Wi fun b hb o e=>(I'.pin (b,o) (ad6 _ (ad6 _ (fX hb e)))).1,fun b hb=> ?_⟩
    obtain ⟨o,e,d⟩:=T.obj _ _ Wi b hb
    exact (I'.pin (b,o) (ad6 _ (ad6 _ (fX hb e)))).2.1
   refine wpAny_mono (hg C s3 H3 fp _ s7 σ5 H7 x u _ I7' r7 (step x H7 y7)) (fun _ s8 ⟨σ8,H8,I8,q8⟩=> ?_) fun _ _ z=>z
   refine wpAny_mono (ht C s3 H3 fp _ s8 σ8 H8 _ I8 q8) (fun ok s9 ⟨H9,I9,q9⟩=> ?_) fun _ _ z=>z
   cases ok with
   | false=>
    rw [if_neg adT] at q9
    obtain ⟨m',hm,w9⟩:=q9
    rw [if_neg adT]
    obtain ⟨a,b⟩:=held I9
    exact ⟨m',hm,i+1,σ8,ys,H9,I9.gG,a,b,w9⟩
   | true=>
    rw [if_pos rfl] at q9
    rw [if_pos rfl]
    refine wpAny_mono (he C s3 H3 fp _ s9 σ8 H9 _ I9 q9) (fun v x9 ⟨y,Lc,I10,r10,hDD,hl,m',hm,w10⟩=> ?_) fun _ _ z=>z
    refine wpAny_mono (c6 (X:=sU X (tn++fr) scope (cJ X.env fr) C s3 H3 fp) _ x9 σ8 Lc (.ref D) [y] (.ref D) [v] (fun _ H' =>W (i+1) m' σ8 (ys++[y]) H') I10 rfl (.cons r10 .nil) ⟨D,ys,y,rfl,rfl,hDD,hl,w10⟩) (fun _ BO ⟨z,Ld,I11,_,q11⟩=> ?_) fun _ _ z=>z
    obtain ⟨a,b⟩:=held I11
    exact ⟨m',hm,i+1,σ8,ys++[y],Ld,I11.gG,a,b,q11⟩
 exact codeAny_compStart_list loop (T.self X.A 0 _ _ _ st4 loop)
theorem dX {elt target iter:Expr}{ifs:List Expr}{scope:Scope}{pos:Pos}{tn fr:List Str}{caps:List Nat}{wi:TI}{g:TG}{tt:TT}{te:TE}(hc:X.calm=true)(B:La X scope fr caps)(hi:PI X target iter wi)
  (hg:∀C s H fp,PG (sU X (tn++fr) scope (cJ X.env fr) C s H fp) target g) (ht:∀C s H fp,PF (sU X (tn++fr) scope (cJ X.env fr) C s H fp) ifs tt) (he:∀C s H fp,PE (sU X (tn++fr) scope (cJ X.env fr) C s H fp) elt te)
  (hs:∀x,foldedSetIterable iter X.env x=pure x:=by intro _;rfl):PE X (.ListComp elt [⟨target,iter,ifs,0⟩] scope pos) (JY tn.length caps wi g tt te):=by
 intro pins s σ H Q I h
 rw [eval_ListComp]
 refine wpAny_comprehension_free (use:=none) rfl hs B.Ol B.kind B.names (cu (hi pins s σ H _ I h) fun v s1 h1=>cu h1 fun UT s2 h2=> ?_)
 obtain ⟨it,fp,JZ,J,H2,rfl,I2,T,JK,f2,q⟩:=h2
 refine mI (Q:=Q) (RR:=fun acc C=>compPost (model X.prog X.w) X.A X.xe none (EP X pins σ Q) acc C) hc B hg ht he I2 T JK f2 q ?_
 intro D C H' s' m I' hn fc qq
 obtain ⟨g0,g1,g2,g3,g4,g5⟩:=fc
 exact ⟨m,hn,fun h' J0 =>⟨.ref D,H',I'.turned (t' :=s'.toks) (fun b o hb e=>(J0.2 b hb).trans e) g0 g1 g3 g4 g5,rfl,qq⟩⟩
theorem lR {i:Nat}{y:Str}{py:Pos}{Oq:Pos}{elt target iter:Expr}{ifs:List Expr}{scope:Scope}{pos:Pos}{tn fr:List Str}{caps:List Nat}{wi:TI}{g:TG}{tt:TT}{te:TE}(hN:X.N.Nodup)(hiN:X.N[i]? =some y)(hx:Loc X.env.scope y)
  (hc:X.calm=true) (B:La X scope fr caps) (hi:PI X target iter wi)
  (hg:∀C s H fp,PG (sU X (tn++fr) scope (cJ X.env fr) C s H fp) target g) (ht:∀C s H fp,PF (sU X (tn++fr) scope (cJ X.env fr) C s H fp) ifs tt) (he:∀C s H fp,PE (sU X (tn++fr) scope (cJ X.env fr) C s H fp) elt te)
  (M7:swapsWith (.ListComp elt [⟨target,iter,ifs,0⟩] scope pos) (some (.Name y py)) Oq.line X.env=pure true:=by rfl)
  (hs:∀x,foldedSetIterable iter X.env x=pure x:=by intro _;rfl) (hf:X.fn y=true∨X.env.scope.names.lookup y=some .local:=by first | exact .inl rfl | exact .inr rfl | assumption):
  PS X (.Assign [.Name y py] (.ListComp elt [⟨target,iter,ifs,0⟩] scope pos) Oq) (K0 (JY tn.length caps wi g tt te) (d_ i)):=by
 intro pins s σ H D I h
 rw [exec_Assign_Name_used _ _ _ _ M7]
 refine wpAny_bind (wpAny_standAt (wpAny_bind ?_))
 show wpAny _ X.A (do let _ ← comprehension (.ListComp elt [⟨target,iter,ifs,0⟩] scope pos) scope X.env _ (newList []) false (eval iter X.env) (some (assign (.Name y py) X.env))) _ _ s
 refine wpAny_bind (wpAny_mono (wpAny_comprehension_free (use:=some (assign (.Name y py) X.env)) (Q:=fun _ s' =>SP X pins D .next s') rfl hs B.Ol B.kind B.names
  (cu (hi pins s σ H _ I h) fun v s1 h1=>cu h1 fun UT s2 h2=> ?_)) (fun _ s' hq=>wpAny_pure (wpAny_pure hq)) fun _ _ e=>e)
 obtain ⟨it,fp,JZ,J,H2,rfl,I2,T,JK,f2,q⟩:=h2
 refine mI (Q:=fun v H1=>d_ i v σ H1 D.nx) (RR:=fun acc C=>compPost (model X.prog X.w) X.A X.xe (some (assign (.Name y py) X.env)) (fun _ s' =>SP X pins D .next s') acc C) hc B hg ht he I2 T JK f2 q ?_
 intro DD C H' s' m I' hn fc qq
 obtain ⟨g0,g1,g2,g3,g4,g5⟩:=fc
 show wpAny _ X.A (assign (.Name y py) X.env (.ref DD)) _ _ _
 refine wpAny_assign_Name (oM I' hN hiN hx (v:=.ref DD) (u:=.ref DD) rfl (fun N2 I'' ⟨a,sb,ha⟩=> ?_) hf)
 have hCa:C≠a:=by
  rcases ha with z | z
  ·rw [z]
   exact g1
  ·exact fun e=>g4 y a z e.symm
 exact ⟨m,hn.sameBut sb hCa,fun h' J0 =>⟨_,H',I''.turned (t' :=N2.toks) (fun b o hb e=>(J0.2 b hb).trans e) g0 g1 g3 g4 g5,qq⟩⟩
end
section
variable {D:Addr}{te:TE}{cap:L2.St}{H1:Hp}{Q:VK}
theorem u9 {J:It}(n:Nat)(xs:Nat→V)(Pv:Nat→List V→Hp→Prop)(h0:Pv 0 [] (upd H1 D (.lst [])))
  (go:∀i ys H,i < n→Pv i ys H→J.go i H∧∀x H',J.AN i H x H' →H' =H∧x=xs i) (stop:∀ys H,Pv n ys H→J.stop n H)
  (hs:∀i ys H (R:VK),i < n→Pv i ys H→H D=some (.lst ys)→(∀v H6,H6 D=some (.lst ys)→ys.length < sizeLine→Pv (i+1) (ys++[v]) (upd H6 D (.lst (ys++[v])))→R v H6)→te (some (xs i)::cap) H R)
  (hd:∀ys H,Pv n ys H→H D=some (.lst ys)→Q (.ref D) H):oC D (d_ 0) kZ te J (none::cap) H1 Q:=by
 refine ⟨fun i m σ ys H=>m=n - i∧i≤n∧(∃o,σ=o::cap)∧Pv i ys H∧H D=some (.lst ys),⟨n,by simp,aeg _,⟨none,rfl⟩,h0,ah⟩,?_⟩
 rintro i m σ ys H ⟨rfl,hi,⟨o,rfl⟩,p,hD⟩
 by_cases oa:i < n
 ·obtain ⟨g1,g2⟩:=go i ys H oa p
  refine .inr ⟨g1,fun x H' y=> ?_⟩
  obtain ⟨e1,e2⟩:=g2 x H' y
  subst e1 e2
  unfold d_ kZ
  dsimp only
  rw [if_pos rfl]
  exact hs i ys _ _ oa p hD fun v H6 a b c=>⟨a,b,n - (i+1),by omega,rfl,by omega,⟨_,rfl⟩,c,ah⟩
 ·have e:i=n:=by omega
  subst e
  exact .inl ⟨stop ys H p,hd ys H p hD⟩
end
section
variable {X:Cx}{tg:Expr}
end
end Ty
set_option maxHeartbeats 4000000
namespace Ty
open PySem PySem.Spec PyProof.Rows L2
section
variable {prog:Program}{w:World}{A:Around}{E:Value→Shared→Prop}
end
structure Ot (K:Frag)(C:Addr):Prop where
 makes:PySem.W.makesIn K C=true
 init:PySem.W.findIn K (.ref C) "__init__"=some (some (.builtin "object.__init__"))
 kp:keepIn K (.ref C)=true
def Ou (C:Addr):TE:=fun _ H Q=>∀x dx,H x=none→H dx=none→dx≠x→Q (.ref x) (upd (upd H dx (.own x)) x (.ins C dx []))
section
variable {X:Cx}
theorem HJ {pins:List (Addr×Obj)}{σ:L2.St}{H:Hp}{s:Shared}{Q:VK}{C:Addr}(M:Ot X.K C)(I:Inv X pins σ H s)(h:Ou C σ H Q):wpAny (model X.prog X.w) X.A (call (.ref C) []) (EP X pins σ Q) X.xe s:=by
 have hq:=h (s.heap.objs.size+1) s.heap.objs.size (I.bJ.fresh (amS _)) (I.bJ.fresh (adL _)) (ad5 (aef _))
 have I2:=Inv.made (C:=C) I
 have Y:=PySem.W.makes_of (M:=model X.prog X.w) I.iV M.makes
 refine wpAny_call (xS I.iV M.makes M.init (fun self=>PySem.W.Looks.of_pure (PySem.W.oi_bind self)) ?_)
 have ho:((s.heap.push PySem.W.emptyDict).push (PySem.W.instObj C s.heap.objs.size)).get? (s.heap.objs.size+1)=some (PySem.W.instObj C s.heap.objs.size):=by
  have:=Heap.get?_push_size (s.heap.push PySem.W.emptyDict) (o:=PySem.W.instObj C s.heap.objs.size) rfl
  rwa [Heap.size_push] at this
 have t1:PySem.W.Looks (model X.prog X.w) ((s.heap.push PySem.W.emptyDict).push (PySem.W.instObj C s.heap.objs.size)) (typeOf (.ref (s.heap.objs.size+1))) (.ref C):=(PySem.W.Looks.ld ho).andThen .now
 have t2:PySem.W.Looks (model X.prog X.w) ((s.heap.push PySem.W.emptyDict).push (PySem.W.instObj C s.heap.objs.size)) (isInstance (.ref (s.heap.objs.size+1)) (.type "object")) true:=
  t1.andThen (Y.top.keeps fun b o e=>Heap.get?_push_of_some _ (Heap.get?_push_of_some _ e))
 refine codeAny_call_builtin PySem.W.oi_plain PySem.W.entry_oi (@PySem.W.check_slot (model X.prog X.w) _ _ _ "object.__init__" "object" "__init__" (.ref (s.heap.objs.size+1)) [] [] _ PySem.W.oi_kind PySem.W.oi_split t2 (PySem.W.oi_args (.ref (s.heap.objs.size+1))) ?_)
 rw [PySem.W.oi_run]
 exact wpAny_pure (And.intro rfl ⟨V.ref (s.heap.objs.size+1),_,I2,rfl,hq⟩)
theorem Le {x:Str}{p pos:Pos}{C:Addr}(M:Ot X.K C)(hg:Gl X x)(hm:X.mg x=some (.ref C))(xV:(x==("__debug__":Str))=false:=by decide):PE X (.Call (.Name x p) [] [] pos) (Ou C):=by
 intro pins s σ H Q I h
 refine wpAny_Call_Name_kw (i0 I hg hm ?_ xV)
 exact PySem.W.callWith_K0 I.iV M.kp (HJ M I h)
end
structure bK (P:Program)(w:World)(K:Frag)(mg:Str→Option Value)(base:Heap)(CX:jQ)(k:Nat)(C:Addr)(m:Str)(ps:List Str)(sp:Sp):Prop where
 ex:∃(f:Addr) (fd:FuncData),sk K C∧Meth K C m f∧cH P w K mg base CX k f fd ps sp∧Binds K fd ps []
theorem bK.mono {P:Program}{w:World}{K:Frag}{mg:Str→Option Value}{base:Heap}{CX:jQ}{j k:Nat}{C:Addr}{m:Str}{ps:List Str}{sp:Sp}(M:bK P w K mg base CX j C m ps sp)(h:j≤k):bK P w K mg base CX k C m ps sp:=by
 obtain ⟨f,fd,a,b,c,d⟩:=M.ex
 exact ⟨f,fd,a,b,c.mono h,d⟩
section
variable {X:Cx}{CX:jQ}{k:Nat}{E:XK}{m:Str}{pos apos:Pos}{e o:Expr}{es:List Expr}{ta:TE}{t:TA}
inductive J1 (P:Program)(w:World)(K:Frag)(mg:Str→Option Value)(base:Heap)(CX:jQ)(k:Nat)(m:Str)(E:XK)(t:TA)(σ:L2.St)(Q:VK)(x:V)(H1:Hp):Prop where
 | mk (a C dx fs ps sp:_) (_:x=.ref a) (_:H1 a=some (.ins C dx fs)) (_:fs.lookup m=none) (_:bK P w K mg base CX k C m ps sp) (_:t σ H1 fun vs H2=>sp (x::vs) H2 Q E):J1 P w K mg base CX k m E t σ Q x H1
def Ov (P:Program)(w:World)(K:Frag)(mg:Str→Option Value)(base:Heap)(CX:jQ)(k:Nat)(m:Str)(E:XK)(ta:TE)(t:TA):TE:=fun σ H Q=>ta σ H fun x H1=>J1 P w K mg base CX k m E t σ Q x H1
theorem dh {pl:Sem Bool}(he:PE X o ta)(hr:cv k X.A)(hx:Passes CX X E)
  (ht:eval (.Call (.Attribute o m apos) [] [] pos) X.env=(do
   let ov ← eval o X.env
   standAt apos.atName
   let (f,first) ← holding [ov] (getMethod ov m pl)
   callWith pos f first (backTo pos (starEach [] X.env)) (backToKw pos (keywordEach [] X.env))):=by rfl):
  PE X (.Call (.Attribute o m apos) [] [] pos) (Ov X.prog X.w X.K X.mg X.base CX k m E ta i5):=by
 intro pins s σ H Q I h
 refine PySem.W.methodCall_KW (pl:=pl) (cu (he pins s σ H _ I h) fun u s1 ⟨x,H1,I1,rx,a,C,dx,fs,ps,sp,ex,ea,l,M,q⟩=> ?_) ht
 subst ex
 obtain rfl:u=Value.ref a:=rx
 obtain ⟨f,fd,c,hm,F,hb⟩:=M.ex
 refine ix I1 ea c hm l ?_
 exact PySem.W.callWith_K0 (first:=[.ref a]) I1.iV hm.kp (qm (us:=[.ref a]) (vs:=[.ref a]) (dvs:=[]) F hr hb .nil hx I1 (.cons rfl .nil) q)
theorem dB {pl:Sem Bool}(he:PE X o ta)(hr:cv k X.A)(hx:Passes CX X E)(ha:PA X (e::es) t)
  (GK:starEach (e::es) X.env=(false,eval e X.env)::starEach es X.env:=by rfl) (wJ:(backTo pos (starEach es X.env)).any (·.1)=false:=by rfl)
  (ht:eval (.Call (.Attribute o m apos) (e::es) [] pos) X.env=(do
   let ov ← eval o X.env
   standAt apos.atName
   let (f,first) ← holding [ov] (getMethod ov m pl)
   callWith pos f first (backTo pos (starEach (e::es) X.env)) (backToKw pos (keywordEach [] X.env))):=by rfl):
  PE X (.Call (.Attribute o m apos) (e::es) [] pos) (Ov X.prog X.w X.K X.mg X.base CX k m E ta t):=by
 intro pins s σ H Q I h
 refine PySem.W.methodCall_KW (pl:=pl) (cu (he pins s σ H _ I h) fun u s1 ⟨x,H1,I1,rx,a,C,dx,fs,ps,sp,ex,ea,l,M,q⟩=> ?_) ht
 subst ex
 obtain rfl:u=Value.ref a:=rx
 obtain ⟨f,fd,c,hm,F,hb⟩:=M.ex
 refine ix I1 ea c hm l ?_
 refine PySem.W.callWith_K (first:=[.ref a]) (h₀:=X.base) I.ok.mod.MY hm.kp (cu (ha pos pins s1 σ H1 _ I1 q) fun us s2 ⟨vs,H2,I2,r,q2⟩=>⟨I2.iV,?_⟩) GK wJ
 refine qm (us:=.ref a::us) (vs:=.ref a::vs) (dvs:=[]) F hr hb .nil hx I2 (.cons rfl r) ?_
 rw [afn]
 exact q2
end
theorem wO {X:Cx}{CX:jQ}(h:sR CX)(e:X.xe=fun _ _=>False):Passes CX X E0:=fun _ _ _ _ _ _ _ q=>(h _ _ _ _ _ q).elim
end Ty
set_option maxHeartbeats 4000000
namespace Ty
open PySem PySem.Spec PyProof.Rows L2
section
variable {σ:L2.St}{H:Hp}{Q:VK}{QB:Bool→Hp→Prop}{QA:List V→Hp→Prop}{D:Ends}{t u:TS}{ta tb te:TE}{tc td:TT}{t1:TA}
end
end Ty
set_option maxHeartbeats 4000000
namespace Ty
open PySem PySem.Spec PyProof.Rows L2
section
variable {X:Cx}
inductive Ow (x:V)(lo:Option Int)(hi:Option Int)(H:Hp)(Q:VK):Prop where
 | mk (z:_) (_:x=.str z) (_:z.length≤sizeLine) (_:Q (.str (Txt.slice z lo hi)) H):Ow x lo hi H Q
theorem Lf:V4 X Ow:=by
 intro pins s σ H x v vl vu lo hi sl Q I rx hs pl pu h
 obtain ⟨z,rfl,hz,q⟩:=h
 obtain ⟨t,rfl⟩:=rx
 refine ⟨"str",_,F.slot_str_getitem.lookup,typeIs_str _ _ _,?_⟩
 cases pl <;> cases pu
 ·exact wpAny_getItem_str_slice (l:=none) (u:=none) (st:=none) hs rfl (post_val_or_str ⟨adF (Txt.slice_le z _ _) hz,fun t' k=>⟨.str _,H,I.tok k,⟨t',rfl⟩,q⟩⟩)
 ·rename_i j uj
  exact wpAny_getItem_str_slice (l:=none) (u:=some (j,uj)) (st:=none) hs rfl (post_val_or_str ⟨adF (Txt.slice_le z _ _) hz,fun t' k=>⟨.str _,H,I.tok k,⟨t',rfl⟩,q⟩⟩)
 ·rename_i i ui
  exact wpAny_getItem_str_slice (l:=some (i,ui)) (u:=none) (st:=none) hs rfl (post_val_or_str ⟨adF (Txt.slice_le z _ _) hz,fun t' k=>⟨.str _,H,I.tok k,⟨t',rfl⟩,q⟩⟩)
 ·rename_i i ui j uj
  exact wpAny_getItem_str_slice (l:=some (i,ui)) (u:=some (j,uj)) (st:=none) hs rfl (post_val_or_str ⟨adF (Txt.slice_le z _ _) hz,fun t' k=>⟨.str _,H,I.tok k,⟨t',rfl⟩,q⟩⟩)
inductive J2 (x:V)(y:V)(H:Hp)(Q:VK):Prop where
 | mk (z n:_) (_:x=.str z) (_:y=.int n) (_:MulOk z n) (_:Q (.str (Txt.mul z n)) H):J2 x y H Q
theorem qE:jP X (binaryOp .Mult) J2:=by
 intro pins s σ H x y v u Q I rx ry h
 obtain ⟨z,n,rfl,rfl,ok,q⟩:=h
 obtain ⟨t,rfl⟩:=rx
 obtain ⟨t',rfl⟩:=ry
 exact SB.mul ok fun t' k=>⟨.str _,H,I.tok k,⟨t',rfl⟩,q⟩
end
end Ty
set_option maxHeartbeats 4000000
namespace Ty
open PySem PySem.Spec PyProof.Rows L2 PySem.NumText
def dg (m:Nat):List Nat:=(Nat.toDigits 10 m).map Char.toNat
def tx (n:Int):Str:=Str.ofString (toString n)
def Ox:Str:=Str.ofString "/"
def nt (q:Int×Int):Str:=if q.2=1 then tx q.1 else tx q.1++Ox++tx q.2
end Ty
set_option maxHeartbeats 4000000
namespace Ty
open PySem PySem.Spec PyProof.Rows L2 PySem.NumText
section
variable {X:Cx}
end
def isStar:Expr→Bool
 | .Starred .. =>true
 | _=>false
theorem x_ {e:Expr}{es:List Expr}{env:Env}(h:isStar e=false):starEach (e::es) env=(false,eval e env)::starEach es env:=by
 cases e <;> first | rfl | (cases h;done)
theorem au {X:Cx}{e:Expr}{es:List Expr}{te:TE}{t:TA}(ha:PE X e te)(hr:PA X es t)(h:isStar e=false:=by rfl):PA X (e::es) (JQ te t):=GQ ha hr (x_ h)
end Ty
set_option maxHeartbeats 4000000
namespace Ty
open PySem PySem.Spec PyProof.Rows L2
section
variable {D:Addr}{te:TE}{cap:L2.St}{H1:Hp}{Q:VK}
def bg (D:Addr)(H H' :Hp):Prop:=∀b o,b≠D→H b=some o→H' b=some o
theorem bg.of {H H' :Hp}(s:av H H'):bg D H H' :=fun b o _ e=>s b o e
theorem bg.upd {H:Hp}{o:HO}:bg D H (upd H D o):=fun b o' n e=>by rw [ao n];exact e
theorem BP {J:It}(n:Nat)(xs:Nat→V)(Rel:Nat→V→Hp→Prop)(nD:H1 D=none)(hn:n < sizeLine)
  (go:∀i H,i < n→av H1 H→J.go i H∧∀x H',J.AN i H x H' →H' =H∧x=xs i) (stop:∀H,av H1 H→J.stop n H)
  (hR:∀i v H H' ys,H D=some (.lst ys)→bg D H H' →Rel i v H→Rel i v H')
  (he:∀i H (R:VK),i < n→av H1 H→(∀v H6,av H H6→Rel i v H6→R v H6)→te (some (xs i)::cap) H R)
  (hd:∀ys H,ys.length=n→(∀i v,ys[i]? =some v→Rel i v H)→av H1 H→H D=some (.lst ys)→Q (.ref D) H):
  oC D (d_ 0) kZ te J (none::cap) H1 Q:=by
 refine u9 n xs (fun i ys H=>ys.length=i∧(∀i v,ys[i]? =some v→Rel i v H)∧av H1 H) ⟨rfl,fun i v e=>by simp at e,fun b o e=>by rw [ao (aq e nD)];exact e⟩ ?_ ?_ ?_ ?_
 ·rintro i ys H hi ⟨_,_,s⟩
  exact go i H hi s
 ·rintro ys H ⟨_,_,s⟩
  exact stop H s
 ·rintro i ys H R hi ⟨l,r,s⟩ hD k
  refine he i H R hi s fun v H6 s6 rv=>k v H6 (s6 _ _ hD) (by omega) ⟨by simp [l],fun j u e=> ?_,fun b o e=> ?_⟩
  ·by_cases c:j < ys.length
   ·rw [adI c] at e
    have ru:=hR j u H H6 ys hD (bg.of s6) (r j u e)
    exact hR j u H6 _ ys (s6 _ _ hD) bg.upd ru
   ·rw [adN (by omega)] at e
    have ej:j=i:=by
     by_cases z:j - ys.length=0
     ·omega
     ·rw [ab_ (by simp;omega)] at e
      cases e
    subst ej
    have:v=u:=by
     rw [show j - ys.length=0 by omega] at e
     exact adX e
    subst this
    exact hR j v H6 _ ys (s6 _ _ hD) bg.upd rv
  ·rw [ao (aq e nD)]
   exact s6 _ _ (s _ _ e)
 ·rintro ys H ⟨l,r,s⟩ hD
  exact hd ys H l r s hD
theorem d0 {K:Frag}{a:Addr}{xs:List V}(Rel:Nat→V→Hp→Prop)(nD:H1 D=none)(hn:xs.length < sizeLine)(hS:∀H,av H1 H→aV K H a xs)
  (hR:∀i v H H' ys,H D=some (.lst ys)→bg D H H' →Rel i v H→Rel i v H')
  (he:∀i x H (R:VK),xs[i]? =some x→av H1 H→(∀v H6,av H H6→Rel i v H6→R v H6)→te (some x::cap) H R)
  (hd:∀ys H,ys.length=xs.length→(∀i v,ys[i]? =some v→Rel i v H)→av H1 H→H D=some (.lst ys)→Q (.ref D) H):
  oC D (d_ 0) kZ te (JJ K a) (none::cap) H1 Q:=by
 refine BP xs.length (fun i=>(xs[i]?).getD .cA) Rel nD hn (fun i H hi s=>⟨⟨xs,xs[i],hS H s,gE hi⟩,fun x H' y=>⟨y.1,?_⟩⟩) (fun H s=>⟨xs,hS H s,adL _⟩) hR (fun i H R hi s k=> ?_) hd
 ·rw [y.2 xs (hS H s)];rfl
 ·have e:xs[i]? =some xs[i]:=gE hi
  have k' :=he i _ H R e s k
  rw [← (show (xs[i]?).getD .cA=xs[i] by rw [e];rfl)] at k'
  exact k'
end
end Ty
set_option maxHeartbeats 4000000
namespace Ty
open PySem PySem.Spec PyProof.Rows L2
section
variable {X:Cx}{pins:List (Addr×Obj)}{σ:L2.St}{H:Hp}{s:Shared}{h' :Heap}
theorem Inv.lS {t' :Nat}{fp:List Addr}(I:Inv X pins σ H s)(k:∀b o,b∉fp→s.heap.get? b=some o→h'.get? b=some o)(hf:∀b∈fp,jS X pins H b):Inv X pins σ H {s with heap:=h',toks:=t' }:=by
 have JE:∀b u,H b=some u→b∉fp:=fun b u e z=>by rw [(hf b z).1] at e;cases e
 refine I.step (g' :=s.gens) (d' :=s.drawn) (ch:=fp) (fun b hb=> ?_) (fun b o _ _ hc e _=>k b o hc e) (fun b o _ _ hc e _=>⟨o.slots,k b o hc e⟩) (fun _ _ _ _ n=>n)
  (fun b o hc e=>⟨o,k b o hc e⟩) (fun _ _ e=>e) (fun _ _ _ e=>e) (fun b ps e=>⟨#[],by rw [e];simp⟩) (fun m hm=> ?_) (fun b u e=> ?_) I.bare
 ·obtain ⟨f0,f1,f2,f3,f4,f5⟩:=hf b hb
  exact ⟨f3,f1,f4,f5⟩
 ·obtain ⟨o,es,ep,ho,r⟩:=hm
  exact ⟨o,es,ep,k _ o (fun z=>(hf _ z).2.1 rfl) ho,r⟩
 ·refine (I.bJ b u e).qb (fun c v hc q=>k c v ?_ q) (fun _ q=>q) fun _ _ q=>q
  rcases hc with z | z
  ·rw [z];exact JE b u e
  ·exact JE c _ z
theorem Inv.qF {t' :Nat}{fp:List Addr}{T:Addr}{xs:List V}{its:List Value}(I:Inv X pins σ H s)(k:∀b o,b∉fp→s.heap.get? b=some o→h'.get? b=some o)(hf:∀b∈fp,jS X pins H b)(hT:s.heap.objs.size≤T)
  (hz:xs.length≤sizeLine) (rv:Vals xs its) (ht:IsTup h' T its.toArray):Inv X pins σ (upd H T (.tup xs)) {s with heap:=h',toks:=t' }:=by
 have hn:=I.bJ.fresh hT
 have JE:∀b u,H b=some u→b∉fp:=fun b u e z=>by rw [(hf b z).1] at e;cases e
 have ne:∀b o,s.heap.get? b=some o→b≠T:=fun b o e=>ad5 (adU (Heap.lt_size e) hT)
 refine I.step (g' :=s.gens) (d' :=s.drawn) (ch:=fp) (fun b hb=> ?_) (fun b o _ _ hc e _=>k b o hc e) (fun b o _ _ hc e _=>⟨o.slots,k b o hc e⟩) (fun b o _ e n=>by rw [ao (ne b o e)];exact n)
  (fun b o hc e=>⟨o,k b o hc e⟩) (fun b ys e=>by rw [ao (aq e hn)];exact e) (fun b o u e=>by rw [ao (aq e hn)];exact e) (fun b ps e=>⟨#[],by rw [ao (aq e hn),e];simp⟩) (fun m hm=> ?_) (fun b u e=> ?_) I.bare
 ·obtain ⟨f0,f1,f2,f3,f4,f5⟩:=hf b hb
  exact ⟨f3,f1,f4,f5⟩
 ·obtain ⟨o,es,ep,ho,r⟩:=hm
  exact ⟨o,es,ep,k _ o (fun z=>(hf _ z).2.1 rfl) ho,r⟩
 ·by_cases hb:b=T
  ·subst hb
   rw [ah] at e
   cases e
   exact ⟨hz,its,rv,ht⟩
  ·rw [ao hb] at e
   refine (I.bJ b u e).qb (fun c v hc q=>k c v ?_ q) (fun c q=>by rw [ao (aq q hn)];exact q) fun c ys q=>by rw [ao (aq q hn)];exact q
   rcases hc with z | z
   ·rw [z];exact JE b u e
   ·exact JE c _ z
end
def U1 (K:Frag)(a b:Addr):It:=
 ⟨fun i H=>∃xs ys x y,aV K H a xs∧aV K H b ys∧xs[i]? =some x∧ys[i]? =some y,
  fun i H v H' =>∃p x y,(∀xs,aV K H a xs→xs[i]? =some x)∧(∀ys,aV K H b ys→ys[i]? =some y)∧v=.ref p∧H p=none∧H' =upd H p (.tup [x,y]),
  fun i H=>∃xs ys,aV K H a xs∧aV K H b ys∧(xs.length≤i∨ys.length≤i)⟩
theorem BQ {P:Program}{w:World}{K:Frag}{es:List Expr}{k:Nat}{pos:Pos}(a b z TI TO i1 i2:Addr)(D:ZipApart z TI TO i1 i2 a b):
  Turn P w K (.Tuple es k pos) (U1 K a b) [z,TI,TO,i1,i2] z (fun i h=>IsZip h z TI TO .none∧IsPair h TI (.ref i1) (.ref i2)∧(∃x y,IsPair h TO x y)∧h.IsListIter i1 a i∧h.IsListIter i2 b i) where
 mem:=by simp
 obj:=fun i h st c hc=>by
  obtain ⟨hz,iA,⟨x,y,oZ⟩,⟨o1,e1,c1,d1⟩,⟨o2,e2,c2,d2⟩⟩:=st
  have rV :c=z∨c=TI∨c=TO∨c=i1∨c=i2:=by simpa using hc
  rcases rV with e | e | e | e | e <;> subst e
  ·exact ⟨_,hz,fun v z=>by cases z⟩
  ·exact ⟨_,iA,fun v z=>by cases z⟩
  ·exact ⟨_,oZ,fun v z=>by cases z⟩
  ·exact ⟨_,e1,fun v z=>by rw [d1] at z;cases z⟩
  ·exact ⟨_,e2,fun v z=>by rw [d2] at z;cases z⟩
 keep:=fun i h h' st k=>by
  obtain ⟨hz,iA,⟨x,y,oZ⟩,h1,h2⟩:=st
  exact ⟨k z (by simp) _ hz,k TI (by simp) _ iA,⟨x,y,k TO (by simp) _ oZ⟩,h1.at fun o e=>k i1 (by simp) o e,h2.at fun o e=>k i2 (by simp) o e⟩
 item:=by
  intro X hP hw hK hc i pins s σ H E I hf st hg
  subst hP hw hK
  obtain ⟨hz,iA,⟨x0,y0,oZ⟩,h1,h2⟩:=st
  obtain ⟨xs,ys,x,y,qx,qy,ex,ey⟩:=hg
  obtain ⟨its,rv,p,_⟩:=I.list qx
  obtain ⟨Oy,rW,p',_⟩:=I.list qy
  obtain ⟨u,hu,ru⟩:=rv.get ex
  obtain ⟨v,hv,rv'⟩:=rW.get ey
  refine wpAny_pyNext_zip_item D hz iA oZ h1 h2 p.isList p'.isList (x:=u) (y:=v) (by simpa using hu) (by simpa using hv) fun h' a1 a2 a3 a4 a5 a6 a7=> ?_
  refine ⟨_,rfl,wpAny_letOwnedTupleGo_zip (s:={s with heap:=h' }) a1 fun FG b1 sb=> ?_⟩
  have nz:∀c,c≠z→∀o,h'.get? c=some o→FG.get? c=some o:=fun c hc o e=>(sb.2 c hc).trans e
  have kk:∀b o,b∉[z,TI,TO,i1,i2]→s.heap.get? b=some o→FG.get? b=some o:=fun b o hb e=>by
   have fL :b≠z∧b≠TI∧b≠TO∧b≠i1∧b≠i2:=by simpa using hb
   exact nz b fL.1 o (a7 b o fL.1 fL.2.2.1 fL.2.2.2.1 fL.2.2.2.2 e)
  have sz:∀c o,s.heap.get? c=some o→s.heap.objs.size≠c:=fun c o e=>afr (Heap.lt_size e)
  have tz:s.heap.objs.size≠z:=sz _ _ hz
  have hn:=I.bJ.fresh (adL s.heap.objs.size)
  have I2:Inv X pins σ (upd H s.heap.objs.size (.tup [x,y])) {s with heap:=FG,toks:=s.toks}:=
   Inv.qF I kk hf (adL _) (by show 2≤sizeLine;decide) (its:=[u,v]) (.cons ru (.cons rv' .nil)) ⟨_,nz _ tz _ a5,rfl,_,rfl⟩
  refine ⟨.ref s.heap.objs.size,_,I2,rfl,⟨s.heap.objs.size,x,y,fun xs' q=>by rw [I.gD q qx];exact ex,fun ys' q=>by rw [I.gD q qy];exact ey,rfl,hn,rfl⟩,⟨b1,nz _ D.TIz _ (a7 _ _ D.TIz D.TITO D.TIi1 D.TIi2 iA),⟨_,_,nz _ D.TOz _ a2⟩,a3.at fun o e=>nz _ D.i1z o e,a4.at fun o e=>nz _ D.i2z o e⟩,fun b hb=> ?_⟩
  have ob:∃o,s.heap.get? b=some o:=by
   obtain ⟨o1,e1,_⟩:=h1
   obtain ⟨o2,e2,_⟩:=h2
   have rV :b=z∨b=TI∨b=TO∨b=i1∨b=i2:=by simpa using hb
   rcases rV with e | e | e | e | e <;> subst e
   ·exact ⟨_,hz⟩
   ·exact ⟨_,iA⟩
   ·exact ⟨_,oZ⟩
   ·exact ⟨_,e1⟩
   ·exact ⟨_,e2⟩
  obtain ⟨o,e⟩:=ob
  rw [ao (ad7 (sz _ _ e))]
  exact (hf b hb).1
 done:=by
  intro X hP hw hK hc i pins s σ H E I hf st hg
  subst hP hw hK
  obtain ⟨hz,iA,⟨x0,y0,oZ⟩,h1,h2⟩:=st
  obtain ⟨xs,ys,qx,qy,ee⟩:=hg
  obtain ⟨its,rv,p,_⟩:=I.list qx
  obtain ⟨Oy,rW,p',_⟩:=I.list qy
  have l1:=rv.length
  have l2:=rW.length
  refine wpAny_pyNext_zip_end (I.ok.hd hc) D hz iA oZ h1 h2 p.isList p'.isList ?_ fun h' kk=>⟨rfl,Inv.lS I (fun b o hb e=> ?_) hf⟩
  ·rcases ee with e | e
   ·exact .inl (by simp;omega)
   ·exact .inr (by simp;omega)
  ·have fL :b≠z∧b≠TI∧b≠TO∧b≠i1∧b≠i2:=by simpa using hb
   exact kk b o fL.1 fL.2.2.1 fL.2.2.2.1 fL.2.2.2.2 e
 self:=fun _ _ _ _ _ st h=>wpAny_pyIter_zip st.1 h
theorem boot_zip:bootBuiltins "zip"=some (.type "zip"):=by decide+kernel
section
variable {X:Cx}
inductive J3 (K:Frag)(R:(It→Hp→Prop))(vs:List V)(H1:Hp):Prop where
 | mk (a b:_) (_:vs=[.ref a,.ref b]) (_:(∃xs,aV K H1 a xs)) (_:(∃ys,aV K H1 b ys)) (_:R (U1 K a b) H1):J3 K R vs H1
def Wj (K:Frag)(ta:TA):TI:=fun σ H R=>ta σ H fun vs H1=>J3 K R vs H1
theorem u_ {e1 e2:Expr}{ta:TA}{p pos:Pos}{es:List Expr}{k:Nat}{qj:Pos}(hg:Gl X "zip")(hm:X.mg "zip"=none)(ha:PA X [e1,e2] ta)(hs:starEach [e1,e2] X.env=[(false,eval e1 X.env),(false,eval e2 X.env)]:=by rfl)(FE:starEach [e2] X.env=[(false,eval e2 X.env)]:=by rfl):
  PI X (.Tuple es k qj) (.Call (.Name "zip" p) [e1,e2] [] pos) (Wj X.K ta):=by
 intro pins s σ H R I h
 refine Call_ (gC I hg hm boot_zip (PyProof.Rows.callWith_type1 (cu (ha pos pins s σ H _ I h) fun us s1 ⟨vs,H1,I1,r1,q1⟩=> ?_) (by rw [hs,FE]) (by rw [FE];rfl)))
 obtain ⟨a,b,e,⟨xs,hx⟩,⟨ys,hy⟩,q⟩:=q1
 subst e
 cases r1 with
 | cons r rr=>
  cases rr with
  | cons r' rr=>
   cases rr
   cases r
   cases r'
   obtain ⟨its,rv,pl,_⟩:=I1.list hx
   obtain ⟨Oy,rW,pl',_⟩:=I1.list hy
   have lt1:a < s1.heap.objs.size:=by obtain ⟨o,ho,_⟩:=pl.isList;exact Heap.lt_size ho
   have lt2:b < s1.heap.objs.size:=by obtain ⟨o,ho,_⟩:=pl'.isList;exact Heap.lt_size ho
   refine call_zip_2 pl.isList pl'.isList fun h' hz iA oZ Oz OA hsz hk=>wpAny_pyIter_zip (s:={s1 with heap:=h' }) hz ?_
   refine ⟨s1.heap.objs.size+4,[s1.heap.objs.size+4,s1.heap.objs.size+2,s1.heap.objs.size+3,s1.heap.objs.size,s1.heap.objs.size+1],_,_,H1,rfl,I1.kept (t' :=s1.toks) hk,BQ a b _ _ _ _ _ ?_,⟨hz,iA,⟨_,_,oZ⟩,Oz,OA⟩,fun c hc=> ?_,q⟩
   ·constructor <;> (intro z;simp only [Addr] at*;omega)
   ·have rV :s1.heap.objs.size≤c:=by
     have:c=s1.heap.objs.size+4∨c=s1.heap.objs.size+2∨c=s1.heap.objs.size+3∨c=s1.heap.objs.size∨c=s1.heap.objs.size+1:=by simpa using hc
     simp only [Addr] at*
     omega
    exact I1.oy rV (I1.bJ.fresh rV)
inductive BR (K:Frag)(xs:List V)(H:Hp)(Q:VK):Prop where
 | mk (p:Addr) (ys:List V) (_:xs=[.ref p]) (_:aV K H p ys) (_:∀l,H l=none→Q (.ref l) (upd H l (.lst ys))):BR K xs H Q
theorem mJ:gH X (.type "list") (BR X.K):=by
 intro pins s σ H xs us Q I r h
 obtain ⟨p,ys,rfl,hq,q⟩:=h
 obtain ⟨u,rfl,r1⟩:=vals1 r
 cases r1
 obtain ⟨its,rv,⟨o,n,e,c,d1,d⟩,hz⟩:=I.list hq
 have hlen:=rv.length
 refine call_list_seq p (.inl rfl) e c d (fun h' c' hk hl=> ?_) (by simp;omega)
 have hn:=I.bJ.fresh (adL s.heap.objs.size)
 have I2:Inv X pins σ (upd H s.heap.objs.size (.lst ys)) {s with heap:=h',toks:=s.toks}:=I.laid (t' :=s.toks) hk (adL _) ⟨hz,its,c',rv,hl⟩
 exact ⟨.ref _,_,I2,rfl,q _ hn⟩
end
section
variable {X:Cx}{K:Frag}
theorem fg (h:X.K=K):M6 X (G_ K):=by subst h;exact mz
theorem sV (h:X.K=K):M6 X (GZ K):=by subst h;exact aK
theorem qG {es:List Expr}{k:Nat}{t:JH}{n:Nat}{pos:Pos}(hK:X.K=K)(hc:X.calm=true)(h:NP X es t)
  (hn:(assignEach es X.env).length=n:=by rfl) (GK:(assignEach es X.env).findIdx? (·.1)=none:=by rfl):PG X (.Tuple es k pos) (AL K n t):=by subst hK;exact fW hc h hn GK
end
section
variable {D:Addr}{te:TE}{cap:L2.St}{H1:Hp}{Q:VK}
theorem sW {K:Frag}{a b:Addr}{xs ys:List V}(Rel:Nat→V→Hp→Prop)(nD:H1 D=none)(hn:xs.length < sizeLine)(hl:ys.length=xs.length)(hX:∀H,av H1 H→aV K H a xs)(hY:∀H,av H1 H→aV K H b ys)
  (hR:∀i v H H' ys,H D=some (.lst ys)→bg D H H' →Rel i v H→Rel i v H')
  (he:∀i x y H (R:VK),xs[i]? =some x→ys[i]? =some y→av H1 H→(∀v H6,av H H6→Rel i v H6→R v H6)→te (some x::some y::cap) H R)
  (hd:∀zs H,zs.length=xs.length→(∀i v,zs[i]? =some v→Rel i v H)→av H1 H→H D=some (.lst zs)→Q (.ref D) H):
  oC D (AL K 2 (r_ (d_ 0) (r_ (d_ 1) KZ))) kZ te (U1 K a b) (none::none::cap) H1 Q:=by
 refine ⟨fun i m σ zs H=>m=xs.length - i∧i≤xs.length∧(∃o o',σ=o::o' ::cap)∧(zs.length=i∧(∀i v,zs[i]? =some v→Rel i v H)∧av H1 H)∧H D=some (.lst zs),⟨xs.length,by simp,aeg _,⟨none,none,rfl⟩,⟨rfl,fun i v e=>by simp at e,fun b o e=>by rw [ao (aq e nD)];exact e⟩,ah⟩,?_⟩
 rintro i m σ zs H ⟨rfl,hi,⟨o,o',rfl⟩,⟨l,r,s⟩,hD⟩
 by_cases oa:i < xs.length
 ·have e1:xs[i]? =some xs[i]:=gE oa
  have e2:ys[i]? =some (ys[i]'(by omega)):=gE (by omega)
  refine .inr ⟨⟨xs,ys,_,_,hX H s,hY H s,e1,e2⟩,fun v H' y=> ?_⟩
  obtain ⟨p,x,y,q1,q2,rfl,np,rfl⟩:=y
  have e1:=q1 xs (hX H s)
  have e2:=q2 ys (hY H s)
  have sp:av H (upd H p (.tup [x,y])):=fun b o e=>by rw [ao (aq e np)];exact e
  refine ⟨p,_,rfl,cf.of ah,rfl,_,_,rfl,_,_,rfl,rfl,?_⟩
  unfold kZ
  dsimp only
  rw [if_pos rfl]
  refine he i x y _ _ e1 e2 (fun b o e=>sp _ _ (s _ _ e)) fun v H6 s6 rv=>⟨s6 _ _ (sp _ _ hD),by omega,xs.length - (i+1),by omega,rfl,by omega,⟨_,_,rfl⟩,⟨by simp [l],fun j u e=> ?_,fun b o e=> ?_⟩,ah⟩
  ·by_cases c:j < zs.length
   ·rw [adI c] at e
    have ru:=hR j u H H6 zs hD (bg.of fun b o q=>s6 _ _ (sp _ _ q)) (r j u e)
    exact hR j u H6 _ zs (s6 _ _ (sp _ _ hD)) bg.upd ru
   ·rw [adN (by omega)] at e
    have ej:j=i:=by
     by_cases z:j - zs.length=0
     ·omega
     ·rw [ab_ (by simp;omega)] at e
      cases e
    subst ej
    have:v=u:=by
     rw [show j - zs.length=0 by omega] at e
     exact adX e
    subst this
    exact hR j v H6 _ zs (s6 _ _ (sp _ _ hD)) bg.upd rv
  ·rw [ao (aq e nD)]
   exact s6 _ _ (sp _ _ (s _ _ e))
 ·have e:i=xs.length:=by omega
  subst e
  exact .inl ⟨⟨xs,ys,hX H s,hY H s,.inl (adL _)⟩,hd zs H l r s hD⟩
end
end Ty
set_option maxHeartbeats 4000000
namespace Ty
open PySem PySem.Spec PyProof.Rows L2
open Builtin.Int (intBits)
def vl (q:Int×Int):Rat:=(q.1:Rat) / (q.2:Rat)
structure Sm (T B:Nat)(q:Int×Int):Prop where
 pos:0 < q.2
 low:aek q.1 q.2=1
 top:q.1.natAbs≤2^T
 bot:q.2.natAbs≤2^B
theorem cw {b:Int}(h:b≠0):(b:Rat)≠0:=by simpa using h
theorem jZ {t b:Int}(h:b≠0):vl (low t b)=(t:Rat) / (b:Rat):=by
 have c:=xZ (t:=t) h
 have p:=i9 (t:=t) h
 have h1:=cw h
 have h2:=cw (b:=(low t b).2) (by omega)
 have c' :((low t b).1:Rat)*b=t*(low t b).2:=by exact_mod_cast c
 unfold vl
 grind
theorem sX {t b u c:Int}(hb:b≠0)(hc:c≠0)(h:(t:Rat) / b=(u:Rat) / c):t*c=u*b:=by
 have h1:=cw hb
 have h2:=cw hc
 have:(t:Rat)*c=u*b:=by grind
 exact_mod_cast this
theorem Lg {q r:Int×Int}(hq:0 < q.2)(hr:0 < r.2)(gq:aek q.1 q.2=1)(gr:aek r.1 r.2=1)(h:vl q=vl r):q=r:=by
 have c:=sX (t:=q.1) (b:=q.2) (u:=r.1) (c:=r.2) (by omega) (by omega) h
 have e:=oA (t:=q.1) (b:=q.2) (u:=r.1) (c:=r.2) (by omega) (by omega) c
 rw [sN hq gq,sN hr gr] at e
 exact amU (congrArg anb e) (congrArg anc e)
theorem ya {b d:Int}(hd:d≠0)(h:d ∣ b):((b.fdiv d:Int):Rat)=(b:Rat) / d:=by
 have e:=cn hd h
 have h1:=cw hd
 have:(b:Rat)=d*(b.fdiv d:Int):=by exact_mod_cast e
 grind
def f_ (xs ys:List (Int×Int)):Rat:=(aeo (fun a b=>vl a*vl b) xs ys).sum
theorem yb {x y:Int×Int}{xs ys:List (Int×Int)}:f_ (x::xs) (y::ys)=vl x*vl y+f_ xs ys:=by simp [f_]
def gu (ts:List Int)(qs:List (Int×Int))(b:Int):Prop:=ts.length=qs.length∧∀(i:Nat) (t:Int) (q:Int×Int),ts[i]? =some t→qs[i]? =some q→(t:Rat)=vl q*b
theorem gu.tail {t:Int}{ts:List Int}{q:Int×Int}{qs:List (Int×Int)}{b:Int}(h:gu (t::ts) (q::qs) b):gu ts qs b:=⟨by simpa using h.1,fun i t' q' e1 e2=>h.2 (i+1) t' q' (by simpa using e1) (by simpa using e2)⟩
theorem qH {a b:Int}{m n:Nat}(h1:a.natAbs≤2^m)(h2:b.natAbs≤2^n):(a*b).natAbs≤2^(m+n):=by
 rw [aeF,afm]
 exact aep h1 h2
theorem Lh {a b:Int}{m:Nat}(h1:a.natAbs≤2^m)(h2:b.natAbs≤2^m):(a+b).natAbs≤2^(m+1):=by
 have:=ae3 a b
 rw [aff]
 omega
theorem mK {a:Int}{m n:Nat}(h:a.natAbs≤2^m)(hm:m≤n):a.natAbs≤2^n:=adF h (adV (by decide) hm)
theorem gZ {a:Int}{m n:Nat}(h:a.natAbs≤2^m)(hm:m < n):intBits a≤n:=intBits_le_iff.mpr (adO h (Nat.pow_lt_pow_right (by decide) hm))
theorem lV {a b:Int}{m n:Nat}(h1:a.natAbs≤2^m)(h2:b.natAbs≤2^n)(hm:m < 30000000)(hn:n < 30000000):oY a b:=⟨adF (gZ h1 hm) (by decide),adF (gZ h2 hn) (by decide)⟩
theorem Sm.up {T B T' B' :Nat}{q:Int×Int}(h:Sm T B q)(hT:T≤T')(hB:B≤B'):Sm T' B' q:=⟨h.pos,h.low,mK h.top hT,mK h.bot hB⟩
theorem BS {b d:Int}(hb:0 < b)(hd:0 < d):0 < b.fdiv (gz b d)*d∧b ∣ b.fdiv (gz b d)*d∧d ∣ b.fdiv (gz b d)*d∧(b.fdiv (gz b d)*d).natAbs≤b.natAbs*d.natAbs:=by
 have gp:=qz (t:=b) (b:=d) (by omega)
 have g1:gz b d ∣ b:=aeU ..
 have g2:gz b d ∣ d:=aeO ..
 have e1:=cn (g:=gz b d) (by omega) g1
 have e2:=cn (g:=gz b d) (by omega) g2
 generalize gz b d=g at*
 have p1:0 < b.fdiv g:=by
  rcases ah_ (b.fdiv g) 0 with z | z | z
  ·exfalso
   have:=afw gp z
   omega
  ·rw [z] at e1;omega
  ·exact z
 refine ⟨aeQ p1 hd,⟨d.fdiv g,?_⟩,⟨b.fdiv g,aeP ..⟩,?_⟩
 ·have:b.fdiv g*d=b.fdiv g*(g*d.fdiv g):=by rw [← e2]
  rw [this]
  have h3:b*d.fdiv g=g*b.fdiv g*d.fdiv g:=by rw [← e1]
  rw [h3]
  rw [← afl,aeP (b.fdiv g) g]
 ·rw [aeF]
  exact ad0 _ (by
   have:=cU (g:=g) (a:=b.fdiv g) (by omega)
   rw [← e1] at this
   exact this)
theorem yc {q:Int×Int}{b:Int}(hq:0 < q.2)(h:q.2 ∣ b):((q.1*b.fdiv q.2:Int):Rat)=vl q*b:=by
 have e:=ya (b:=b) (d:=q.2) (by omega) h
 have:((q.1*b.fdiv q.2:Int):Rat)=q.1*((b.fdiv q.2:Int):Rat):=by push_cast;rfl
 rw [this,e]
 unfold vl
 grind
theorem fM {b d:Int}(hd:d≠0)(h:d ∣ b):(b.fdiv d).natAbs≤b.natAbs:=by
 have:=cU (g:=d) (a:=b.fdiv d) hd
 rw [← cn hd h] at this
 exact this
end Ty
set_option maxHeartbeats 4000000
namespace Ty
open PySem PySem.Spec PyProof.Rows L2
section
variable {D:Addr}{te:TE}{cap:L2.St}{H1:Hp}{Q:VK}
theorem yd {J:It}(n:Nat)(xs:Nat→V)(Rel:Nat→V→Hp→Prop)(nD:H1 D=none)(hn:n < sizeLine)
  (go:∀i H,i < n→av H1 H→J.go i H∧∀x H',J.AN i H x H' →H' =H∧x=xs i) (stop:∀H,av H1 H→J.stop n H)
  (hR:∀i v H H' ys,H D=some (.lst ys)→bg D H H' →Rel i v H→Rel i v H')
  (he:∀i H (R:VK),i < n→av H1 H→(∃ys,H D=some (.lst ys))→(∀v H6,av H H6→Rel i v H6→R v H6)→te (some (xs i)::cap) H R)
  (hd:∀ys H,ys.length=n→(∀i v,ys[i]? =some v→Rel i v H)→av H1 H→H D=some (.lst ys)→Q (.ref D) H):
  oC D (d_ 0) kZ te J (none::cap) H1 Q:=by
 refine u9 n xs (fun i ys H=>ys.length=i∧(∀i v,ys[i]? =some v→Rel i v H)∧av H1 H) ⟨rfl,fun i v e=>by simp at e,fun b o e=>by rw [ao (aq e nD)];exact e⟩ ?_ ?_ ?_ ?_
 ·rintro i ys H hi ⟨_,_,s⟩
  exact go i H hi s
 ·rintro ys H ⟨_,_,s⟩
  exact stop H s
 ·rintro i ys H R hi ⟨l,r,s⟩ hD k
  refine he i H R hi s ⟨_,hD⟩ fun v H6 s6 rv=>k v H6 (s6 _ _ hD) (by omega) ⟨by simp [l],fun j u e=> ?_,fun b o e=> ?_⟩
  ·by_cases c:j < ys.length
   ·rw [adI c] at e
    have ru:=hR j u H H6 ys hD (bg.of s6) (r j u e)
    exact hR j u H6 _ ys (s6 _ _ hD) bg.upd ru
   ·rw [adN (by omega)] at e
    have ej:j=i:=by
     by_cases z:j - ys.length=0
     ·omega
     ·rw [ab_ (by simp;omega)] at e
      cases e
    subst ej
    have:v=u:=by
     rw [show j - ys.length=0 by omega] at e
     exact adX e
    subst this
    exact hR j v H6 _ ys (s6 _ _ hD) bg.upd rv
  ·rw [ao (aq e nD)]
   exact s6 _ _ (s _ _ e)
 ·rintro ys H ⟨l,r,s⟩ hD
  exact hd ys H l r s hD
theorem iB {K:Frag}{a:Addr}{xs:List V}(Rel:Nat→V→Hp→Prop)(nD:H1 D=none)(hn:xs.length < sizeLine)(hS:∀H,av H1 H→aV K H a xs)
  (hR:∀i v H H' ys,H D=some (.lst ys)→bg D H H' →Rel i v H→Rel i v H')
  (he:∀i x H (R:VK),xs[i]? =some x→av H1 H→(∃ys,H D=some (.lst ys))→(∀v H6,av H H6→Rel i v H6→R v H6)→te (some x::cap) H R)
  (hd:∀ys H,ys.length=xs.length→(∀i v,ys[i]? =some v→Rel i v H)→av H1 H→H D=some (.lst ys)→Q (.ref D) H):
  oC D (d_ 0) kZ te (JJ K a) (none::cap) H1 Q:=by
 refine yd xs.length (fun i=>(xs[i]?).getD .cA) Rel nD hn (fun i H hi s=>⟨⟨xs,xs[i],hS H s,gE hi⟩,fun x H' y=>⟨y.1,?_⟩⟩) (fun H s=>⟨xs,hS H s,adL _⟩) hR (fun i H R hi s dd k=> ?_) hd
 ·rw [y.2 xs (hS H s)];rfl
 ·have e:xs[i]? =some xs[i]:=gE hi
  have k' :=he i _ H R e s dd k
  rw [← (show (xs[i]?).getD .cA=xs[i] by rw [e];rfl)] at k'
  exact k'
end
section
variable {X:Cx}
end
end Ty
namespace L2
open PySem PySem.Spec PyProof.Rows
section
variable {κ:Type}[DecidableEq κ]
def bV (kvs:List (κ×V))(k:κ):Option V:=(kvs.find? fun kv=>decide (kv.1=k)).map (·.2)
def putK (kvs:List (κ×V))(k:κ)(v:V):List (κ×V):=
 if (kvs.any fun kv=>decide (kv.1=k))=true then kvs.map (fun kv=>if kv.1=k then (kv.1,v) else kv) else kvs++[(k,v)]
theorem bH {p:κ×V}{r:List (κ×V)}{k:κ}(e:p.1=k):bV (p::r) k=some p.2:=by simp [bV,aeY,e]
theorem bw {p:κ×V}{r:List (κ×V)}{k:κ}(e:¬ p.1=k):bV (p::r) k=bV r k:=by simp [bV,aeY,e]
theorem fN (k:κ):∀kvs:List (κ×V),(kvs.any fun kv=>decide (kv.1=k))=(bV kvs k).isSome
 | []=>rfl
 | p::r=>by
  rw [ae_]
  by_cases e:p.1=k
  ·simp only [bH e,decide_eq_true e,Bool.true_or,Option.isSome_some]
  ·rw [bw e,decide_eq_false e,Bool.false_or];exact fN k r
theorem sY (k j:κ)(y:V):∀kvs:List (κ×V),bV (kvs.map fun kv=>if kv.1=k then (kv.1,y) else kv) j=(bV kvs j).map fun x=>if j=k then y else x
 | []=>rfl
 | p::r=>by
  have ih:=sY k j y r
  rw [ac_]
  by_cases h:p.1=k
  ·rw [if_pos h]
   by_cases e:p.1=j
   ·rw [bH (p:=(p.1,y)) e,bH e,aeM,if_pos (e.symm.trans h)]
   ·rw [bw (p:=(p.1,y)) e,bw e,ih]
  ·rw [if_neg h]
   by_cases e:p.1=j
   ·rw [bH (p:=p) e,bH e,aeM,if_neg (fun z=>h (e.trans z))]
   ·rw [bw (p:=p) e,bw e,ih]
theorem o_ (k j:κ)(y:V):∀kvs:List (κ×V),bV kvs k=none→bV (kvs++[(k,y)]) j=if j=k then some y else bV kvs j
 | [],_=>by
  by_cases e:k=j
  ·rw [if_pos e.symm];exact bH (p:=(k,y)) e
  ·rw [if_neg (fun z=>e z.symm)];exact bw (p:=(k,y)) e
 | p::r,hn=>by
  rw [ae5]
  have hk:¬ p.1=k:=fun z=>by rw [bH z] at hn;cases hn
  rw [bw hk] at hn
  have ih:=o_ k j y r hn
  by_cases e:p.1=j
  ·rw [bH e,bH e,if_neg (fun z=>hk (e.trans z))]
  ·rw [bw e,bw e,ih]
theorem mL (kvs:List (κ×V))(k j:κ)(y:V):bV (putK kvs k y) j=if j=k then some y else bV kvs j:=by
 unfold putK
 by_cases a:(kvs.any fun kv=>decide (kv.1=k))=true
 ·rw [if_pos a,sY]
  rw [fN] at a
  by_cases e:j=k
  ·obtain ⟨x,hx⟩:=al_.mp a
   rw [if_pos e,e,hx,aeM,if_pos rfl]
  ·rw [if_neg e]
   cases bV kvs j with
   | none=>rfl
   | some x=>rw [aeM,if_neg e]
 ·rw [if_neg a]
  refine o_ k j y kvs ?_
  rw [fN] at a
  cases q:bV kvs k with
  | none=>rfl
  | some x=>rw [q] at a;exact (a rfl).elim
theorem fh (kvs:List (κ×V))(k:κ)(v:V):(putK kvs k v).length≤kvs.length+1:=by
 unfold putK
 split
 ·rw [Wp];omega
 ·rw [adK,ad4,amJ];omega
theorem cF {kvs:List (κ×V)}{k:κ}(v:V)(h:bV kvs k=none):putK kvs k v=kvs++[(k,v)]:=by
 unfold putK
 rw [fN,h]
 exact if_neg (by decide)
theorem gA.fO {o:Option V}{u:Option Value}(r:gA o u):o.isSome=u.isSome:=by
 cases o with
 | none=>cases u with
  | none=>rfl
  | some _=>exact (show False from r).elim
 | some _=>cases u with
  | none=>exact (show False from r).elim
  | some _=>rfl
theorem gA.getD {o:Option V}{u:Option Value}{d:V}{d' :Value}(r:gA o u)(rd:RelV d d'):RelV (o.getD d) (u.getD d'):=by
 cases o with
 | none=>cases u with
  | none=>exact rd
  | some _=>exact (show False from r).elim
 | some _=>cases u with
  | none=>exact (show False from r).elim
  | some _=>exact r
theorem KV.val {kvs:List (κ×V)}{vs:List (κ×Value)}(r:KV kvs vs)(k:κ):gA (bV kvs k) (valueAt vs k):=by
 unfold KV at r
 induction r with
 | nil=>exact True.intro
 | @cons p q ps qs h t ih=>
  obtain ⟨h1,h2⟩:=h
  by_cases e:p.1=k
  ·have e' :q.1=k:=h1.symm.trans e
   have b:valueAt (q::qs) k=some q.2:=by simp [valueAt,aeY,e']
   rw [bH e,b];exact h2
  ·have e' :¬ q.1=k:=fun z=>e (h1.trans z)
   have b:valueAt (q::qs) k=valueAt qs k:=by simp [valueAt,aeY,e']
   rw [bw e,b];exact ih
theorem KV.any {kvs:List (κ×V)}{vs:List (κ×Value)}(r:KV kvs vs)(k:κ):(kvs.any fun kv=>decide (kv.1=k))=vs.any fun kv=>decide (kv.1=k):=by
 unfold KV at r
 induction r with
 | nil=>rfl
 | cons h t ih=>rw [ae_,ae_,ih,h.1]
theorem KV.Li {kvs:List (κ×V)}{vs:List (κ×Value)}(r:KV kvs vs)(k:κ){y:V}{u:Value}(ry:RelV y u):
  KV (kvs.map fun kv=>if kv.1=k then (kv.1,y) else kv) (vs.map fun kv=>if kv.1=k then (kv.1,u) else kv):=by
 unfold KV at r ⊢
 induction r with
 | nil=>exact .nil
 | @cons p q ps qs h t ih=>
  rw [ac_,ac_]
  refine .cons ?_ ih
  obtain ⟨h1,h2⟩:=h
  by_cases e:p.1=k
  ·rw [if_pos e,if_pos (h1.symm.trans e)];exact ⟨h1,ry⟩
  ·rw [if_neg e,if_neg (fun z=>e (h1.trans z))];exact ⟨h1,h2⟩
theorem KV.put {kvs:List (κ×V)}{vs:List (κ×Value)}(r:KV kvs vs)(k:κ){y:V}{u:Value}(ry:RelV y u):KV (putK kvs k y) (stored vs k u):=by
 unfold putK stored
 rw [r.any k]
 by_cases e:(vs.any fun kv=>decide (kv.1=k))=true
 ·rw [if_pos e,if_pos e];exact r.Li k ry
 ·rw [if_neg e,if_neg e];exact Paired.snoc r ⟨rfl,ry⟩
theorem KV.length {kvs:List (κ×V)}{vs:List (κ×Value)}(r:KV kvs vs):kvs.length=vs.length:=Paired.length r
end
theorem ku {P:Program}{w:World}{k:Key}{u:Value}(r:RelV (kV k) u):(bx P w).is k u=true:=by
 cases k with
 | inl i=>obtain ⟨t,e⟩:=(show ∃t,u=Value.int i t from r);subst e;exact rZ P w i t
 | inr x=>obtain ⟨t,e⟩:=(show ∃t,u=Value.str x t from r);subst e;exact r6 P w x t
theorem pd {P:Program}{w:World}:∀{ks:List Key} {us:List Value},Vals (ks.map kV) us→ItemsAre (bx P w) ks us
 | [],_,r=>by rw [aeb] at r;cases r;exact .nil
 | k::ks,_,r=>by
  rw [ac_] at r
  cases r with
  | cons h t=>exact .cons (ku h) (pd t)
abbrev KT (H:Hp):List (List Key×V)→List (List Key×Addr×Value)→Prop:=Paired fun p q=>p.1=q.1∧H q.2.1=some (.tup (p.1.map kV))∧RelV p.2 q.2.2
theorem KT.val {H:Hp}{kvs:List (List Key×V)}{xs:List (List Key×Addr×Value)}(r:KT H kvs xs)(k:List Key):gA (bV kvs k) ((atKey xs k).map (·.2)):=by
 induction r with
 | nil=>exact True.intro
 | @cons p q ps qs h t ih=>
  obtain ⟨h1,_,h2⟩:=h
  by_cases e:p.1=k
  ·have e' :q.1=k:=h1.symm.trans e
   have b:atKey (q::qs) k=some q.2:=by simp [atKey,aeY,e']
   rw [bH e,b];exact h2
  ·have e' :¬ q.1=k:=fun z=>e (h1.trans z)
   have b:atKey (q::qs) k=atKey qs k:=by simp [atKey,aeY,e']
   rw [bw e,b];exact ih
theorem KT.Li {H:Hp}{kvs:List (List Key×V)}{xs:List (List Key×Addr×Value)}(r:KT H kvs xs)(k:List Key){y:V}{u:Value}(ry:RelV y u):
  KT H (kvs.map fun kv=>if kv.1=k then (kv.1,y) else kv) (xs.map (putAt k u)):=by
 induction r with
 | nil=>exact .nil
 | @cons p q ps qs h t ih=>
  rw [ac_,ac_]
  refine .cons ?_ ih
  obtain ⟨h1,h2,h3⟩:=h
  unfold putAt
  by_cases e:p.1=k
  ·rw [if_pos e,if_pos (h1.symm.trans e)];exact ⟨h1,h2,ry⟩
  ·rw [if_neg e,if_neg (fun z=>e (h1.trans z))];exact ⟨h1,h2,h3⟩
theorem KT.put {H:Hp}{kvs:List (List Key×V)}{xs:List (List Key×Addr×Value)}(r:KT H kvs xs)(k:List Key){b:Addr}{y:V}{u:Value}(hb:H b=some (.tup (k.map kV)))(ry:RelV y u):
  KT H (putK kvs k y) (storedH xs k b u):=by
 have e:(kvs.any fun kv=>decide (kv.1=k))=(atKey xs k).isSome:=by
  rw [fN,(r.val k).fO,aib]
 unfold putK storedH
 rw [e]
 by_cases q:(atKey xs k).isSome=true
 ·rw [if_pos q,if_pos q];exact r.Li k ry
 ·rw [if_neg q,if_neg q];exact Paired.snoc r ⟨rfl,hb,ry⟩
theorem KT.keeps {H H' :Hp}{kvs:List (List Key×V)}{xs:List (List Key×Addr×Value)}(r:KT H kvs xs)(ht:∀b ys,H b=some (.tup ys)→H' b=some (.tup ys)):KT H' kvs xs:=
 Paired.bZ r fun _ _ z=>⟨z.1,ht _ _ z.2.1,z.2.2⟩
section
variable {P:Program}{w:World}{H:Hp}{h:Heap}{a:Addr}
theorem J4 {u:HO}(ok:ig P w H h)(e:Rd H a u):cy P w H h a u:=e.ok ok
theorem ik {kvs:List (Key×V)}(ok:ig P w H h)(e:Rd H a (.dK kvs)):kvs.length≤sizeLine∧(a==sysModules)=false∧∃vs,KV kvs vs∧h.DictOf (bx P w) a vs:=
 show cy P w H h a (.dK kvs) from J4 ok e
theorem pe {kvs:List (Key×V)}(ok:ig P w H h)(e:H a=some (.dK kvs)):kvs.length≤sizeLine∧(a==sysModules)=false∧∃vs,KV kvs vs∧h.DictOf (bx P w) a vs:=ik ok (.inl e)
theorem j0 {ks:List Key}(ok:ig P w H h)(e:H a=some (.tup (ks.map kV))):(tupleKind (bx P w)).is h ks a:=by
 obtain ⟨_,its,r,o,h1,h2,n,h3⟩:=(show cy P w H h a (.tup (ks.map kV)) from ok a _ e)
 exact ⟨o,its.toArray,n,h1,h2,h3,by simpa using pd r⟩
theorem mM {kvs:List (List Key×V)}(ok:ig P w H h)(e:Rd H a (.dT kvs)):kvs.length≤sizeLine∧(a==sysModules)=false∧
  ∃xs,KT H kvs xs∧h.DictOfH (tupleKind (bx P w)) a xs:=by
 obtain ⟨z,y,xs,r,o,es,ep,h1,h2,h3,h4,h5⟩:=(show cy P w H h a (.dT kvs) from J4 ok e)
 refine ⟨z,y,xs,r,o,es,ep,h1,h2,h3,h4,fun x hx=> ?_,h5⟩
 have all:∀{l:List (List Key×V)} {m:List (List Key×Addr×Value)},KT H l m→∀x∈m,(tupleKind (bx P w)).is h x.1 x.2.1:=by
  intro l m q
  induction q with
  | nil=>intro x hx;exact nomatch hx
  | @cons p q ps qs hq t ih=>
   intro x hx
   rcases adY.mp hx with e | hx
   ·subst e
    exact j0 ok (by rw [← hq.1];exact hq.2.1)
   ·exact ih x hx
 exact all r x hx
theorem OB {kvs:List (List Key×V)}(ok:ig P w H h)(e:H a=some (.dT kvs)):kvs.length≤sizeLine∧(a==sysModules)=false∧
  ∃xs,KT H kvs xs∧h.DictOfH (tupleKind (bx P w)) a xs:=mM ok (.inl e)
end
def cL (H:Hp)(a:Addr)(y:V)(r:Option V):Prop:=
 (∃kvs k,Rd H a (.dK kvs)∧y=kV k∧r=bV kvs k)∨∃kvs k b,Rd H a (.dT kvs)∧y=.ref b∧H b=some (.tup (k.map kV))∧r=bV kvs k
def h7 (H:Hp)(a:Addr)(y v:V)(H' :Hp):Prop:=
 (∃kvs k,H a=some (.dK kvs)∧y=kV k∧kvs.length < sizeLine∧H' =upd H a (.dK (putK kvs k v)))∨
 ∃kvs k b,H a=some (.dT kvs)∧y=.ref b∧H b=some (.tup (k.map kV))∧kvs.length < sizeLine∧H' =upd H a (.dT (putK kvs k v))
theorem cL.k {H:Hp}{a:Addr}{kvs:List (Key×V)}{k:Key}(e:H a=some (.dK kvs)):cL H a (kV k) (bV kvs k):=.inl ⟨kvs,k,.inl e,rfl,rfl⟩
theorem h7.k {H:Hp}{a:Addr}{kvs:List (Key×V)}{k:Key}{v:V}(e:H a=some (.dK kvs))(hl:kvs.length < sizeLine):h7 H a (kV k) v (upd H a (.dK (putK kvs k v))):=.inl ⟨kvs,k,e,rfl,hl,rfl⟩
section
variable {X:Cx}{pins:List (Addr×Obj)}{σ:St}{H:Hp}{s:Shared}{a:Addr}{y v:V}{u r:Value}{o:Option V}{A:Around}{E:Value→Shared→Prop}
theorem Inv.big (I:Inv X pins σ H s):sysModules < s.heap.objs.size:=by
 have h:mainGlobals < s.heap.objs.size:=(I.mod.glob.keeps I.bk).lt
 exact ane (by decide) h
theorem ye {Q:Value→Shared→Prop}(hu:A.units+1 < cLine)(I:Inv X pins σ H s)(g:cL H a y (some v))(ry:RelV y u)(h:∀w' s',Inv X pins σ H s' →RelV v w' →Q w' s'):
  wpAny (model X.prog X.w) A (getItem (.ref a) u) Q E s:=by
 rcases g with ⟨kvs,k,e,ey,l⟩ | ⟨kvs,k,b,e,ey,eb,l⟩
 ·subst ey
  obtain ⟨z,hd,vs,rel,dd⟩:=ik I.bJ e
  obtain ⟨w',hw,rW⟩:=gA.some_of (v:=v) (o:=valueAt vs k) (by rw [l];exact rel.val k)
  exact wpAny_getItem_of (ku ry) dd.mapOf hw (h w' _ (I.tok _) rW)
 ·subst ey
  cases (show u=Value.ref b from ry)
  obtain ⟨z,hd,xs,rel,dd⟩:=mM I.bJ e
  obtain ⟨w',hw,rW⟩:=gA.some_of (v:=v) (o:=(atKey xs k).map (·.2)) (by rw [l];exact rel.val k)
  obtain ⟨p,hp,OC⟩:=adM.mp hw
  refine wpAny_getItem_heap (tupleKind_room_in1 hu) (j0 I.bJ eb) dd hp ?_
  rw [OC]
  exact h w' _ (I.tok _) rW
theorem Wk {Q:Value→Shared→Prop}(hu:A.units+1 < cLine)(I:Inv X pins σ H s)(g:cL H a y o)(ry:RelV y u)(h:∀s',Inv X pins σ H s' →Q (.bool o.isSome) s'):
  wpAny (model X.prog X.w) A (compareOp .In u (.ref a)) Q E s:=by
 rcases g with ⟨kvs,k,e,ey,l⟩ | ⟨kvs,k,b,e,ey,eb,l⟩
 ·subst ey
  obtain ⟨z,hd,vs,rel,dd⟩:=ik I.bJ e
  refine wpAny_in_of (ku ry) hd dd.mapOf ?_
  rw [← (rel.val k).fO, ← l]
  exact h _ (I.tok _)
 ·subst ey
  cases (show u=Value.ref b from ry)
  obtain ⟨z,hd,xs,rel,dd⟩:=mM I.bJ e
  refine wpAny_in_heap (tupleKind_room_in1 hu) (j0 I.bJ eb) hd dd ?_
  have q:=(rel.val k).fO
  rw [aib] at q
  rw [← q, ← l]
  exact h _ (I.tok _)
theorem HK {Q:Value→Shared→Prop}(hu:A.units+1 < cLine)(I:Inv X pins σ H s)(g:cL H a y o)(ry:RelV y u)(h:∀s',Inv X pins σ H s' →Q (.bool (!o.isSome)) s'):
  wpAny (model X.prog X.w) A (compareOp .NotIn u (.ref a)) Q E s:=by
 rcases g with ⟨kvs,k,e,ey,l⟩ | ⟨kvs,k,b,e,ey,eb,l⟩
 ·subst ey
  obtain ⟨z,hd,vs,rel,dd⟩:=ik I.bJ e
  refine wpAny_notIn_of (ku ry) hd dd.mapOf ?_
  rw [← (rel.val k).fO, ← l]
  exact h _ (I.tok _)
 ·subst ey
  cases (show u=Value.ref b from ry)
  obtain ⟨z,hd,xs,rel,dd⟩:=mM I.bJ e
  refine wpAny_notIn_heap (tupleKind_room_in1 hu) (j0 I.bJ eb) hd dd ?_
  have q:=(rel.val k).fO
  rw [aib] at q
  rw [← q, ← l]
  exact h _ (I.tok _)
theorem lW {h' :Heap}{t' :Nat}{ob:HO}(I:Inv X pins σ H s)(mu:NC (H a))(hs:Heap.SameBut a s.heap h')(he:∃q,h'.get? a=some q)(new:cy X.prog X.w (upd H a ob) h' a ob):
  Inv X pins σ (upd H a ob) {s with heap:=h',toks:=t' }:=
 I.write (x:=a) (e:=a) mu (.inl rfl) (fun b q hb z=>(hs.2 b hb).trans z) he new
theorem va {P:Program}{w:World}{H' :Hp}{h' :Heap}{kvs:List (Key×V)}{vs:List (Key×Value)}(z:kvs.length≤sizeLine)(hd:(a==sysModules)=false)(rel:KV kvs vs)(dd:h'.DictOf (bx P w) a vs):
  cy P w H' h' a (.dK kvs):=⟨z,hd,vs,rel,dd⟩
theorem yf {H' :Hp}{Q:Unit→Shared→Prop}(hu:A.units+1 < cLine)(I:Inv X pins σ H s)(g:h7 H a y v H')(ry:RelV y u)(rv:RelV v r)(h:∀s',Inv X pins σ H' s' →Q () s'):
  wpAny (model X.prog X.w) A (setItem (.ref a) u r) Q E s:=by
 rcases g with ⟨kvs,k,e,ey,l,eH⟩ | ⟨kvs,k,b,e,ey,eb,l,eH⟩
 ·subst ey eH
  obtain ⟨z,hd,vs,rel,dd⟩:=pe I.bJ e
  have hz:vs.length≤sizeLine:=by rw [← rel.length];exact z
  have hl:(putK kvs k v).length≤sizeLine:=by have:=fh kvs k v;omega
  refine wpAny_setItem_pairs (hsz:=hz) (ku ry) dd fun h' Lj hs=>h _ ?_
  have he:∃q,h'.get? a=some q:=let ⟨q,_,_,hq,_⟩:=Lj;⟨q,hq⟩
  exact lW I (by rw [e];exact True.intro) hs he (va hl hd (rel.put k rv) Lj)
 ·subst ey eH
  cases (show u=Value.ref b from ry)
  obtain ⟨z,hd,xs,rel,dd⟩:=OB I.bJ e
  have hz:xs.length≤sizeLine:=by rw [← Paired.length rel];exact z
  have hl:(putK kvs k v).length≤sizeLine:=by have:=fh kvs k v;omega
  refine wpAny_setItem_heap (hsz:=hz) (tupleKind_room_in1 hu) (j0 I.bJ eb) dd fun h' Lj hs=>h _ ?_
  obtain ⟨q,es,ep,hq,h2,h3,h4,_,h5⟩:=Lj
  refine lW I (by rw [e];exact True.intro) hs ⟨q,hq⟩ ⟨hl,hd,_,(rel.put k eb rv).keeps fun c ys ec=> ?_,q,es,ep,hq,h2,h3,h4,h5⟩
  rw [ao (NA ec e (fun z=>nomatch z))]
  exact ec
end
section
variable {X:Cx}{pins:List (Addr×Obj)}{σ:St}{H:Hp}{s:Shared}{a:Addr}{kvs:List (Key×V)}{k:Key}{u:Value}{A:Around}{E:Value→Shared→Prop}
theorem OD {Q:Value→Shared→Prop}(I:Inv X pins σ H s)(e:Rd H a (.dK kvs))(h:∀t s',Inv X pins σ H s' →Q (.int kvs.length t) s'):wpAny (model X.prog X.w) A (call (.builtin "len") [.ref a]) Q E s:=by
 obtain ⟨z,hd,vs,rel,dd⟩:=ik I.bJ e
 refine call_len_dict hd dd (by rw [← rel.length];rw [sizeLine_eq] at z;omega) ?_
 rw [← rel.length]
 exact h _ _ (I.tok _)
end
def OE (i:Expr):Prop:=∀ov iv,subscripted i false ov iv=operate [ov,iv] (getItem ov iv)
theorem HL {prog:Program}{w:World}{A:Around}{E:Value→Shared→Prop}{s:Shared}{env:Env}{value slice:Expr}{pos:Pos}{T id:String}{Q:Value→Shared→Prop}
  (hl:typeLookup (.type T) "__getitem__"=pure (some (.builtin id))) (hs:OE slice)
  (h:wpAny (model prog w) A (eval value env) (fun o s₁=>wpAny (model prog w) A (eval slice env) (fun i s₂=>s₂.TypeIs o T∧wpAny (model prog w) A (getItem o i) Q E s₂) E s₁) E s):
  wpAny (model prog w) A (eval (.Subscript value slice pos) env) Q E s:=by
 refine Subscript_ (wpAny_mono h (fun o s₁ h₁=>wpAny_mono h₁ (fun i s₂ h₂=> ?_) fun _ _ x=>x) fun _ _ x=>x)
 obtain ⟨hT,h₂⟩:=h₂
 unfold subscriptTail
 refine wpAny_bind ?_
 rw [getitemInPython_of_ne hT.not_modules]
 refine wpAny_bind (wpAny_specialOf hT hl ?_)
 have fin:wpAny (model prog w) A (subscripted slice false o i) (fun r s₃=>wpAny (model prog w) A (letTemporaryGo value o r >>=fun _=>pure r) Q E s₃) E s₂:=by
  rw [hs o i]
  exact wpAny_operating (wpAny_mono h₂ (fun r s₃ h₃=>wpAny_bind (wpAny_letTemporaryGo (wpAny_pure h₃))) fun _ _ x=>x)
 first
  | exact wpAny_pure (wpAny_bind fin)
  | exact wpAny_bind (wpAny_pure (wpAny_bind fin))
  | exact wpAny_bind fin
theorem sZ {X:Cx}{pins:List (Addr×Obj)}{σ:St}{H:Hp}{s:Shared}{a:Addr}{y:V}{o:Option V}(I:Inv X pins σ H s)(g:cL H a y o):s.TypeIs (.ref a) "dict":=by
 rcases g with ⟨kvs,k,e,_,_⟩ | ⟨kvs,k,b,e,_,_,_⟩
 ·obtain ⟨_,_,vs,_,dd⟩:=ik I.bJ e
  exact dd.typeIs
 ·obtain ⟨_,_,xs,_,dd⟩:=mM I.bJ e
  exact dd.typeIs
inductive BU (Q:VK)(x:V)(y:V)(H2:Hp):Prop where
 | mk (a v:_) (_:x=.ref a) (_:cL H2 a y (some v)) (_:Q v H2):BU Q x y H2
def OF (td ty:TE):TE:=fun σ H Q=>td σ H fun x H1=>ty σ H1 fun y H2=>BU Q x y H2
inductive J5 (Q:VK)(y:V)(x:V)(H2:Hp):Prop where
 | mk (a o:_) (_:x=.ref a) (_:cL H2 a y o) (_:Q (.bl o.isSome) H2):J5 Q y x H2
def Wm (ty td:TE):TE:=fun σ H Q=>ty σ H fun y H1=>td σ H1 fun x H2=>J5 Q y x H2
inductive s_ (Q:VK)(y:V)(x:V)(H2:Hp):Prop where
 | mk (a o:_) (_:x=.ref a) (_:cL H2 a y o) (_:Q (.bl (!o.isSome)) H2):s_ Q y x H2
def HM (ty td:TE):TE:=fun σ H Q=>ty σ H fun y H1=>td σ H1 fun x H2=>s_ Q y x H2
inductive BV (D:Ends)(σ:L2.St)(v:V)(x:V)(y:V)(H3:Hp):Prop where
 | mk (a H4:_) (_:x=.ref a) (_:h7 H3 a y v H4) (_:D.nx σ H4):BV D σ v x y H3
def OG (td ty tv:TE):TS:=fun D σ H=>tv σ H fun v H1=>td σ H1 fun x H2=>ty σ H2 fun y H3=>BV D σ v x y H3
section
variable {X:Cx}{o i e value:Expr}{pos pos' qj:Pos}{td ty tv:TE}
theorem cM (hu:X.A.units+1 < cLine)(ho:PE X o td)(hi:PE X i ty)(hs:OE i):PE X (.Subscript o i pos) (OF td ty):=by
 intro pins s σ H Q I h
 refine HL PySem.F.slot_dict_getitem.lookup hs (cu (ho pins s σ H _ I h) fun u s1 ⟨x,H1,I1,rx,q1⟩=>cu (hi pins s1 σ H1 _ I1 q1) fun iv s2 ⟨y,H2,I2,ry,a,v,ex,g,q2⟩=> ?_)
 subst ex
 obtain rfl:u=Value.ref a:=rx
 exact ⟨sZ I2 g,ye hu I2 g ry fun w' s3 I3 rW =>⟨v,H2,I3,rW,q2⟩⟩
theorem vb (hu:X.A.units+1 < cLine)(hi:PE X i ty)(ho:PE X o td):PC X .In i o (Wm ty td):=by
 intro pins s σ H Q I h
 refine cu (hi pins s σ H _ I h) fun iv s1 ⟨y,H1,I1,ry,q1⟩=>cu (ho pins s1 σ H1 _ I1 q1) fun u s2 ⟨x,H2,I2,rx,a,ov,ex,g,q2⟩=> ?_
 subst ex
 obtain rfl:u=Value.ref a:=rx
 exact Wk hu I2 g ry fun s3 I3=>⟨.bl ov.isSome,H2,I3,rfl,q2⟩
theorem j3 (hu:X.A.units+1 < cLine)(hi:PE X i ty)(ho:PE X o td):PC X .NotIn i o (HM ty td):=by
 intro pins s σ H Q I h
 refine cu (hi pins s σ H _ I h) fun iv s1 ⟨y,H1,I1,ry,q1⟩=>cu (ho pins s1 σ H1 _ I1 q1) fun u s2 ⟨x,H2,I2,rx,a,ov,ex,g,q2⟩=> ?_
 subst ex
 obtain rfl:u=Value.ref a:=rx
 exact HK hu I2 g ry fun s3 I3=>⟨.bl (!ov.isSome),H2,I3,rfl,q2⟩
theorem di (hu:X.A.units+1 < cLine)(ho:PE X o td)(hi:PE X i ty)(hv:PE X value tv)(hs:swapsWith value (some (.Subscript o i pos')) pos.line X.env=pure false):
  PS X (.Assign [.Subscript o i pos'] value pos) (OG td ty tv):=by
 intro pins s σ H D I h
 refine wpAny_Assign_Subscript (cu (hv pins s σ H _ I h) fun r s1 ⟨v,H1,I1,rv,q1⟩=>cu (ho pins s1 σ H1 _ I1 q1) fun u s2 ⟨x,H2,I2,rx,q2⟩=>cu (hi pins s2 σ H2 _ I2 q2) fun iv s3 ⟨y,H3,I3,ry,a,H4,ex,g,q3⟩=> ?_) hs
 subst ex
 obtain rfl:u=Value.ref a:=rx
 exact yf hu I3 g ry rv fun s4 I4=>⟨σ,H4,I4,q3⟩
end
theorem tf {P:Program}{w:World}{H:Hp}(h:Heap)(hb:sysModules < h.objs.size):cy P w H (h.push {cls:=.type "dict",data:=.dict #[]}) h.objs.size (.dK []):=
 ⟨aeg _,beq_eq_false_iff_ne.mpr (ad7 (ad5 hb)),[],.nil,Heap.DictOf.new h⟩
def Lk:TE:=fun _ H Q=>∀p,H p=none→Q (.ref p) (upd H p (.dK []))
section
variable {X:Cx}{pos:Pos}
theorem cV:PE X (.Dict [] [] pos) Lk:=fun pins s σ H Q I h=>
 wpAny_Dict_empty ⟨.ref s.heap.objs.size,_,I.laid (a:=s.heap.objs.size) (o:=.dK []) (t' :=s.toks) (fun _ _ q=>Heap.get?_push_of_some _ q) (adL _) (tf s.heap I.big),rfl,h _ (I.bJ.fresh (adL _))⟩
end
def vc:List (TE×TE)→St→Hp→(List (V×V)→Hp→Prop)→Prop
 | [],_,H,Q=>Q [] H
 | (tk,tv)::r,σ,H,Q=>tk σ H fun x H1=>tv σ H1 fun y H2=>vc r σ H2 fun ps H3=>Q ((x,y)::ps) H3
abbrev VV:List (V×V)→List (Value×Value)→Prop:=Paired fun p q=>RelV p.1 q.1∧RelV p.2 q.2
def U2 (X:Cx)(pos:Pos)(keys:List (Option Expr))(values:List Expr)(HN:List (TE×TE)):Prop:=
 ∀(pins:List (Addr×Obj)) (s:Shared) (σ:St) (H:Hp) (Q:List (V×V)→Hp→Prop),Inv X pins σ H s→vc HN σ H Q→
  wpAny (model X.prog X.w) X.A (evalPairs (pairTrees keys values X.env pos)) (fun vs s' =>∃ps H',Inv X pins σ H' s' ∧VV ps vs∧Q ps H') X.xe s
theorem wQ {X:Cx}{pos:Pos}:U2 X pos [] [] []:=fun pins s σ H Q I h=>pairTrees_nil_walk ⟨[],H,I,.nil,h⟩
theorem mN {X:Cx}{pos:Pos}{k v:Expr}{ks:List (Option Expr)}{vs:List Expr}{tk tv:TE}{HN:List (TE×TE)}(hk:PE X k tk)(hv:PE X v tv)(hr:U2 X pos ks vs HN):
  U2 X pos (some k::ks) (v::vs) ((tk,tv)::HN):=fun pins s σ H Q I h=>
 pairTrees_cons_walk (cu (hk pins s σ H _ I h) fun u s1 ⟨x,H1,I1,rx,q1⟩=>cu (hv pins s1 σ H1 _ I1 q1) fun w2 s2 ⟨y,H2,I2,ry,q2⟩=>
  cu (hr pins s2 σ H2 _ I2 q2) fun ws s3 ⟨ps,H3,I3,rel,q3⟩=>⟨(x,y)::ps,H3,I3,.cons ⟨rx,ry⟩ rel,q3⟩)
def b8 (kvs more:List (Key×V)):List (Key×V):=more.foldl (fun acc kv=>putK acc kv.1 kv.2) kvs
theorem KV.merge:∀{more:List (Key×V)} {rs:List (Key×Value)} {kvs:List (Key×V)} {vs:List (Key×Value)},KV more rs→KV kvs vs→KV (b8 kvs more) (merged vs rs):=by
 intro more rs kvs vs r
 unfold KV at r
 induction r generalizing kvs vs with
 | nil=>intro q;exact q
 | @cons p q ps qs h t ih=>
  intro r0
  have e:KV (putK kvs p.1 p.2) (stored vs q.1 q.2):=by
   have:=r0.put p.1 h.2
   rw [← h.1];exact this
  exact ih e
theorem fD:∀(more kvs:List (Key×V)),(b8 kvs more).length≤kvs.length+more.length
 | [],kvs=>by show kvs.length≤kvs.length+0;omega
 | p::r,kvs=>by
  have h1:=fD r (putK kvs p.1 p.2)
  have h2:=fh kvs p.1 p.2
  show (b8 (putK kvs p.1 p.2) r).length≤_
  rw [ad4];omega
theorem mO {P:Program}{w:World}:∀{kvs:List (Key×V)} {ws:List (Value×Value)},VV (kvs.map fun kv=>(kV kv.1,kv.2)) ws→∃rs,Carries (bx P w) ws rs∧KV kvs rs
 | [],_,r=>by rw [aeb] at r;cases r;exact ⟨[],True.intro,.nil⟩
 | p::kvs,_,r=>by
  rw [ac_] at r
  cases r with
  | @cons a b as bs h t=>
   obtain ⟨rs,c,q⟩:=mO (P:=P) (w:=w) t
   obtain ⟨b1,b2⟩:=b
   exact ⟨(p.1,b2)::rs,⟨ku h.1,rfl,c⟩,.cons ⟨rfl,h.2⟩ q⟩
def OH (HN:List (TE×TE)):TE:=fun σ H Q=>∀p,H p=none→vc HN σ (upd H p (.dK [])) fun ps H2=>H2 p=some (.dK [])∧∃kvs:List (Key×V),ps=kvs.map (fun kv=>(kV kv.1,kv.2))∧kvs.length≤15∧Q (.ref p) (upd H2 p (.dK (b8 [] kvs)))
theorem wU {X:Cx}{pos:Pos}{keys:List (Option Expr)}{values:List Expr}{HN:List (TE×TE)}(h:U2 X pos keys values HN)(BH:keys.all (·.isSome)=true)(hl:keys.length=values.length)(h0:keys≠[])
  (h15:keys.length≤15):PE X (.Dict keys values pos) (OH HN):=by
 intro pins s σ H Q I q
 have hn:=I.bJ.fresh (adL s.heap.objs.size)
 have I1:=I.laid (a:=s.heap.objs.size) (o:=.dK []) (h' :=s.heap.push {cls:=.type "dict",data:=.dict #[]}) (t' :=s.toks) (fun _ _ q=>Heap.get?_push_of_some _ q) (adL _) (tf s.heap I.big)
 refine wpAny_Dict_walk (knd:=bx X.prog X.w) BH hl h0 h15 (cu (h pins _ σ _ _ I1 (q _ hn)) fun ws s2 ⟨ps,H2,I2,rel,e,kvs,ep,lk,q2⟩=> ?_)
 subst ep
 obtain ⟨rs,c,rk⟩:=mO (P:=X.prog) (w:=X.w) rel
 obtain ⟨z,hd,vs0,r0,dd⟩:=pe I2.bJ e
 cases r0
 refine ⟨rs,c,dd,fun h' Lj hs=>⟨.ref s.heap.objs.size,_,?_,rfl,q2⟩⟩
 have hz:(b8 [] kvs).length≤sizeLine:=by
  have h1:=fD kvs []
  rw [amJ] at h1
  rw [sizeLine_eq];omega
 have he:∃q,h'.get? s.heap.objs.size=some q:=let ⟨q,_,_,hq,_⟩:=Lj;⟨q,hq⟩
 exact lW I2 (by rw [e];exact True.intro) hs he (va hz hd (rk.merge .nil) Lj)
structure M2 (X:Cx)(o:Expr)(m:Str)(apos:Pos)(e f:Expr)(eZ:Pos):Prop where
 base:attributeBase o m X.env (eval o X.env)=eval o X.env
 few:((backTo eZ (starEach [e,f] X.env)).all (fun x=> !x.1) && (backToKw eZ (keywordEach [] X.env)).all (fun x=>x.1.isSome)
  && decide (([e,f]:List Expr).length+([]:List Keyword).length+(if ([]:List Keyword).isEmpty then 0 else 1) < 30))=true
 line:(apos.endLine==eZ.line)=true
 trees:backTo eZ (starEach [e,f] X.env)=[(false,eval e X.env),(false,eval f X.env)]
def IsD (H:Hp)(a:Addr):Prop:=(∃kvs,Rd H a (.dK kvs))∨∃kvs,Rd H a (.dT kvs)
theorem Ll {X:Cx}{pins:List (Addr×Obj)}{σ:St}{H:Hp}{s:Shared}{a:Addr}(I:Inv X pins σ H s)(d:IsD H a):
  s.TypeIs (.ref a) "dict"∧(∀b,Value.ref a=.ref b→∃ob,s.heap.get? b=some ob∧ob.dict=none)∧(a==sysModules)=false:=by
 rcases d with ⟨kvs,e⟩ | ⟨kvs,e⟩
 ·obtain ⟨_,hd,vs,_,dd⟩:=ik I.bJ e
  refine ⟨dd.typeIs,fun b q=> ?_,hd⟩
  cases q
  obtain ⟨ob,_,_,h1,h2,_⟩:=dd
  exact ⟨ob,h1,h2.2.1⟩
 ·obtain ⟨_,hd,xs,_,dd⟩:=mM I.bJ e
  refine ⟨dd.typeIs,fun b q=> ?_,hd⟩
  cases q
  obtain ⟨ob,_,_,h1,h2,_⟩:=dd
  exact ⟨ob,h1,h2.2.1⟩
section
variable {X:Cx}{pins:List (Addr×Obj)}{σ:St}{H:Hp}{s:Shared}{a:Addr}{y d:V}{u r:Value}{o:Option V}{A:Around}{E:Value→Shared→Prop}
theorem Lm {Q:Value→Shared→Prop}(hu:A.units+1 < cLine)(I:Inv X pins σ H s)(g:cL H a y o)(ry:RelV y u)(rd:RelV d r)(h:∀w' s',Inv X pins σ H s' →RelV (o.getD d) w' →Q w' s'):
  wpAny (model X.prog X.w) A (call (.builtin "dict.get") [.ref a,u,r]) Q E s:=by
 rcases g with ⟨kvs,k,e,ey,l⟩ | ⟨kvs,k,b,e,ey,eb,l⟩
 ·subst ey
  obtain ⟨z,hd,vs,rel,dd⟩:=ik I.bJ e
  refine call_meetsIn PySem.F.slot_dict_get dd.typeIs PySem.F.entry_dict_get (PySem.F.args_dict_get_3 _ _ _) (meets_dict_get_default (bx X.prog X.w) a (ku ry) hd r) ⟨_,dd.mapOf,h _ _ (I.tok _) ?_⟩
  rw [l]
  exact (rel.val k).getD rd
 ·subst ey
  cases (show u=Value.ref b from ry)
  obtain ⟨z,hd,xs,rel,dd⟩:=mM I.bJ e
  refine call_meetsIn PySem.F.slot_dict_get dd.typeIs PySem.F.entry_dict_get (PySem.F.args_dict_get_3 _ _ _) (meetsH_dict_get_default (tupleKind (bx X.prog X.w)) a b hd r) ⟨tupleKind_room_in1 hu,k,xs,j0 I.bJ eb,dd,h _ _ (I.tok _) ?_⟩
  rw [l]
  exact (rel.val k).getD rd
end
def Lo (td ty tx:TE):TE:=fun σ H Q=>td σ H fun x H1=>∃a,x=.ref a∧IsD H1 a∧ty σ H1 fun y H2=>tx σ H2 fun z H3=>∃o,cL H3 a y o∧Q (o.getD z) H3
section
variable {X:Cx}{o e f:Expr}{apos eZ:Pos}{td ty tx:TE}
theorem BW (hu:X.A.units+1 < cLine)(ho:PE X o td)(he:PE X e ty)(hf:PE X f tx)(m:M2 X o "get" apos e f eZ):PE X (.Call (.Attribute o "get" apos) [e,f] [] eZ) (Lo td ty tx):=by
 intro pins s σ H Q I h
 refine wpAny_Call_method m.base m.few m.line PySem.F.plainAttrs_dict PySem.F.slot_dict_get PySem.F.type_dict_get (cu (ho pins s σ H _ I h) fun u s1 ⟨x,H1,I1,rx,a,ex,d,q1⟩=> ?_)
 subst ex
 obtain rfl:u=Value.ref a:=rx
 obtain ⟨t1,t2,_⟩:=Ll I1 d
 refine ⟨t1,t2,?_⟩
 rw [m.trees]
 refine Calls.callWith_builtin rfl (Calls.evalArgs_plain (Calls.spliced_cons (cu (he pins s1 σ H1 _ I1 q1) fun iv s2 ⟨y,H2,I2,ry,q2⟩=>
  Calls.spliced_cons (cu (hf pins s2 σ H2 _ I2 q2) fun fv s3 ⟨z,H3,I3,rz,ov,g,q3⟩=>Calls.spliced_nil ?_))))
 exact Lm hu I3 g ry rz fun w' s4 I4 rW =>⟨_,H3,I4,rW,q3⟩
end
section
variable {X:Cx}{pins:List (Addr×Obj)}{σ:St}{H:Hp}{s:Shared}{a:Addr}{kvs:List (Key×V)}{A:Around}{E:Value→Shared→Prop}
end
section
variable {X:Cx}{pins:List (Addr×Obj)}{σ:St}{H:Hp}{s:Shared}{a:Addr}{y:V}{u:Value}{A:Around}{E:Value→Shared→Prop}
end
end L2
set_option maxHeartbeats 4000000
namespace Ty
open PySem PySem.Spec PyProof.Rows L2
section
variable {X:Cx}
theorem HP {pins:List (Addr×Obj)}{σ:L2.St}{H:Hp}{s:Shared}(I:Inv X pins σ H s):s.heap.NoSeer:=I.ok.mod.seer.keeps I.bk
theorem cv.py {k:Nat}{A:Around}(r:cv k A)(h:32≤k):A.depth+Builtin.pylongFrames < recursionLimit:=by
 have:=r.dp
 have:Builtin.pylongFrames=100:=rfl
 omega
theorem eE {env:Env}{l:List Env}(ht:X.prog.given.tree=none)(hd:X.A.depth+Builtin.pylongFrames < recursionLimit)(GK:X.stack=env::l)(h1:env.scope.isGenerator=false)(h2:env.scope.isCoroutine=false)(h3:env.builtins=builtinsNs)(h4:env.globals=mainGlobals):
  jP X (binaryOp .FloorDiv) (rI K_ fun i j=>.int (i.fdiv j)):=by
 intro pins s σ H x y v u Q I rx ry h
 obtain ⟨i,j,rfl,rfl,hc,q⟩:=h
 obtain ⟨t,rfl⟩:=rx
 obtain ⟨t',rfl⟩:=ry
 exact floordiv_int hc ⟨.int _,H,I.tok _,⟨_,rfl⟩,q⟩ (.inr (PylongRoom.of I.nolimit hd (SeerAt.of (HP I) ht (by rw [I.ok.frames,GK]) h1 h2 h3 h4)))
end
end Ty
set_option maxHeartbeats 4000000
namespace Ty
open PySem PySem.Spec PyProof.Rows L2
section
variable {prog:Program}{w:World}{A:Around}{E:Value→Shared→Prop}{s:Shared}{KK:Type}[DecidableEq KK]{knd:KeyKind prog w KK}
theorem yg {d:Addr}{kvs:List (KK×Value)}{Q:Bool→Shared→Prop}(hm:s.heap.DictOf knd d kvs)(h:Q false s):wpAny (model prog w) A (Builtin.List.listLengthHint (.ref d)) Q E s:=by
 unfold Builtin.List.listLengthHint
 refine wpAny_bind (wpAny_specialOf (name:=Str.ofString "__len__") hm.typeIs F.slot_dict_len.lookup ?_)
 generalize hid:("dict.__len__":String)=id0
 wp_delta
 rw [show splitId id0=some ("dict","__len__") from by subst hid;decide+kernel]
 subst hid
 refine wpAny_bind (wpAny_isInstance (T:="dict") (b:=true) hm.typeIs (by rw [isSubtype_type];kernel_rfl) ?_)
 refine wpAny_ite_split (fun Wn=>absurd Wn (by decide)) (fun _=> ?_)
 refine wpAny_ite_split (fun _=> ?_) (fun Wn=>absurd (by decide+kernel) Wn)
 refine wpAny_bind (wpAny_typeOf (T:="dict") hm.typeIs ?_)
 exact wpAny_pure h
theorem tj {R:Result→Shared→Prop}{d:Addr}{kvs:List (KK×Value)}{ep:Nat}(hh:A.handled=none)(hd:(d==sysModules)=false)(hm:s.heap.DictAt knd d kvs ep)(hlen:kvs.length≤sizeLine)(S:Addr)(res:Value)(c₀:Nat)(hS:s.heap.get? S=some {cls:=.type "list",data:=.seq #[] c₀})
  (hR:∀h' tk gK c',(∀b o,b≠S→s.heap.get? b=some o→h'.get? b=some o)→h'.get? S=some {cls:=.type "list",dict:=none,data:=.seq gK c',slots:= #[]}→
   ItemsOf (fun i v=>∃k x,kvs[i]? =some (k,x)∧knd.is k v=true) gK kvs.length→R (.ok (.ret res)) {s with heap:=h',toks:=tk}):
  wpAny (model prog w) A.in1 (Builtin.List.listExtendWith (.ref S) (.ref d) res)
   (fun fin s' =>match fin with | .done f=>R (.ok f) s' | .again c' =>c'.quiet=true∧codeAny (model prog w) A c' R s') (fun e s' =>R (.error e) s') s:=by
 obtain ⟨od,es,M8,ot,gL,hk0,hp0,hn0⟩:=id hm
 have hT:s.TypeIs (.ref d) "dict":=hm.dictOf.typeIs
 have M9:S≠d:=fun e=>by
  rw [e] at hS
  rw [hS] at M8
  cases M8
  cases gL
 have hdI:d≠s.heap.objs.size:=ad5 (Heap.lt_size M8)
 have Wo:S≠s.heap.objs.size:=ad5 (Heap.lt_size hS)
 have hSf:S∉[s.heap.objs.size,d]:=fun hm=>by
  rcases adY.mp hm with z | z
  ·exact Wo z
  ·exact M9 (adJ.mp z)
 have W:=(Walks.dictKeys (knd:=knd) (A:=A.in1) hh s.heap.objs.size d hdI kvs ep).toS
 unfold Builtin.List.listExtendWith
 refine wpAny_bind (wpAny_typeOf (T:="dict") hT ?_)
 have h1:Builtin.List.listSameRef (.ref S) (.ref d)=false:=by simp [Builtin.List.listSameRef,M9]
 have h2:(Value.type "dict"==Value.type "list")=false:=by decide
 have h3:(Value.type "dict"==Value.type "tuple")=false:=by decide
 simp only [h1,h2,h3,anU,afb,if_false]
 refine wpAny_bind (wpAny_pyIter_dict hd hm ?_)
 have M_:(s.heap.push {cls:=.type "dict_keyiterator",data:=.fields #[.ref d,.int 0 0,.int kvs.length 0,.int ep 0]}).DictAt knd d kvs ep:=hm.at' fun o e=>Heap.get?_push_of_some _ e
 refine wpAny_bind (wpAny_holding (yg (knd:=knd) M_.dictOf ?_))
 have OI:=Heap.get?_push_of_some {cls:=.type "dict_keyiterator",data:=.fields #[.ref d,.int 0 0,.int kvs.length 0,.int ep 0]} hS
 have it₁:(s.heap.push {cls:=.type "dict_keyiterator",data:=.fields #[.ref d,.int 0 0,.int kvs.length 0,.int ep 0]}).IsKeyIter s.heap.objs.size d 0 kvs.length ep:=⟨_,Heap.get?_push_size _ rfl,rfl,rfl⟩
 have key:∀(h:Heap) (c₁ tk:Nat),h.IsKeyIter s.heap.objs.size d 0 kvs.length ep→h.DictAt knd d kvs ep→(∀b o,b≠S→s.heap.get? b=some o→h.get? b=some o)→
   h.get? S=some {cls:=.type "list",data:=.seq #[] c₁}→codeAny (model prog w) A (.builtin "list.extend.loop" ⟨[.ref S,.ref s.heap.objs.size,res],[]⟩) R {s with heap:=h,toks:=tk}:=by
  intro h c₁ tk hit hdm hk OI
  refine codeAny_extend_loopS W hlen S hSf res kvs.length 0 _ #[] c₁ rfl (aeg _) ⟨hit,hdm⟩ OI (ItemsOf.nil _) fun s' gK c' hm' Lp tm=> ?_
  rw [Moved.eq_with hm']
  refine hR s'.heap s'.toks gK c' (fun b o hb e=>hm'.heap b o (fun yh=> ?_) (hk b o hb e)) Lp tm
  rcases adY.mp yh with e' | yh
  ·exact hb e'
  ·exact absurd (Heap.lt_size e) (by rw [adJ.mp yh];exact aew _)
 refine wpAny_ite_split (fun _=> ?_) (fun _=>wpAny_pure ⟨plainId_quiet F.plain_extend_loop _,key _ c₀ _ it₁ M_ (fun b o _ e=>Heap.get?_push_of_some _ e) OI⟩)
 refine wpAny_bind (wpAny_rule ?_)
 refine wpAny_bind ?_
 show wpAny _ _ (updateSeq S (·.push .none) >>=fun _=>updateSeq S (·.pop)) _ _ _
 refine wpAny_bind (wpAny_updateSeq OI rfl ?_)
 have U3:=Heap.get?_update_self (Obj.mapSeq (·.push Value.none)) OI rfl
 refine wpAny_updateSeq (hz:=by seq_fits) U3 rfl ?_
 have hS₃:=Heap.get?_update_self (Obj.mapSeq (·.pop)) U3 rfl
 refine wpAny_pure ⟨plainId_quiet F.plain_extend_loop _,key _ _ _ (it₁.at fun o e=> ?_) (M_.at' fun o e=> ?_) (fun b o hb e=> ?_) hS₃⟩
 ·exact (Heap.get?_update_other _ _ Wo).trans ((Heap.get?_update_other _ _ Wo).trans e)
 ·exact (Heap.get?_update_other _ _ M9).trans ((Heap.get?_update_other _ _ M9).trans e)
 ·exact (Heap.get?_update_other _ _ (ad7 hb)).trans ((Heap.get?_update_other _ _ (ad7 hb)).trans (Heap.get?_push_of_some _ e))
theorem mP {R:Result→Shared→Prop}{d:Addr}{kvs:List (KK×Value)}{ep:Nat}(hh:A.handled=none)(hd:(d==sysModules)=false)(hm:s.heap.DictAt knd d kvs ep)(hlen:kvs.length≤sizeLine)(S:Addr)(hS:s.heap.get? S=some {cls:=.type "list",data:=.seq #[]})
  (hR:∀h' tk gK c',(∀b o,b≠S→s.heap.get? b=some o→h'.get? b=some o)→h'.get? S=some {cls:=.type "list",dict:=none,data:=.seq gK c',slots:= #[]}→
   ItemsOf (fun i v=>∃k x,kvs[i]? =some (k,x)∧knd.is k v=true) gK kvs.length→R (.ok (.ret .none)) {s with heap:=h',toks:=tk}):
  wpAny (model prog w) A.in1 (Builtin.«list.__init__» ⟨[.ref S,.ref d],[]⟩)
   (fun fin s' =>match fin with | .done f=>R (.ok f) s' | .again c' =>c'.quiet=true∧codeAny (model prog w) A c' R s') (fun e s' =>R (.error e) s') s:=by
 obtain ⟨od,es,M8,ot,gL,hk0,hp0,hn0⟩:=id hm
 have M9:S≠d:=fun e=>by
  rw [e] at hS
  rw [hS] at M8
  cases M8
  cases gL
 show wpAny _ _ (do let old ← Builtin.List.listItems (.ref S);Builtin.List.listUpdate (.ref S) (fun _=> #[]);letGo old.toList.reverse;Builtin.List.listExtendWith (.ref S) (.ref d) .none) _ _ s
 refine wpAny_bind ?_
 unfold Builtin.List.listItems
 refine wpAny_bind (wpAny_seqItems hS rfl (wpAny_pure ?_))
 show wpAny _ _ (updateSeq S (fun _=> #[]) >>=fun _=>letGo (#[]:Array Value).toList.reverse >>=fun _=>Builtin.List.listExtendWith (.ref S) (.ref d) .none) _ _ s
 refine wpAny_bind (wpAny_updateSeq hS rfl ?_)
 have U3:=Heap.get?_update_self (Obj.mapSeq (fun _=>(#[]:Array Value))) hS rfl
 have oth:∀b o,b≠S→s.heap.get? b=some o→(s.heap.update S (Obj.mapSeq (fun _=>(#[]:Array Value)))).get? b=some o:=
  fun b o hb e=>(Heap.get?_update_other _ _ (ad7 hb)).trans e
 refine wpAny_bind (wpAny_letGo ?_)
 refine tj hh hd (hm.at' fun o e=>oth d o (ad7 M9) e) hlen S .none _ U3 fun h' tk gK c' hk Lp tm=> ?_
 exact hR h' tk gK c' (fun b o hb e=>hk b o hb (oth b o hb e)) Lp tm
theorem mQ {Q:Value→Shared→Prop}{d:Addr}{kvs:List (KK×Value)}{ep:Nat}(hh:A.handled=none)(hd:(d==sysModules)=false)(hm:s.heap.DictAt knd d kvs ep)(hlen:kvs.length≤sizeLine)
  (hQ:∀h' tk gK c',(∀b o,s.heap.get? b=some o→h'.get? b=some o)→
   h'.get? s.heap.objs.size=some {cls:=.type "list",dict:=none,data:=.seq gK c',slots:= #[]}→ItemsOf (fun i v=>∃k x,kvs[i]? =some (k,x)∧knd.is k v=true) gK kvs.length→Q (.ref s.heap.objs.size) {s with heap:=h',toks:=tk}):
  wpAny (model prog w) A (call (.type "list") [.ref d]) Q E s:=by
 refine callType_codes (Q₁:=fun obj s₁=>obj=.ref s.heap.objs.size∧s₁={s with heap:=s.heap.push {cls:=.type "list",data:=.seq #[]}}) F.called_list (F.typeCall_list_1 _) F.entry_list_init
  (code_list_new _ ⟨rfl,rfl⟩) fun obj s₁ h₁=> ?_
 obtain ⟨rfl,rfl⟩:=h₁
 have hS:(s.heap.push {cls:=.type "list",data:=.seq #[]}).get? s.heap.objs.size=some {cls:=.type "list",data:=.seq #[]}:=Heap.get?_push_size _ rfl
 refine ⟨⟨_,hS,rfl⟩,F.args_list_init_2 _ _,mP (A:=A.in1) hh hd (hm.at' fun o e=>Heap.get?_push_of_some _ e) hlen _ hS fun h' tk gK c' hk Lp tm=> ?_⟩
 exact ⟨rfl,hQ h' tk gK c' (fun b o e=>hk b o (ad5 (Heap.lt_size e)) (Heap.get?_push_of_some _ e)) Lp tm⟩
end
theorem aF {α β:Type}{F:α→β→Prop}:∀{l₁:List α} {l₂:List β} {i:Nat} {a:α},Paired F l₁ l₂→l₁[i]? =some a→∃b,l₂[i]? =some b∧F a b
 | _,_,_,_,.nil,h=>by simp at h
 | _,_,0,_,.cons r _,h=>by
  cases h
  exact ⟨_,rfl,r⟩
 | _,_,i+1,_,.cons _ t,h=>by
  obtain ⟨b,e,f⟩:=aF (i:=i) t (by simpa using h)
  exact ⟨b,by simpa using e,f⟩
theorem j4 {α β:Type}{F:α→β→Prop}:∀{l₁:List α} {l₂:List β},l₁.length=l₂.length→(∀(i:Nat) (a:α) (b:β),l₁[i]? =some a→l₂[i]? =some b→F a b)→Paired F l₁ l₂
 | [],[],_,_=>.nil
 | a::l₁,b::l₂,h,f=>.cons (f 0 a b rfl rfl) (j4 (by simpa using h) fun i a b e1 e2=>f (i+1) a b (by simpa using e1) (by simpa using e2))
 | [],_::_,h,_=>by simp at h
 | _::_,[],h,_=>by simp at h
theorem qI {P:Program}{w:World}{k:Key}{u:Value}(h:(bx P w).is k u=true):RelV (kV k) u:=by
 rcases bX h with ⟨i,t,rfl,rfl⟩ | ⟨x,t,rfl,rfl⟩
 ·exact ⟨t,rfl⟩
 ·exact ⟨t,rfl⟩
section
variable {X:Cx}
inductive BX (xs:List V)(H:Hp)(Q:VK):Prop where
 | mk (p:Addr) (kvs:List (Key×V)) (_:xs=[.ref p]) (_:Rd H p (.dK kvs)) (_:∀l,H l=none→Q (.ref l) (upd H l (.lst (kvs.map fun kv=>kV kv.1)))):BX xs H Q
theorem iC (hc:X.calm=true):gH X (.type "list") BX:=by
 intro pins s σ H xs us Q I r h
 obtain ⟨p,kvs,rfl,hq,q⟩:=h
 obtain ⟨u,rfl,r1⟩:=vals1 r
 cases r1
 obtain ⟨z,hd,vs,rel,o,es,ep,ho,hx,gL,hk,hp,hn⟩:=ik I.bJ hq
 have hl:=rel.length
 refine mQ (knd:=bx X.prog X.w) (I.ok.hd hc) hd ⟨o,es,ho,hx,gL,hk,hp,hn⟩ (by omega) fun h' tk gK c' kk hS tm=> ?_
 have VM :=I.bJ.fresh (adL s.heap.objs.size)
 have rv:Vals (kvs.map fun kv=>kV kv.1) gK.toList:=j4 (by have:=tm.1;simp;omega) fun i a b e1 e2=>by
  rw [ir] at e1
  obtain ⟨kv,ek,rfl⟩:=adM.mp e1
  obtain ⟨q',eq,e3,_⟩:=aF rel ek
  obtain ⟨k,x,e4,e5⟩:=tm.2 i b (by simpa using e2)
  rw [eq] at e4
  cases e4
  rw [e3]
  exact qI e5
 have I2:Inv X pins σ (upd H s.heap.objs.size (.lst (kvs.map fun kv=>kV kv.1))) {s with heap:=h',toks:=tk}:=I.laid (t' :=tk) kk (adL _) ⟨by rw [Wp];exact z,gK.toList,c',rv,by simpa using hS⟩
 exact ⟨.ref _,_,I2,rfl,q _ VM⟩
theorem Inv.freeze {pins:List (Addr×Obj)}{σ:L2.St}{H:Hp}{s:Shared}{d:Addr}{kvs:List (Key×V)}{o:Obj}(I:Inv X pins σ H s)(e:H d=some (.dK kvs))(ho:s.heap.get? d=some o):Inv X pins σ (upd H d (.du o (.dK kvs))) s:=by
 have nx:∀b u,H b=some u→b≠d→upd H d (.du o (.dK kvs)) b=some u:=fun b u q n=>by rw [ao n];exact q
 refine I.step (g' :=s.gens) (t' :=s.toks) (d' :=s.drawn) (ch:=[]) (fun _ z=>nomatch z) (fun b o _ _ _ e _=>e) (fun b o _ _ _ e _=>⟨o.slots,e⟩) (fun b o _ _ n=>by rw [ao (fun z=>by rw [z,e] at n;cases n)];exact n) (fun b o _ e=>⟨o,e⟩)
  (fun b xs q=>nx b _ q fun z=>by rw [z,e] at q;cases q) (fun b o' u q=>nx b _ q fun z=>by rw [z,e] at q;cases q) (fun b ps q=>⟨#[],by rw [nx b _ q fun z=>by rw [z,e] at q;cases q];simp⟩) (fun m hm=>hm) (fun b u q=> ?_) I.bare
 by_cases hb:b=d
 ·subst hb
  rw [ah] at q
  cases q
  exact ⟨ho,I.bJ b _ e⟩
 ·rw [ao hb] at q
  exact (I.bJ b u q).qb (fun _ _ _ k=>k) (fun c k=>nx c _ k fun z=>by rw [z,e] at k;cases k) fun c xs k=>nx c _ k fun z=>by rw [z,e] at k;cases k
def Na (d:Addr)(o:Obj)(kvs:List (Key×V)):It:=
 ⟨fun i H=>H d=some (.du o (.dK kvs))∧i < kvs.length,
  fun i H v H' =>∃p k x,kvs[i]? =some (k,x)∧v=.ref p∧H p=none∧H' =upd H p (.tup [kV k,x]),
  fun i H=>H d=some (.du o (.dK kvs))∧kvs.length≤i⟩
theorem qJ {P:Program}{w:World}{H:Hp}{h:Heap}{d:Addr}{o:Obj}{kvs:List (Key×V)}{Nb:Array DictEntry}{ep:Nat}(ok:ig P w H h)(e:H d=some (.du o (.dK kvs)))(he:o.data=.dict Nb ep):
  (d==sysModules)=false∧∃vs,KV kvs vs∧h.DictAt (bx P w) d vs ep∧kvs.length≤sizeLine:=by
 obtain ⟨h1,z,hd,vs,rel,o',es,rT,ho,hx,gL,hk,hp,hn⟩:=ok d _ e
 rw [h1] at ho
 cases ho
 rw [he] at gL
 cases gL
 exact ⟨hd,vs,rel,⟨o,Nb,h1,hx,he,hk,hp,hn⟩,z⟩
theorem j5:entryFor table "dict_itemiterator.__iter__"=some Builtin.«dict_keyiterator.__iter__»:=
 entryFor_alias (id' :="dict_keyiterator.__iter__") (by kernel_rfl) (by first | rfl | decide+kernel | (unfold String.splitOn;simp+decide [String.splitOnAux])) (by decide+kernel) (by kernel_rfl)
theorem vd {P:Program}{w:World}{A:Around}{E:Value→Shared→Prop}{s:Shared}{it d:Addr}{i n ep:Nat}{ok ov:Value}{Q:Value→Shared→Prop}(st:IsItemIter s.heap it d i n ep ok ov)(h:Q (.ref it) s):wpAny (model P w) A (pyIter (.ref it)) Q E s:=by
 have hT:s.TypeIs (.ref it) "dict_itemiterator":=⟨_,st,rfl⟩
 refine wpAny_pyIter_slot hT F.slot_dict_itemiterator_iter (wpAny_call_entry F.slot_dict_itemiterator_iter hT j5 ?_ (F.args_dict_itemiterator_iter_1 _))
 show wpAny _ _ (ret (.ref it)) _ _ s
 exact wpAny_pure ⟨_,rfl,"dict_itemiterator",_,hT,F.slot_dict_itemiterator_next.lookup,h⟩
theorem mR {P:Program}{w:World}{K:Frag}{es:List Expr}{k:Nat}{pos:Pos}(d it:Addr)(o:Obj)(kvs:List (Key×V)){Nb:Array DictEntry}{ep:Nat}(he:o.data=.dict Nb ep)(FH:it≠d):
  Turn P w K (.Tuple es k pos) (Na d o kvs) [it] it (fun i h=>∃ok ov,IsItemIter h it d i kvs.length ep ok ov) where
 mem:=by simp
 obj:=fun i h st b hb=>by
  have e:b=it:=by simpa using hb
  subst e
  obtain ⟨ok,ov,st⟩:=st
  exact ⟨_,st,fun v z=>by cases z⟩
 keep:=fun i h h' st k=>by
  obtain ⟨ok,ov,st⟩:=st
  exact ⟨ok,ov,k it (by simp) _ st⟩
 item:=by
  intro X hP hw hK hc i pins s σ H E I hf st hg
  subst hP hw hK
  obtain ⟨ok,ov,st⟩:=st
  obtain ⟨fz,hi⟩:=hg
  obtain ⟨hd,vs,rel,da,_⟩:=qJ I.bJ fz he
  have ek:kvs[i]? =some kvs[i]:=gE hi
  obtain ⟨⟨k',u⟩,ev,e1,ru⟩:=aF rel ek
  have lv:=rel.length
  rw [lv] at st
  refine wpAny_pyNext_items_item st da ev fun key h' AZ out tup sz kk=> ?_
  refine ⟨_,rfl,wpAny_letOwnedTupleGo_items (s:={s with heap:=h' }) out fun FG Wq sb=> ?_⟩
  have hsz:∀c o,s.heap.get? c=some o→s.heap.objs.size≠c:=fun c o e=>afr (Heap.lt_size e)
  have tz:s.heap.objs.size≠it:=hsz _ _ st
  have nz:∀c,c≠it→∀o,h'.get? c=some o→FG.get? c=some o:=fun c hc o e=>(sb.2 c hc).trans e
  have hn:=I.bJ.fresh (adL s.heap.objs.size)
  have x8 :kvs[i].1=k' :=e1
  have I2:Inv X pins σ (upd H s.heap.objs.size (.tup [kV kvs[i].1,kvs[i].2])) {s with heap:=FG,toks:=s.toks}:=
   Inv.qF I (fun b o hb e=>nz b (by simpa using hb) o (kk b o (by simpa using hb) e)) hf (adL _) (by show 2≤sizeLine;decide) (its:=[key,u]) (.cons (by rw [x8];exact qI AZ) (.cons ru .nil)) ⟨_,nz _ tz _ tup,rfl,_,rfl⟩
  refine ⟨.ref s.heap.objs.size,_,I2,rfl,⟨s.heap.objs.size,kvs[i].1,kvs[i].2,ek,rfl,hn,rfl⟩,⟨_,_,by rw [lv];exact Wq⟩,fun b hb=> ?_⟩
  have eb:b=it:=by simpa using hb
  rw [ao (by rw [eb];exact ad7 tz)]
  exact (hf b hb).1
 done:=by
  intro X hP hw hK hc i pins s σ H E I hf st hg
  subst hP hw hK
  obtain ⟨ok,ov,st⟩:=st
  obtain ⟨fz,hi⟩:=hg
  obtain ⟨hd,vs,rel,da,_⟩:=qJ I.bJ fz he
  have lv:=rel.length
  rw [lv] at st
  obtain ⟨f0,f1,f2,f3,f4,f5⟩:=hf it (by simp)
  exact wpAny_pyNext_items_end (I.ok.hd hc) st da (ab_ (by omega)) fun h' eb=>⟨rfl,I.turned (t' :=s.toks) (fun b o hb e=>eb b o hb e) f0 f1 f3 f4 f5⟩
 self:=fun _ _ _ _ _ st h=>by
  obtain ⟨ok,ov,st⟩:=st
  exact vd st h
inductive wV (R:(It→Hp→Prop))(x:V)(H1:Hp):Prop where
 | mk (d kvs:_) (_:x=.ref d) (_:H1 d=some (.dK kvs)) (_:∀o,R (Na d o kvs) (upd H1 d (.du o (.dK kvs)))):wV R x H1
def Lq (te:TE):TI:=fun σ H R=>te σ H fun x H1=>wV R x H1
theorem mS {e:Expr}{te:TE}{apos eZ:Pos}{es:List Expr}{k:Nat}{qj:Pos}(ho:PE X e te)(sH:attributeBase e "items" X.env (eval e X.env)=eval e X.env:=by rfl)(sI:(apos.endLine==eZ.line)=true:=by rfl):
  PI X (.Tuple es k qj) (.Call (.Attribute e "items" apos) [] [] eZ) (Lq te):=by
 intro pins s σ H R I h
 refine wpAny_Call_method0_late sH sI (cu (ho pins s σ H _ I h) fun v s1 ⟨x,H1,I1,r1,q1⟩=> ?_)
 obtain ⟨d,kvs,rfl,e,q⟩:=q1
 cases r1
 obtain ⟨z,hd,vs,rel,o,OJ,ep,z_,hx,gL,hk,hp,hn⟩:=pe I1.bJ e
 obtain ⟨h1,h2⟩:=BF (T:="dict") I1 (show RelV (.ref d) (.ref d) from rfl) (.inr (.inr (.inl ⟨rfl,.inl ⟨kvs,e⟩⟩)))
 have da:s1.heap.DictAt (bx X.prog X.w) d vs ep:=⟨o,OJ,z_,hx,gL,hk,hp,hn⟩
 have lv:=rel.length
 refine ⟨"dict","dict.items",F.plainAttrs_dict,F.slot_dict_items,F.type_dict_items,h1,h2,Calls.callWith_builtin rfl (PySem.evalArgs_none ?_)⟩
 refine call_meetsIn F.slot_dict_items h1 F.entry_dict_items (F.args_dict_items_1 _) (meets_dict_items (bx X.prog X.w) d hd) ⟨⟨vs,da.dictOf⟩,?_⟩
 have I2:=Inv.freeze I1 e z_
 have Wr:(s1.heap.push {cls:=.type "dict_items",data:=.fields #[.ref d]}).DictAt (bx X.prog X.w) d vs ep:=da.at' fun o e=>Heap.get?_push_of_some _ e
 show wpAny (model X.prog X.w) X.A (pyIter (.ref s1.heap.objs.size)) _ _ _
 refine wpAny_pyIter_items (s:={s1 with heap:=s1.heap.push {cls:=.type "dict_items",data:=.fields #[.ref d]}}) ⟨_,Heap.get?_push_size _ rfl,rfl,rfl⟩ Wr ?_
 have sz:(s1.heap.push {cls:=.type "dict_items",data:=.fields #[.ref d]}).objs.size=s1.heap.objs.size+1:=Heap.size_push ..
 have ne:(s1.heap.push {cls:=.type "dict_items",data:=.fields #[.ref d]}).objs.size≠d:=by
  rw [sz]
  exact ad7 (ad5 (aeG (Heap.lt_size z_)))
 have I3:Inv X pins σ (upd H1 d (.du o (.dK kvs))) {s1 with heap:=(s1.heap.push {cls:=.type "dict_items",data:=.fields #[.ref d]}).push {cls:=.type "dict_itemiterator",data:=.fields #[.none,.bool false,.ref d,.int 0 0,.int vs.length 0,.int ep 0,.none,.none]}}:=I2.kept (t' :=s1.toks) fun b o e=>Heap.get?_push_of_some _ (Heap.get?_push_of_some _ e)
 refine ⟨_,[_],_,_,_,rfl,I3,mR d _ o kvs gL ne,⟨_,_,by rw [lv];exact Heap.get?_push_size _ rfl⟩,fun b hb=> ?_,q o⟩
 have eb:b=(s1.heap.push {cls:=.type "dict_items",data:=.fields #[.ref d]}).objs.size:=by simpa using hb
 have le:s1.heap.objs.size≤b:=by rw [eb,sz];exact amS _
 exact I2.oy le (I2.bJ.fresh le)
end
end Ty
set_option maxHeartbeats 4000000
namespace Ty
def ev:List Int→(Nat→Rat)→Rat
 | [],_=>0
 | a::r,z=>(a:Rat)*z 0+ev r (fun i=>z (i+1))
theorem ve:∀(l:List Int) (z y:Nat→Rat),ev l (fun i=>z i+y i)=ev l z+ev l y
 | [],_,_=>by simp [ev];grind
 | a::r,z,y=>by
  simp only [ev]
  rw [ve r (fun i=>z (i+1)) (fun i=>y (i+1))]
  grind
theorem lX:∀(l:List Int) (z:Nat→Rat),(∀j,((l.getD j 0:Int):Rat)*z j=0)→ev l z=0
 | [],_,_=>rfl
 | a::r,z,h=>by
  have h0:=h 0
  have ih:=lX r (fun i=>z (i+1)) (fun j=>by simpa using h (j+1))
  simp only [ev]
  rw [ih]
  simp at h0
  grind
theorem j6:∀(l:List Int) (z:Nat→Rat) (p:Nat),(∀j,j≠p→((l.getD j 0:Int):Rat)*z j=0)→ev l z=((l.getD p 0:Int):Rat)*z p
 | [],_,_,_=>by simp [ev]
 | a::r,z,0,h=>by
  have ih:=lX r (fun i=>z (i+1)) (fun j=>by simpa using h (j+1) (by omega))
  simp only [ev]
  rw [ih]
  simp
  grind
 | a::r,z,p+1,h=>by
  have h0:=h 0 (by omega)
  have ih:=j6 r (fun i=>z (i+1)) p (fun j hj=>by simpa using h (j+1) (by omega))
  simp only [ev]
  rw [ih]
  simp at h0
  simp
  grind
theorem BY {s t u:Int}:∀{new line lead:List Int},new.length=line.length→lead.length=line.length→(∀j,s*new.getD j 0=t*line.getD j 0 - u*lead.getD j 0)→∀z:Nat→Rat,(s:Rat)*ev new z=t*ev line z - u*ev lead z
 | [],[],[],_,_,_,z=>by simp [ev];grind
 | a::new,b::line,c::lead,h1,h2,h,z=>by
  have h0:=h 0
  have ih:=BY (by simpa using h1) (by simpa using h2) (fun j=>by simpa using h (j+1)) (fun i=>z (i+1))
  simp at h0
  have h0' :(s:Rat)*a=t*b - u*c:=by exact_mod_cast h0
  simp only [ev]
  grind
 | [],_::_,_,h,_,_,_=>by simp at h
 | _::_,[],_,h,_,_,_=>by simp at h
 | _,[],_::_,_,h,_,_=>by simp at h
 | _,_::_,[],_,h,_,_=>by simp at h
def dj:List Rat→List (List Int)→Nat→Rat
 | c::y,o::os,j=>c*((o.getD j 0:Int):Rat)+dj y os j
 | _,_,_=>0
theorem tq {s t u:Rat}(hs:s≠0)(j:Nat):∀(os:List (List Int)) (y1 y2:List Rat),y1.length=os.length→y2.length=os.length→s*dj (aeo (fun a b=>(t*a - u*b) / s) y1 y2) os j=t*dj y1 os j - u*dj y2 os j
 | [],[],[],_,_=>by simp [dj];grind
 | o::os,a::y1,b::y2,h1,h2=>by
  have ih:=tq (t:=t) (u:=u) hs j os y1 y2 (by simpa using h1) (by simpa using h2)
  simp only [amF,dj]
  grind
 | [],_::_,_,h,_=>by simp at h
 | [],[],_::_,_,h=>by simp at h
 | _::_,[],_,h,_=>by simp at h
 | _::_,_::_,[],_,h=>by simp at h
theorem ph (j:Nat):∀(os:List (List Int)),dj (adP os.length 0) os j=0
 | []=>rfl
 | o::os=>by
  simp only [ad4,aeH,dj]
  rw [ph j os]
  grind
def j7 (os:List (List Int))(l:List Int):Prop:=∃y:List Rat,y.length=os.length∧∀j,((l.getD j 0:Int):Rat)=dj y os j
theorem tu:∀{os:List (List Int)} {l:List Int},l∈os→j7 os l
 | o::os,l,h=>by
  rcases adY.mp h with z | z
  ·subst z
   refine ⟨1::adP os.length 0,by simp,fun j=> ?_⟩
   simp only [dj]
   rw [ph]
   grind
  ·obtain ⟨y,hl,hy⟩:=tu z
   refine ⟨0::y,by simp [hl],fun j=> ?_⟩
   simp only [dj]
   rw [← hy j]
   grind
theorem BZ {os:List (List Int)}{new line lead:List Int}{s t u:Int}(hs:s≠0)(h:∀j,s*new.getD j 0=t*line.getD j 0 - u*lead.getD j 0)(h1:j7 os line)(h2:j7 os lead):j7 os new:=by
 obtain ⟨y1,l1,e1⟩:=h1
 obtain ⟨y2,l2,e2⟩:=h2
 have J0 :=cw hs
 refine ⟨aeo (fun a b=>((t:Rat)*a - u*b) / s) y1 y2,by simp [l1,l2],fun j=> ?_⟩
 have k:=tq (t:=(t:Rat)) (u:=(u:Rat)) J0 j os y1 y2 l1 l2
 rw [← e1 j, ← e2 j] at k
 have h' :(s:Rat)*(new.getD j 0:Int)=t*(line.getD j 0:Int) - u*(lead.getD j 0:Int):=by exact_mod_cast h j
 rw [← h'] at k
 grind
def kz (y:List Rat):Nat→Rat:=fun i=>if i < y.length then y.getD i 0 else -1
theorem vf (j:Nat)(c:Int):∀(os:List (List Int)) (y:List Rat),y.length=os.length→ev (os.map (fun o=>o.getD j 0)++[c]) (kz y)=dj y os j - c
 | [],[],_=>by simp [ev,kz,dj];grind
 | o::os,a::y,h=>by
  have ih:=vf j c os y (by simpa using h)
  have ez:(fun i=>kz (a::y) (i+1))=kz y:=by
   funext i
   simp [kz]
  simp only [ac_,ae5,ev,dj]
  rw [ez,ih]
  simp [kz]
  grind
 | [],_::_,h=>by simp at h
 | _::_,[],h=>by simp at h
theorem mT (k:Rat)(j:Nat):∀(os:List (List Int)) (y:List Rat),dj (y.map (fun a=>a*k)) os j=dj y os j*k
 | [],_=>by cases ‹List Rat› <;> simp [dj] <;> grind
 | _::_,[]=>by simp [dj]
 | o::os,a::y=>by
  simp only [ac_,dj]
  rw [mT k j os y]
  grind
structure oj (line lead new:List Int)(c:Nat):Prop where
 len:new.length=line.length
 B_:new.getD c 0=0
 om:∃s t u:Int,s≠0∧t≠0∧∀j,s*new.getD j 0=t*line.getD j 0 - u*lead.getD j 0
theorem oj.zero {line lead new:List Int}{c:Nat}(h:oj line lead new c){j:Nat}(h1:line.getD j 0=0)(h2:lead.getD j 0=0):new.getD j 0=0:=by
 obtain ⟨s,t,u,hs,_,e⟩:=h.om
 have:=e j
 rw [h1,h2,afe,afe,Int.sub_self] at this
 rcases amK.mp this with z | z
 ·exact absurd z hs
 ·exact z
theorem oj.at {line lead new:List Int}{c:Nat}(h:oj line lead new c){j:Nat}(h2:lead.getD j 0=0)(h1:line.getD j 0≠0):new.getD j 0≠0:=by
 obtain ⟨s,t,u,hs,ht,e⟩:=h.om
 have:=e j
 rw [h2] at this
 intro z
 rw [z,afe,afe,Int.sub_zero] at this
 rcases amK.mp this.symm with y | y
 ·exact ht y
 ·exact h1 y
theorem oj.comb {os:List (List Int)}{line lead new:List Int}{c:Nat}(h:oj line lead new c)(h1:j7 os line)(h2:j7 os lead):j7 os new:=by
 obtain ⟨s,t,u,hs,ht,e⟩:=h.om
 exact BZ hs e h1 h2
theorem oj.ev {line lead new:List Int}{c:Nat}(h:oj line lead new c)(hl:lead.length=line.length){z:Nat→Rat}(h2:Ty.ev lead z=0):Ty.ev new z=0 ↔ Ty.ev line z=0:=by
 obtain ⟨s,t,u,hs,ht,e⟩:=h.om
 have k:=BY h.len hl e z
 rw [h2] at k
 have J0 :=cw hs
 have ht' :=cw ht
 constructor
 ·intro w
  rw [w] at k
  grind
 ·intro w
  rw [w] at k
  grind
end Ty
set_option maxHeartbeats 4000000
namespace Ty
open PySem PySem.Spec PyProof.Rows L2
def OK (K:Frag)(a:Addr):It:=
 ⟨fun i H=>∃xs x,aV K H a xs∧xs[i]? =some x,
  fun i H v H' =>∃p x,(∀xs,aV K H a xs→xs[i]? =some x)∧v=.ref p∧H p=none∧H' =upd H p (.tup [.int (i:Int),x]),
  fun i H=>∃xs,aV K H a xs∧xs.length≤i⟩
theorem yi {P:Program}{w:World}{K:Frag}{es:List Expr}{k:Nat}{pos:Pos}(a e it:Addr)(FH:e≠it):
  Turn P w K (.Tuple es k pos) (OK K a) [e,it] e (fun i h=>(∃old,IsEnum h e it ((i:Nat):Int) old)∧h.IsListIter it a i) where
 mem:=by simp
 obj:=fun i h st c hc=>by
  obtain ⟨⟨old,he⟩,⟨o1,e1,c1,d1⟩⟩:=st
  have rV :c=e∨c=it:=by simpa using hc
  rcases rV with z | z <;> subst z
  ·exact ⟨_,he,fun v z=>by cases z⟩
  ·exact ⟨_,e1,fun v z=>by rw [d1] at z;cases z⟩
 keep:=fun i h h' st k=>by
  obtain ⟨⟨old,he⟩,h1⟩:=st
  exact ⟨⟨old,k e (by simp) _ he⟩,h1.at fun o e=>k it (by simp) o e⟩
 item:=by
  intro X hP hw hK hc i pins s σ H E I hf st hg
  subst hP hw hK
  obtain ⟨⟨old,he⟩,h1⟩:=st
  obtain ⟨xs,x,qx,ex⟩:=hg
  obtain ⟨its,rv,p,_⟩:=I.list qx
  obtain ⟨u,hu,ru⟩:=rv.get ex
  refine wpAny_pyNext_enum_item he h1 p.isList (x:=u) (by simpa using hu) FH fun h' a1 a2 a3 a4 a5=> ?_
  refine ⟨_,rfl,wpAny_letOwnedTupleGo_enum (s:={s with heap:=h',toks:=s.toks+1}) a1 fun FG b1 sb=> ?_⟩
  have nz:∀c,c≠e→∀o,h'.get? c=some o→FG.get? c=some o:=fun c hc o q=>(sb.2 c hc).trans q
  have kk:∀b o,b∉[e,it]→s.heap.get? b=some o→FG.get? b=some o:=fun b o hb q=>by
   have fL :b≠e∧b≠it:=by simpa using hb
   exact nz b fL.1 o (a5 b o fL.1 fL.2 q)
  have sz:∀c o,s.heap.get? c=some o→s.heap.objs.size≠c:=fun c o q=>afr (Heap.lt_size q)
  have tz:s.heap.objs.size≠e:=sz _ _ he
  have hn:=I.bJ.fresh (adL s.heap.objs.size)
  have I2:Inv X pins σ (upd H s.heap.objs.size (.tup [.int (i:Int),x])) {s with heap:=FG,toks:=s.toks+1}:=
   Inv.qF I kk hf (adL _) (by show 2≤sizeLine;decide) (its:=[.int i s.toks,u]) (.cons ⟨_,rfl⟩ (.cons ru .nil)) ⟨_,nz _ tz _ a3,rfl,_,rfl⟩
  refine ⟨.ref s.heap.objs.size,_,I2,rfl,⟨s.heap.objs.size,x,fun xs' q=>by rw [I.gD q qx];exact ex,rfl,hn,rfl⟩,⟨⟨_,by exact b1⟩,a2.at fun o q=>nz _ (ad7 FH) o q⟩,fun b hb=> ?_⟩
  have ob:∃o,s.heap.get? b=some o:=by
   obtain ⟨o1,e1,_⟩:=h1
   have rV :b=e∨b=it:=by simpa using hb
   rcases rV with z | z <;> subst z
   ·exact ⟨_,he⟩
   ·exact ⟨_,e1⟩
  obtain ⟨o,q⟩:=ob
  rw [ao (ad7 (sz _ _ q))]
  exact (hf b hb).1
 done:=by
  intro X hP hw hK hc i pins s σ H E I hf st hg
  subst hP hw hK
  obtain ⟨⟨old,he⟩,h1⟩:=st
  obtain ⟨xs,qx,ee⟩:=hg
  obtain ⟨its,rv,p,_⟩:=I.list qx
  have l1:=rv.length
  refine wpAny_pyNext_enum_end (I.ok.hd hc) he h1 p.isList (by simp;omega) fun h' kk=>⟨rfl,Inv.lS I (fun b o hb q=> ?_) hf⟩
  have fL :b≠e∧b≠it:=by simpa using hb
  exact kk b o fL.2 q
 self:=fun _ _ _ _ _ st h=>by
  obtain ⟨⟨old,he⟩,_⟩:=st
  exact wpAny_pyIter_enum he h
theorem boot_enumerate:bootBuiltins "enumerate"=some (.type "enumerate"):=by decide+kernel
section
variable {X:Cx}
inductive CA (K:Frag)(R:(It→Hp→Prop))(vs:List V)(H1:Hp):Prop where
 | mk (a:_) (_:vs=[.ref a]) (_:(∃xs,aV K H1 a xs)) (_:R (OK K a) H1):CA K R vs H1
def OL (K:Frag)(ta:TA):TI:=fun σ H R=>ta σ H fun vs H1=>CA K R vs H1
theorem wW {e1:Expr}{ta:TA}{p pos:Pos}{es:List Expr}{k:Nat}{qj:Pos}(hg:Gl X "enumerate")(hm:X.mg "enumerate"=none)(ha:PA X [e1] ta)(hs:starEach [e1] X.env=[(false,eval e1 X.env)]:=by rfl):
  PI X (.Tuple es k qj) (.Call (.Name "enumerate" p) [e1] [] pos) (OL X.K ta):=by
 intro pins s σ H R I h
 refine Call_ (gC I hg hm boot_enumerate (PyProof.Rows.callWith_type1 (cu (ha pos pins s σ H _ I h) fun us s1 ⟨vs,H1,I1,r1,q1⟩=> ?_) hs rfl))
 obtain ⟨a,e,⟨xs,hx⟩,q⟩:=q1
 subst e
 cases r1 with
 | cons r rr=>
  cases rr
  cases r
  obtain ⟨its,rv,pl,_⟩:=I1.list hx
  refine call_enumerate_list pl.isList fun h' hE hI hsz hk=>wpAny_pyIter_enum (s:={s1 with heap:=h' }) hE ?_
  refine ⟨s1.heap.objs.size+1,[s1.heap.objs.size+1,s1.heap.objs.size],_,_,H1,rfl,I1.kept (t' :=s1.toks) hk,yi a _ _ (Nat.succ_ne_self _),⟨⟨_,hE⟩,hI⟩,fun c hc=> ?_,q⟩
  have rV :s1.heap.objs.size≤c:=by
   have:c=s1.heap.objs.size+1∨c=s1.heap.objs.size:=by simpa using hc
   simp only [Addr] at*
   omega
  exact I1.oy rV (I1.bJ.fresh rV)
theorem any_range (bs:List Bool):(aen bs.length).any (fun i=>(bs[i]?).getD true)=bs.any id:=by
 rw [aeX,ae6,ae6]
 constructor
 ·rintro ⟨i,hi,h⟩
  have OM :i < bs.length:=aed.mp hi
  rw [gE OM] at h
  exact ⟨bs[i],aeq OM,h⟩
 ·rintro ⟨b,hb,h⟩
  obtain ⟨i,hi⟩:=adD hb
  exact ⟨i,aed.mpr (be.mp hi).1,by rw [hi];exact h⟩
inductive ON (K:Frag)(xs:List V)(H:Hp)(Q:VK):Prop where
 | mk (p:Addr) (bs:List Bool) (_:xs=[.ref p]) (_:aV K H p (bs.map V.bl)) (_:Q (.bl (bs.any id)) H):ON K xs H Q
theorem yj (hc:X.calm=true):gH X (.builtin "any") (ON X.K):=by
 intro pins s σ H xs us Q I r h
 obtain ⟨p,bs,rfl,hq,q⟩:=h
 obtain ⟨u,rfl,r1⟩:=vals1 r
 cases r1
 obtain ⟨its,rv,pl,hz⟩:=I.list hq
 refine call_any_walk (wpAny_pyIter_list pl.isList ?_)
 have FH:p≠s.heap.objs.size:=by obtain ⟨o,ho,_⟩:=pl.isList;exact ad5 (Heap.lt_size ho)
 have I1:Inv X pins σ H {s with heap:=s.heap.push {cls:=.type "list_iterator",data:=.fields #[.ref p,.int 0 0]}}:=I.kept (t' :=s.toks) fun b o e=>Heap.get?_push_of_some _ e
 obtain ⟨f0,f1,f2,f3,f4,f5⟩:=I.oy (H' :=H) (adL s.heap.objs.size) (I.bJ.fresh (adL _))
 have hl:its.length=bs.length:=by rw [← rv.length,Wp]
 refine ⟨s.heap.objs.size,_,_,_,_,_,fun i=>(bs[i]?).getD true,rfl,Walks.list (A:=X.A.in1) (I.ok.hd hc) s.heap.objs.size p FH its.toArray,⟨⟨_,Heap.get?_push_size _ rfl,rfl,rfl⟩,pl.isList.at fun o e=>Heap.get?_push_of_some _ e⟩,?_,fun h' tk kk=> ?_⟩
 ·intro i v s' Q' E' hv i6
  have UX :its[i]? =some v:=by simpa using hv
  have hi:i < bs.length:=by rw [← hl];exact (be.mp UX).1
  have eb:(bs.map V.bl)[i]? =some (.bl bs[i]):=by rw [ir,gE hi];rfl
  obtain ⟨u,eu,ru⟩:=rv.get eb
  rw [UX] at eu
  cases eu
  cases ru
  dsimp only at i6
  rw [gE hi] at i6
  exact wpAny_truthy_bool i6
 ·refine ⟨.bl (bs.any id),H,I1.turned (t' :=tk) (it:=s.heap.objs.size) (fun b o hb e=>kk b o (by simpa using hb) e) f0 f1 f3 f4 f5,?_,q⟩
  show _=_
  rw [← any_range bs,adW,hl]
theorem OO:bootBuiltins "any"=some (.builtin "any"):=by decide+kernel
end
theorem tw {K:Frag}{a:Addr}{xs:List V}{g:TG}{tb:TS}{D:Ends}{σ:L2.St}{H:Hp}(Pv:Nat→L2.St→Hp→Prop)(h0:Pv 0 σ H)(hl:∀i σ H,i≤xs.length→Pv i σ H→aV K H a xs)
  (hs:∀i x σ H p,xs[i]? =some x→Pv i σ H→H p=none→g (.ref p) σ (upd H p (.tup [.int (i:Int),x])) fun σ2 H2=>tb {D with nx:=Pv (i+1),ct:=Pv (i+1),bk:=D.nx} σ2 H2) (hd:∀σ H,Pv xs.length σ H→D.nx σ H):
  ∃W:Nat→Nat→L2.St→Hp→Prop,(∃m,W 0 m σ H)∧∀i m σ H,W i m σ H→
   ((OK K a).stop i H∧D.nx σ H)∨((OK K a).go i H∧∃N:L2.St→Hp→Prop,(∀σ' H',N σ' H' →∃m',m' < m∧W (i+1) m' σ' H')∧∀x H',(OK K a).AN i H x H' →g x σ H' fun σ2 H2=>tb {D with nx:=N,ct:=N,bk:=D.nx} σ2 H2):=by
 refine ⟨fun i m σ H=>m=xs.length - i∧i≤xs.length∧Pv i σ H,⟨xs.length,by simp,aeg _,h0⟩,?_⟩
 rintro i m σ H ⟨rfl,hi,p⟩
 have q:=hl i σ H hi p
 by_cases oa:i < xs.length
 ·have e:xs[i]? =some xs[i]:=gE oa
  refine .inr ⟨⟨xs,_,q,e⟩,Pv (i+1),fun σ' H' z=>⟨xs.length - (i+1),by omega,rfl,by omega,z⟩,fun x H' y=> ?_⟩
  obtain ⟨pp,x',y1,rfl,np,rfl⟩:=y
  exact hs i x' σ H pp (y1 xs q) p np
 ·have e:i=xs.length:=by omega
  subst e
  exact .inl ⟨⟨xs,q,adL _⟩,hd σ H p⟩
theorem g6 {d:Addr}{o:Obj}{kvs:List (Key×V)}{g:TG}{tb:TS}{D:Ends}{σ:L2.St}{H:Hp}(Pv:Nat→L2.St→Hp→Prop)(h0:Pv 0 σ H)(hl:∀i σ H,i≤kvs.length→Pv i σ H→H d=some (.du o (.dK kvs)))
  (hs:∀i k x σ H p,kvs[i]? =some (k,x)→Pv i σ H→H p=none→g (.ref p) σ (upd H p (.tup [kV k,x])) fun σ2 H2=>tb {D with nx:=Pv (i+1),ct:=Pv (i+1),bk:=D.nx} σ2 H2) (hd:∀σ H,Pv kvs.length σ H→D.nx σ H):
  ∃W:Nat→Nat→L2.St→Hp→Prop,(∃m,W 0 m σ H)∧∀i m σ H,W i m σ H→
   ((Na d o kvs).stop i H∧D.nx σ H)∨((Na d o kvs).go i H∧∃N:L2.St→Hp→Prop,(∀σ' H',N σ' H' →∃m',m' < m∧W (i+1) m' σ' H')∧∀x H',(Na d o kvs).AN i H x H' →g x σ H' fun σ2 H2=>tb {D with nx:=N,ct:=N,bk:=D.nx} σ2 H2):=by
 refine ⟨fun i m σ H=>m=kvs.length - i∧i≤kvs.length∧Pv i σ H,⟨kvs.length,by simp,aeg _,h0⟩,?_⟩
 rintro i m σ H ⟨rfl,hi,p⟩
 have q:=hl i σ H hi p
 by_cases oa:i < kvs.length
 ·refine .inr ⟨⟨q,oa⟩,Pv (i+1),fun σ' H' z=>⟨kvs.length - (i+1),by omega,rfl,by omega,z⟩,fun x H' y=> ?_⟩
  obtain ⟨pp,k,x',y1,rfl,np,rfl⟩:=y
  exact hs i k x' σ H pp y1 p np
 ·have e:i=kvs.length:=by omega
  subst e
  exact .inl ⟨⟨q,adL _⟩,hd σ H p⟩
end Ty
set_option maxHeartbeats 4000000
namespace Ty
open PySem PySem.Spec PyProof.Rows L2
open Builtin.Int (intBits)
section
variable {X:Cx}
def CB (i j:Int):Prop:=intBits i+intBits j≤134217728
theorem fj:jP X (binaryOp .Mult) (rI CB fun i j=>.int (i*j)):=
 UW fun _ _ _ _ _ _ _ hc q=>mul_int q (IntMulOk.of_le (adL _) (adL _) hc)
theorem dJ {a b:Int}{m n:Nat}(h1:a.natAbs≤2^m)(h2:b.natAbs≤2^n)(h:m+n≤134000000):CB a b:=by
 have x1:=gZ h1 (aef m)
 have x2:=gZ h2 (aef n)
 unfold CB
 omega
end
theorem av.cY {K:Frag}{H H' :Hp}{a:Addr}{xs:List V}(e:av H H')(h:cf K H a xs):cf K H' a xs:=by
 rcases h with (h | ⟨o,h⟩) | h
 ·exact .inl (.inl (e _ _ h))
 ·exact .inl (.inr ⟨o,e _ _ h⟩)
 ·exact .inr h
section
variable {D:Addr}{te:TE}{cap:L2.St}{H1:Hp}{Q:VK}
theorem yk {K:Frag}{a b:Addr}{xs ys:List V}(Rel:Nat→V→Hp→Prop)(nD:H1 D=none)(hn:xs.length < sizeLine)(hl:ys.length=xs.length)(hX:∀H,av H1 H→aV K H a xs)(hY:∀H,av H1 H→aV K H b ys)
  (hR:∀i v H H' ys,H D=some (.lst ys)→bg D H H' →Rel i v H→Rel i v H')
  (he:∀i x y H (R:VK),xs[i]? =some x→ys[i]? =some y→av H1 H→(∃ys,H D=some (.lst ys))→(∀v H6,av H H6→Rel i v H6→R v H6)→te (some x::some y::cap) H R)
  (hd:∀zs H,zs.length=xs.length→(∀i v,zs[i]? =some v→Rel i v H)→av H1 H→H D=some (.lst zs)→Q (.ref D) H):
  oC D (AL K 2 (r_ (d_ 0) (r_ (d_ 1) KZ))) kZ te (U1 K a b) (none::none::cap) H1 Q:=by
 refine ⟨fun i m σ zs H=>m=xs.length - i∧i≤xs.length∧(∃o o',σ=o::o' ::cap)∧(zs.length=i∧(∀i v,zs[i]? =some v→Rel i v H)∧av H1 H)∧H D=some (.lst zs),⟨xs.length,by simp,aeg _,⟨none,none,rfl⟩,⟨rfl,fun i v e=>by simp at e,fun b o e=>by rw [ao (aq e nD)];exact e⟩,ah⟩,?_⟩
 rintro i m σ zs H ⟨rfl,hi,⟨o,o',rfl⟩,⟨l,r,s⟩,hD⟩
 by_cases oa:i < xs.length
 ·have e1:xs[i]? =some xs[i]:=gE oa
  have e2:ys[i]? =some (ys[i]'(by omega)):=gE (by omega)
  refine .inr ⟨⟨xs,ys,_,_,hX H s,hY H s,e1,e2⟩,fun v H' y=> ?_⟩
  obtain ⟨p,x,y,q1,q2,rfl,np,rfl⟩:=y
  have e1:=q1 xs (hX H s)
  have e2:=q2 ys (hY H s)
  have sp:av H (upd H p (.tup [x,y])):=fun b o e=>by rw [ao (aq e np)];exact e
  refine ⟨p,_,rfl,cf.of ah,rfl,_,_,rfl,_,_,rfl,rfl,?_⟩
  unfold kZ
  dsimp only
  rw [if_pos rfl]
  refine he i x y _ _ e1 e2 (fun b o e=>sp _ _ (s _ _ e)) ⟨zs,sp _ _ hD⟩ fun v H6 s6 rv=>⟨s6 _ _ (sp _ _ hD),by omega,xs.length - (i+1),by omega,rfl,by omega,⟨_,_,rfl⟩,⟨by simp [l],fun j u e=> ?_,fun b o e=> ?_⟩,ah⟩
  ·by_cases c:j < zs.length
   ·rw [adI c] at e
    have ru:=hR j u H H6 zs hD (bg.of fun b o q=>s6 _ _ (sp _ _ q)) (r j u e)
    exact hR j u H6 _ zs (s6 _ _ (sp _ _ hD)) bg.upd ru
   ·rw [adN (by omega)] at e
    have ej:j=i:=by
     by_cases z:j - zs.length=0
     ·omega
     ·rw [ab_ (by simp;omega)] at e
      cases e
    subst ej
    have:v=u:=by
     rw [show j - zs.length=0 by omega] at e
     exact adX e
    subst this
    exact hR j v H6 _ zs (s6 _ _ (sp _ _ hD)) bg.upd rv
  ·rw [ao (aq e nD)]
   exact s6 _ _ (sp _ _ (s _ _ e))
 ·have e:i=xs.length:=by omega
  subst e
  exact .inl ⟨⟨xs,ys,hX H s,hY H s,.inl (adL _)⟩,hd zs H l r s hD⟩
end
def kA (K:Frag)(H:Hp)(v:V)(q:Int×Int):Prop:=∃p,v=.ref p∧cf K H p [.int q.1,.int q.2]
theorem kA.same {K:Frag}{H H' :Hp}{v:V}{q:Int×Int}(h:kA K H v q)(s:av H H'):kA K H' v q:=by
 obtain ⟨p,e,k⟩:=h
 exact ⟨p,e,Ty.av.cY s k⟩
def cg (K:Frag)(H:Hp)(us:List V)(qs:List (Int×Int)):Prop:=us.length=qs.length∧∀(i:Nat) (u:V) (q:Int×Int),us[i]? =some u→qs[i]? =some q→kA K H u q
theorem cg.same {K:Frag}{H H' :Hp}{us:List V}{qs:List (Int×Int)}(h:cg K H us qs)(s:av H H'):cg K H' us qs:=⟨h.1,fun i u q e1 e2=>(h.2 i u q e1 e2).same s⟩
theorem cg.at {K:Frag}{H:Hp}{us:List V}{qs:List (Int×Int)}(h:cg K H us qs){i:Nat}{u:V}(e:us[i]? =some u):∃q,qs[i]? =some q∧kA K H u q:=by
 have hi:i < us.length:=(be.mp e).1
 have hl:=h.1
 have e2:qs[i]? =some (qs[i]'(by omega)):=gE (by omega)
 exact ⟨_,e2,h.2 i u _ e e2⟩
theorem cg.set {K:Frag}{H:Hp}{us:List V}{qs:List (Int×Int)}{j:Nat}{v:V}{q:Int×Int}(h:cg K H us qs)(n:kA K H v q):cg K H (us.set j v) (qs.set j q):=by
 refine ⟨by simp [h.1],fun i u q' e1 e2=> ?_⟩
 rw [ad'] at e1 e2
 by_cases c:j=i
 ·subst c
  rw [if_pos rfl] at e1 e2
  have l:=h.1
  by_cases hj:j < us.length
  ·rw [if_pos hj] at e1
   rw [if_pos (by omega)] at e2
   cases e1
   cases e2
   exact n
  ·rw [if_neg hj] at e1
   cases e1
 ·rw [if_neg c] at e1 e2
  exact h.2 i u q' e1 e2
def Ws (K:Frag)(H:Hp)(a:Addr)(qs:List (Int×Int)):Prop:=∃us,aV K H a us∧cg K H us qs
def sumTo:Nat→(Nat→Rat)→Rat
 | 0,_=>0
 | n+1,f=>f 0+sumTo n (fun i=>f (i+1))
theorem pj:∀(n:Nat) (f g:Nat→Rat),sumTo n (fun i=>f i+g i)=sumTo n f+sumTo n g
 | 0,_,_=>by simp [sumTo];grind
 | n+1,f,g=>by
  simp only [sumTo]
  rw [pj n (fun i=>f (i+1)) (fun i=>g (i+1))]
  grind
theorem j8 (c:Rat):∀(n:Nat) (f:Nat→Rat),sumTo n (fun i=>c*f i)=c*sumTo n f
 | 0,_=>by simp [sumTo]
 | n+1,f=>by
  simp only [sumTo]
  rw [j8 c n (fun i=>f (i+1))]
  grind
theorem f':∀(n:Nat) (f:Nat→Rat),(∀i,f i=0)→sumTo n f=0
 | 0,_,_=>rfl
 | n+1,f,h=>by
  simp only [sumTo]
  rw [h 0,f' n (fun i=>f (i+1)) (fun i=>h (i+1))]
  grind
theorem gM:∀(n:Nat) (l:List Int) (z:Nat→Rat),l.length≤n→ev l z=sumTo n (fun j=>((l.getD j 0:Int):Rat)*z j)
 | n,[],z,_=>by
  rw [f' n _ (fun i=>by simp)]
  rfl
 | 0,_::_,_,h=>by simp at h
 | n+1,a::r,z,h=>by
  simp only [ev,sumTo]
  rw [gM n r (fun i=>z (i+1)) (by simpa using h)]
  simp
theorem wX (n:Nat)(z:Nat→Rat):∀(y:List Rat) (os:List (List Int)),(∀o∈os,o.length≤n)→(∀o∈os,ev o z=0)→sumTo n (fun j=>dj y os j*z j)=0
 | c::y,o::os,h1,h2=>by
  have ih:=wX n z y os (fun x hx=>h1 x (adE _ hx)) (fun x hx=>h2 x (adE _ hx))
  have e:=h2 o adG
  rw [gM n o z (h1 o adG)] at e
  have k:(fun j=>dj (c::y) (o::os) j*z j)=fun j=>c*(((o.getD j 0:Int):Rat)*z j)+dj y os j*z j:=by
   funext j
   simp only [dj]
   grind
  rw [k,pj,j8,e,ih]
  grind
 | [],os,_,_=>f' n _ (fun j=>by cases os <;> simp [dj])
 | _::_,[],_,_=>f' n _ (fun j=>by simp [dj])
theorem HQ {os:List (List Int)}{l:List Int}{n:Nat}{z:Nat→Rat}(h:j7 os l)(hl:l.length≤n)(ho:∀o∈os,o.length≤n)(hz:∀o∈os,ev o z=0):ev l z=0:=by
 obtain ⟨y,_,e⟩:=h
 rw [gM n l z hl, ← wX n z y os ho hz]
 congr 1
 funext j
 rw [e j]
theorem tD:∀{ts:List Int} {qs xs:List (Int×Int)} {d:Int×Int} {b:Int},gu ts (qs++[d]) b→xs.length=qs.length→ev ts (kz (xs.map vl))=(f_ qs xs - vl d)*b
 | [],qs,xs,d,b,h,_=>by have:=h.1;simp at this
 | t::ts,[],[],d,b,h,_=>by
  have e:=h.2 0 t d rfl rfl
  have l:=h.1
  have:ts=[]:=by simpa using l
  subst this
  simp [ev,kz,f_]
  rw [e]
  grind
 | t::ts,q::qs,x::xs,d,b,h,hl=>by
  have e:=h.2 0 t q rfl rfl
  have ih:=tD (ts:=ts) (qs:=qs) (xs:=xs) (d:=d) (b:=b) h.tail (by simpa using hl)
  have ez:(fun i=>kz ((x::xs).map vl) (i+1))=kz (xs.map vl):=by
   funext i
   simp [kz]
  simp only [ev]
  rw [ez,ih,e]
  have e0:kz ((x::xs).map vl) 0=vl x:=by simp [kz]
  have ed:f_ (q::qs) (x::xs)=vl q*vl x+f_ qs xs:=by simp [f_]
  rw [e0,ed]
  grind
 | _::_,[],_::_,_,_,_,hl=>by simp at hl
 | _::_,_::_,[],_,_,_,hl=>by simp at hl
end Ty
set_option maxHeartbeats 4000000
namespace Ty
open PySem PySem.Spec PyProof.Rows L2
theorem Lr {H:Hp}{d:Addr}{o:HO}(e:H d=some o):upd H d o=H:=by
 funext b
 by_cases z:b=d
 ·subst z
  rw [ah,e]
 ·rw [ao z]
section
variable {X:Cx}
def HR (te:TE):TI:=fun σ H R=>te σ H fun x H1=>∃d kvs,x=.ref d∧Rd H1 d (.dK kvs)∧∀o,R (Na d o kvs) (upd H1 d (.du o (.dK kvs)))
theorem ym {e:Expr}{te:TE}{apos eZ:Pos}{es:List Expr}{k:Nat}{qj:Pos}(ho:PE X e te)(sH:attributeBase e "items" X.env (eval e X.env)=eval e X.env:=by rfl)(sI:(apos.endLine==eZ.line)=true:=by rfl):
  PI X (.Tuple es k qj) (.Call (.Attribute e "items" apos) [] [] eZ) (HR te):=by
 intro pins s σ H R I h
 refine wpAny_Call_method0_late sH sI (cu (ho pins s σ H _ I h) fun v s1 ⟨x,H1,I1,r1,q1⟩=> ?_)
 obtain ⟨d,kvs,rfl,e,q⟩:=q1
 cases r1
 obtain ⟨z,hd,vs,rel,o,OJ,ep,z_,hx,gL,hk,hp,hn⟩:=ik I1.bJ e
 have da:s1.heap.DictAt (bx X.prog X.w) d vs ep:=⟨o,OJ,z_,hx,gL,hk,hp,hn⟩
 have h1:s1.TypeIs (.ref d) "dict":=da.dictOf.typeIs
 have h2:∀a,Value.ref d=.ref a→∃ob,s1.heap.get? a=some ob∧ob.dict=none:=fun a z=>by
  cases z
  exact ⟨o,z_,hx.2.1⟩
 have lv:=rel.length
 refine ⟨"dict","dict.items",F.plainAttrs_dict,F.slot_dict_items,F.type_dict_items,h1,h2,Calls.callWith_builtin rfl (PySem.evalArgs_none ?_)⟩
 refine call_meetsIn F.slot_dict_items h1 F.entry_dict_items (F.args_dict_items_1 _) (meets_dict_items (bx X.prog X.w) d hd) ⟨⟨vs,da.dictOf⟩,?_⟩
 have I2:Inv X pins σ (upd H1 d (.du o (.dK kvs))) s1:=by
  rcases e with e | ⟨o',e⟩
  ·exact Inv.freeze I1 e z_
  ·have g:=(I1.bJ d _ e).1
   rw [z_] at g
   cases g
   rw [Lr e]
   exact I1
 have Wr:(s1.heap.push {cls:=.type "dict_items",data:=.fields #[.ref d]}).DictAt (bx X.prog X.w) d vs ep:=da.at' fun o e=>Heap.get?_push_of_some _ e
 show wpAny (model X.prog X.w) X.A (pyIter (.ref s1.heap.objs.size)) _ _ _
 refine wpAny_pyIter_items (s:={s1 with heap:=s1.heap.push {cls:=.type "dict_items",data:=.fields #[.ref d]}}) ⟨_,Heap.get?_push_size _ rfl,rfl,rfl⟩ Wr ?_
 have sz:(s1.heap.push {cls:=.type "dict_items",data:=.fields #[.ref d]}).objs.size=s1.heap.objs.size+1:=Heap.size_push ..
 have ne:(s1.heap.push {cls:=.type "dict_items",data:=.fields #[.ref d]}).objs.size≠d:=by
  rw [sz]
  exact ad7 (ad5 (aeG (Heap.lt_size z_)))
 have I3:Inv X pins σ (upd H1 d (.du o (.dK kvs))) {s1 with heap:=(s1.heap.push {cls:=.type "dict_items",data:=.fields #[.ref d]}).push {cls:=.type "dict_itemiterator",data:=.fields #[.none,.bool false,.ref d,.int 0 0,.int vs.length 0,.int ep 0,.none,.none]}}:=I2.kept (t' :=s1.toks) fun b o e=>Heap.get?_push_of_some _ (Heap.get?_push_of_some _ e)
 refine ⟨_,[_],_,_,_,rfl,I3,mR d _ o kvs gL ne,⟨_,_,by rw [lv];exact Heap.get?_push_size _ rfl⟩,fun b hb=> ?_,q o⟩
 have eb:b=(s1.heap.push {cls:=.type "dict_items",data:=.fields #[.ref d]}).objs.size:=by simpa using hb
 have le:s1.heap.objs.size≤b:=by rw [eb,sz];exact amS _
 exact I2.oy le (I2.bJ.fresh le)
end
section
variable {D:Addr}{te:TE}{cap:L2.St}{H1:Hp}{Q:VK}
end
end Ty
set_option maxHeartbeats 4000000
namespace Ty
open PySem PySem.Spec PyProof.Rows L2
section
variable {X:Cx}
end
end Ty
set_option maxHeartbeats 4000000
namespace Ty
open PySem PySem.Spec PyProof.Rows L2
section
variable {X:Cx}
inductive J7 (xs:List V)(H:Hp)(Q:VK):Prop where
 | mk (p:Addr) (kvs:List (Key×V)) (_:xs=[.ref p]) (_:Rd H p (.dK kvs)) (_:Q (.int (kvs.length:Int)) H):J7 xs H Q
theorem pC:gH X (.builtin "len") J7:=by
 intro pins s σ H xs us Q I r h
 obtain ⟨p,kvs,rfl,hq,q⟩:=h
 obtain ⟨u,rfl,r1⟩:=vals1 r
 cases r1
 exact OD I hq fun t s' I' =>⟨.int _,H,I',⟨t,rfl⟩,q⟩
end
section
variable {D:Addr}{te:TE}{cap:L2.St}{H1:Hp}{Q:VK}
end
end Ty
set_option maxHeartbeats 4000000
namespace Ty
open PySem PySem.Spec PyProof.Rows L2
section
variable {X:Cx}
theorem Inv.OP {pins:List (Addr×Obj)}{σ:L2.St}{H:Hp}{s:Shared}{d:Addr}{u:HO}{o:Obj}(I:Inv X pins σ H s)(e:H d=some (.du o u))(n:∀o' u',X.H₀ d≠some (.du o' u'))(nt:∀xs,u≠.tup xs):Inv X pins σ (upd H d u) s:=by
 have nx:∀b u',H b=some u' →b≠d→upd H d u b=some u' :=fun b u q n=>by rw [ao n];exact q
 have nn:∀b,H b=none→upd H d u b=none:=fun b q=>by rw [ao (fun z=>by rw [z,e] at q;cases q)];exact q
 refine ⟨I.ok,I.os,I.bare,⟨I.base.keep,I.base.slot,fun b ob q z hx=>nn b (I.base.free b ob q z hx),I.base.there,fun b xs q=> ?_,fun b ob u' q=> ?_,fun b ps q=> ?_⟩,I.loc,I.cell,nn _ I.free,fun x c q=>nn _ (I.gB x c q),fun p hp=> ?_,?_,I.len⟩
 ·have z:=I.base.qc b xs q
  exact nx b _ z fun y=>by rw [y,e] at z;cases z
 ·have z:=I.base.oq b ob u' q
  exact nx b _ z fun y=>by rw [y] at q;exact n _ _ q
 ·obtain ⟨m,z⟩:=I.base.qd b ps q
  exact ⟨m,nx b _ z fun y=>by rw [y,e] at z;cases z⟩
 ·obtain ⟨a1,a2,a3⟩:=I.pin p hp
  exact ⟨a1,nn _ a2,a3⟩
 ·have st:∀{b u'},cy X.prog X.w H s.heap b u' →cy X.prog X.w (upd H d u) s.heap b u' :=fun {b u'} k=>k.qb (fun _ _ _ z=>z) (fun c z=>nx c _ z fun y=>by rw [y,e] at z;cases z) fun c xs z=>nx c _ z fun y=>by rw [y,e] at z;cases z
  intro b u' q
  by_cases hb:b=d
  ·subst hb
   rw [ah] at q
   cases q
   exact st (I.bJ b _ e).2
  ·rw [ao hb] at q
   exact st (I.bJ b u' q)
def OQ (H0:Hp)(t:TS):TS:=fun D σ H=>t {D with nx:=fun σ' H' =>∃d o kvs,H' d=some (.du o (.dK kvs))∧(∀o' u',H0 d≠some (.du o' u'))∧D.nx σ' (upd H' d (.dK kvs))} σ H
theorem jb {st:Stmt}{t:TS}(h:PS X st t):PS X st (OQ X.H₀ t):=by
 intro pins s σ H D I q
 refine wpAny_mono (h pins s σ H _ I q) (fun f s' z=> ?_) fun _ _ z=>z
 cases f with
 | next=>
  obtain ⟨σ',H',I',d,o,kvs,e,n,k⟩:=z
  exact ⟨σ',_,Inv.OP I' e n (fun _ z=>nomatch z),k⟩
 | brk=>exact z
 | cont=>exact z
 | ret u=>exact z
def OR (d:Addr)(o:Obj)(kvs:List (Key×V)):It:=
 ⟨fun i H=>H d=some (.du o (.dK kvs))∧i < kvs.length,
  fun i H v H' =>H' =H∧∃k x,kvs[i]? =some (k,x)∧v=kV k,
  fun i H=>H d=some (.du o (.dK kvs))∧kvs.length≤i⟩
theorem yn {P:Program}{w:World}{K:Frag}{tg:Expr}(d it:Addr)(o:Obj)(kvs:List (Key×V)){Nb:Array DictEntry}{ep:Nat}(he:o.data=.dict Nb ep):
  Turn P w K tg (OR d o kvs) [it] it (fun i h=>h.IsKeyIter it d i kvs.length ep) where
 mem:=by simp
 obj:=fun i h st b hb=>by
  have e:b=it:=by simpa using hb
  subst e
  obtain ⟨o,e,c,d⟩:=st
  exact ⟨o,e,fun v z=>by rw [d] at z;cases z⟩
 keep:=fun i h h' st k=>st.at fun o e=>k it (by simp) o e
 item:=by
  intro X hP hw hK hc i pins s σ H E I hf st hg
  subst hP hw hK
  obtain ⟨fz,hi⟩:=hg
  obtain ⟨hd,vs,rel,da,_⟩:=qJ I.bJ fz he
  have ek:kvs[i]? =some kvs[i]:=gE hi
  obtain ⟨⟨k',u⟩,ev,e1,ru⟩:=aF rel ek
  have lv:=rel.length
  rw [lv] at st
  obtain ⟨f0,f1,f2,f3,f4,f5⟩:=hf it (by simp)
  refine wpAny_pyNext_dict_item st da ev fun key h' AZ AQ sb=> ?_
  have I1:Inv X pins σ H {s with heap:=h' }:=I.turned (t' :=s.toks) (fun b o hb e=>(sb.2 b hb).trans e) f0 f1 f3 f4 f5
  rw [← lv] at AQ
  obtain ⟨o',e',c',d'⟩:=id AQ
  have x8 :kvs[i].1=k' :=e1
  exact ⟨key,rfl,AO (s:={s with heap:=h' }) e' c' d' (by decide) ⟨kV kvs[i].1,H,I1,by rw [x8];exact qI AZ,⟨rfl,kvs[i].1,kvs[i].2,ek,rfl⟩,AQ,fun b hb=>(hf b hb).1⟩⟩
 done:=by
  intro X hP hw hK hc i pins s σ H E I hf st hg
  subst hP hw hK
  obtain ⟨fz,hi⟩:=hg
  obtain ⟨hd,vs,rel,da,_⟩:=qJ I.bJ fz he
  have lv:=rel.length
  rw [lv] at st
  obtain ⟨f0,f1,f2,f3,f4,f5⟩:=hf it (by simp)
  exact wpAny_pyNext_dict_end (I.ok.hd hc) st da (ab_ (by omega)) fun h' eb=>⟨rfl,I.turned (t' :=s.toks) (fun b o hb e=>eb b o hb e) f0 f1 f3 f4 f5⟩
 self:=fun _ _ _ _ _ st h=>wpAny_pyIter_keyiter st h
inductive CC (R:(It→Hp→Prop))(x:V)(H1:Hp):Prop where
 | mk (d kvs:_) (_:x=.ref d) (_:H1 d=some (.dK kvs)) (_:∀o,R (OR d o kvs) (upd H1 d (.du o (.dK kvs)))):CC R x H1
def OS (te:TE):TI:=fun σ H R=>te σ H fun x H1=>CC R x H1
theorem qK {e:Expr}{te:TE}{tg:Expr}(ho:PE X e te):PI X tg e (OS te):=by
 intro pins s σ H R I h
 refine cu (ho pins s σ H _ I h) fun v s1 ⟨x,H1,I1,r1,q1⟩=> ?_
 obtain ⟨d,kvs,rfl,e,q⟩:=q1
 cases r1
 obtain ⟨z,hd,vs,rel,o,OJ,ep,z_,hx,gL,hk,hp,hn⟩:=pe I1.bJ e
 have da:s1.heap.DictAt (bx X.prog X.w) d vs ep:=⟨o,OJ,z_,hx,gL,hk,hp,hn⟩
 have lv:=rel.length
 have I2:=Inv.freeze I1 e z_
 refine wpAny_pyIter_dict hd da ?_
 have I3:Inv X pins σ (upd H1 d (.du o (.dK kvs))) {s1 with heap:=s1.heap.push {cls:=.type "dict_keyiterator",data:=.fields #[.ref d,.int 0 0,.int vs.length 0,.int ep 0]}}:=I2.kept (t' :=s1.toks) fun b o e=>Heap.get?_push_of_some _ e
 refine ⟨s1.heap.objs.size,[s1.heap.objs.size],_,_,_,rfl,I3,yn d _ o kvs gL,(show Heap.IsKeyIter _ _ d 0 kvs.length ep from ⟨_,Heap.get?_push_size _ rfl,rfl,by rw [lv];rfl⟩),fun b hb=> ?_,q o⟩
 have eb:b=s1.heap.objs.size:=by simpa using hb
 have le:s1.heap.objs.size≤b:=by rw [eb];exact adL _
 exact I2.oy le (I2.bJ.fresh le)
theorem mU {d:Addr}{o:Obj}{kvs:List (Key×V)}{g:TG}{tb:TS}{D:Ends}{σ:L2.St}{H:Hp}(Pv:Nat→L2.St→Hp→Prop)(h0:Pv 0 σ H)(hl:∀i σ H,i≤kvs.length→Pv i σ H→H d=some (.du o (.dK kvs)))
  (hs:∀i k x σ H,kvs[i]? =some (k,x)→Pv i σ H→g (kV k) σ H fun σ2 H2=>tb {D with nx:=Pv (i+1),ct:=Pv (i+1),bk:=D.nx} σ2 H2) (hd:∀σ H,Pv kvs.length σ H→D.nx σ H):
  ∃W:Nat→Nat→L2.St→Hp→Prop,(∃m,W 0 m σ H)∧∀i m σ H,W i m σ H→
   ((OR d o kvs).stop i H∧D.nx σ H)∨((OR d o kvs).go i H∧∃N:L2.St→Hp→Prop,(∀σ' H',N σ' H' →∃m',m' < m∧W (i+1) m' σ' H')∧∀x H',(OR d o kvs).AN i H x H' →g x σ H' fun σ2 H2=>tb {D with nx:=N,ct:=N,bk:=D.nx} σ2 H2):=by
 refine ⟨fun i m σ H=>m=kvs.length - i∧i≤kvs.length∧Pv i σ H,⟨kvs.length,by simp,aeg _,h0⟩,?_⟩
 rintro i m σ H ⟨rfl,hi,p⟩
 have q:=hl i σ H hi p
 by_cases oa:i < kvs.length
 ·refine .inr ⟨⟨q,oa⟩,Pv (i+1),fun σ' H' z=>⟨kvs.length - (i+1),by omega,rfl,by omega,z⟩,fun x H' y=> ?_⟩
  obtain ⟨rfl,k,x',ek,rfl⟩:=y
  exact hs i k x' σ _ ek p
 ·have e:i=kvs.length:=by omega
  subst e
  exact .inl ⟨⟨q,adL _⟩,hd σ H p⟩
end
end Ty
set_option maxHeartbeats 4000000
namespace Ty
open PySem PySem.Spec PyProof.Rows L2
section
variable {prog:Program}{w:World}{KK:Type}[DecidableEq KK]{knd:KeyKind prog w KK}{A:Around}{E:Value→Shared→Prop}{s:Shared}
open MeetsSeq MeetsSeq2 MeetsSeq3 SeqRoads2 in
open MeetsSeq MeetsSeq2 MeetsSeq3 SeqRoads2 in
end
section
variable {X:Cx}
end
end Ty
set_option maxHeartbeats 4000000
namespace Ty
open PySem PySem.Spec PyProof.Rows L2
structure Ls (K:Frag)(x qual:Str)(st:Stmt)(f:Addr)(fd:FuncData):Prop where
 ex:∃(dV oc:Value) (od:Option Addr) (kV doc pm:Value) (an:Option Addr) (bD ct:Value) (og:Array (Option Value)),
  fd=fnOf x qual (aA st) (aw st) (af st) dV kV doc pm an bD ct∧K.lookup f=some ⟨oc,od,.func fd,og⟩∧codeIn K bD qual=true
 kp:keepIn K (.ref f)=true
section
variable {P:Program}{w:World}{K:Frag}{mg:Str→Option Value}{base:Heap}{CX:jQ}
theorem HS {x qual:Str}{st:Stmt}{f:Addr}{dV oc:Value}{od an:Option Addr}{og:Array (Option Value)}{kV doc pm bD ct:Value}(l:K.lookup f=some ⟨oc,od,.func (fnOf x qual (aA st) (aw st) (af st) dV kV doc pm an bD ct),og⟩)
  (c:codeIn K bD qual=true) (k:keepIn K (.ref f)=true):Ls K x qual st f (fnOf x qual (aA st) (aw st) (af st) dV kV doc pm an bD ct):=⟨⟨dV,oc,od,kV,doc,pm,an,bD,ct,og,rfl,l,c⟩,k⟩
theorem cX {name qual:Str}{st:Stmt}{f:Addr}{fd:FuncData}{N ps:List Str}{k:Nat}{sp:Sp}(F:oi K name qual st f fd)(S:aG N ps (af st))(len:∀vs H Q E,sp vs H Q E→vs.length=ps.length)
  (i7:∀(bD:Value) (A:Around) (outer:List Env) (s:Shared) (H:Hp) (vs:List V) (Q:VK) (E:XK),cv k (A.deeper (envOfC qual (af st) s.heap.objs.size f bD))→sp vs H Q E→
   ∃t,PSs (cxr P w K mg base N qual (af st) f bD A outer s H E).wC (aw st) t∧t {nx:=fun _ H' =>Q .cA H',rt:=Q} (start N vs) H):cH P w K mg base (a_ P w) (k+1) f fd ps sp:=by
 obtain ⟨oc,od,kV,doc,pm,an,bD,ct,og,rfl,lk,ot⟩:=F.ex
 exact wK lk ot S len fun A outer s H vs Q E hr uI=>by
  obtain ⟨t,h,q⟩:=i7 bD A outer s H vs Q E hr uI
  exact ⟨t,h.wC,q⟩
theorem CD {name qual:Str}{st:Stmt}{f:Addr}{fd:FuncData}{N ps:List Str}{k:Nat}{sp:Sp}(F:Ls K name qual st f fd)(S:aG N ps (af st))(len:∀vs H Q E,sp vs H Q E→vs.length=ps.length)
  (i7:∀(bD:Value) (A:Around) (outer:List Env) (s:Shared) (H:Hp) (vs:List V) (Q:VK) (E:XK),cv k (A.deeper (envOfC qual (af st) s.heap.objs.size f bD))→sp vs H Q E→
   ∃t,PSs (cxr P w K mg base N qual (af st) f bD A outer s H E).wC (aw st) t∧t {nx:=fun _ H' =>Q .cA H',rt:=Q} (start N vs) H):cH P w K mg base (a_ P w) (k+1) f fd ps sp:=by
 obtain ⟨dV,oc,od,kV,doc,pm,an,bD,ct,og,rfl,lk,ot⟩:=F.ex
 exact wK lk ot S len fun A outer s H vs Q E hr uI=>by
  obtain ⟨t,h,q⟩:=i7 bD A outer s H vs Q E hr uI
  exact ⟨t,h.wC,q⟩
end
structure vg (P:Program)(w:World)(K:Frag)(mg:Str→Option Value)(base:Heap)(CX:jQ)(k:Nat)(C:Addr)(m:Str)(ps:List Str)(ds:List Value)(sp:Sp):Prop where
 ex:∃(f:Addr) (fd:FuncData),sk K C∧Meth K C m f∧cH P w K mg base CX k f fd ps sp∧Binds K fd ps ds
section
variable {X:Cx}{CX:jQ}{k:Nat}{E:XK}{m:Str}{pos apos:Pos}{e o:Expr}{es:List Expr}{ta:TE}{t:TA}
inductive CG (P:Program)(w:World)(K:Frag)(mg:Str→Option Value)(base:Heap)(CX:jQ)(k:Nat)(m:Str)(E:XK)(t:TA)(σ:L2.St)(Q:VK)(x:V)(H1:Hp):Prop where
 | mk (a C dx fs ps sp:_) (_:x=.ref a) (_:H1 a=some (.ins C dx fs)) (_:fs.lookup m=none) (_:vg P w K mg base CX k C m ps [.none] sp) (_:t σ H1 fun vs H2=>sp (x::vs++[.cA]) H2 Q E):CG P w K mg base CX k m E t σ Q x H1
def OT (P:Program)(w:World)(K:Frag)(mg:Str→Option Value)(base:Heap)(CX:jQ)(k:Nat)(m:Str)(E:XK)(ta:TE)(t:TA):TE:=fun σ H Q=>ta σ H fun x H1=>CG P w K mg base CX k m E t σ Q x H1
theorem HU {pl:Sem Bool}(he:PE X o ta)(hr:cv k X.A)(hx:Passes CX X E)(ha:PA X (e::es) t)
  (GK:starEach (e::es) X.env=(false,eval e X.env)::starEach es X.env:=by rfl) (wJ:(backTo pos (starEach es X.env)).any (·.1)=false:=by rfl)
  (ht:eval (.Call (.Attribute o m apos) (e::es) [] pos) X.env=(do
   let ov ← eval o X.env
   standAt apos.atName
   let (f,first) ← holding [ov] (getMethod ov m pl)
   callWith pos f first (backTo pos (starEach (e::es) X.env)) (backToKw pos (keywordEach [] X.env))):=by rfl):
  PE X (.Call (.Attribute o m apos) (e::es) [] pos) (OT X.prog X.w X.K X.mg X.base CX k m E ta t):=by
 intro pins s σ H Q I h
 refine PySem.W.methodCall_KW (pl:=pl) (cu (he pins s σ H _ I h) fun u s1 ⟨x,H1,I1,rx,a,C,dx,fs,ps,sp,ex,ea,l,M,q⟩=> ?_) ht
 subst ex
 obtain rfl:u=Value.ref a:=rx
 obtain ⟨f,fd,c,hm,F,hb⟩:=M.ex
 refine ix I1 ea c hm l ?_
 refine PySem.W.callWith_K (first:=[.ref a]) (h₀:=X.base) I.ok.mod.MY hm.kp (cu (ha pos pins s1 σ H1 _ I1 q) fun us s2 ⟨vs,H2,I2,r,q2⟩=>⟨I2.iV,?_⟩) GK wJ
 exact qm (us:=.ref a::us) (vs:=.ref a::vs) (dvs:=[.cA]) F hr hb (.cons rfl .nil) hx I2 (.cons rfl r) q2
end
theorem bY {κ:Type}[DecidableEq κ]{k:κ}:∀{kvs:List (κ×V)},k∉kvs.map (·.1)→bV kvs k=none
 | [],_=>rfl
 | p::r,h=>by
  rw [ac_,adY,not_or] at h
  rw [bw (fun e=>h.1 e.symm)]
  exact bY h.2
theorem g7 {κ:Type}[DecidableEq κ]{k:κ}:∀{kvs:List (κ×V)},k∈kvs.map (·.1)→∃v,bV kvs k=some v
 | p::r,h=>by
  by_cases e:p.1=k
  ·exact ⟨_,bH e⟩
  ·rw [bw e]
   rw [ac_,adY] at h
   rcases h with h | h
   ·exact absurd h.symm e
   ·exact g7 h
structure CH (K:Frag)(C:Addr):Prop where
 cls:sk K C
 pl:ef K C "pin_places"
 wy:ef K C "pin_ways"
 br:ef K C "bar_ends"
abbrev frF (pP pW pB:Addr):List (Str×V):=[("pin_places",.ref pP),("pin_ways",.ref pW),("bar_ends",.ref pB)]
abbrev Pt:=(Int×Int)×(Int×Int)
abbrev dw (p:Pt):List Da:=[.t [.v (.int p.1.1),.v (.int p.1.2)],.t [.v (.int p.2.1),.v (.int p.2.2)]]
def bC (H H' :Hp):Prop:=∀b xs,Rd H b (.tup xs)→Rd H' b (.tup xs)
theorem bC.of {H H' :Hp}(s:av H H'):bC H H' :=fun b xs e=>by
 rcases e with e | ⟨o,e⟩
 ·exact .inl (s _ _ e)
 ·exact .inr ⟨o,s _ _ e⟩
theorem bC.trans {H H1 H2:Hp}(a:bC H H1)(b:bC H1 H2):bC H H2:=fun c xs e=>b c xs (a c xs e)
theorem bC.dict {H:Hp}{d:Addr}{kvs:List (Key×V)}{o:HO}(e:H d=some (.dK kvs)):bC H (upd H d o):=fun b xs r=>by
 rcases r with r | ⟨o,r⟩
 ·exact .inl (by rw [ao (fun z=>by rw [z,e] at r;cases r)];exact r)
 ·exact .inr ⟨o,by rw [ao (fun z=>by rw [z,e] at r;cases r)];exact r⟩
theorem bC.list {H:Hp}{d:Addr}{xs:List V}{o:HO}(e:H d=some (.lst xs)):bC H (upd H d o):=fun b xs r=>by
 rcases r with r | ⟨o,r⟩
 ·exact .inl (by rw [ao (fun z=>by rw [z,e] at r;cases r)];exact r)
 ·exact .inr ⟨o,by rw [ao (fun z=>by rw [z,e] at r;cases r)];exact r⟩
theorem bC.cY {K:Frag}{H H' :Hp}(s:bC H H'){p:Addr}{xs:List V}(q:cf K H p xs):cf K H' p xs:=by
 rcases q with q | q
 ·exact .inl (s _ _ q)
 ·exact .inr q
theorem kA.aS {K:Frag}{H H' :Hp}{v:V}{q:Int×Int}(h:kA K H v q)(s:bC H H'):kA K H' v q:=by
 obtain ⟨p,e,k⟩:=h
 exact ⟨p,e,s.cY k⟩
def Spot (K:Frag)(H:Hp)(v:V)(p:Pt):Prop:=∃a u1 u2,v=.ref a∧cf K H a [u1,u2]∧kA K H u1 p.1∧kA K H u2 p.2
theorem Spot.aS {K:Frag}{H H' :Hp}{v:V}{p:Pt}(h:Spot K H v p)(s:bC H H'):Spot K H' v p:=by
 obtain ⟨a,u1,u2,e,h1,h2,h3⟩:=h
 exact ⟨a,u1,u2,e,s.cY h1,h2.aS s,h3.aS s⟩
theorem wY {K:Frag}{H:Hp}{v:V}{q:Int×Int}(h:kA K H v q):Is K H (.t [.v (.int q.1),.v (.int q.2)]) v:=by
 obtain ⟨p,rfl,e⟩:=h
 unfold Is
 refine ⟨p,_,rfl,e,?_⟩
 unfold iz
 refine ⟨by unfold Is;exact ⟨rfl,rfl⟩,?_⟩
 unfold iz
 refine ⟨by unfold Is;exact ⟨rfl,rfl⟩,?_⟩
 unfold iz
 trivial
theorem Spot.is {K:Frag}{H:Hp}{v:V}{p:Pt}(h:Spot K H v p):Is K H (.t (dw p)) v:=by
 obtain ⟨a,u1,u2,rfl,h1,h2,h3⟩:=h
 unfold Is
 refine ⟨a,_,rfl,h1,?_⟩
 unfold iz
 refine ⟨wY h2,?_⟩
 unfold iz
 refine ⟨wY h3,?_⟩
 unfold iz
 trivial
theorem tE (p q:Pt):eh (dw p) (dw q)=decide (p=q):=by
 have e:eh (dw p) (dw q)=((p.1.1==q.1.1 && (p.1.2==q.1.2 && true)) && ((p.2.1==q.2.1 && (p.2.2==q.2.2 && true)) && true)):=by
  simp only [dw,eh,i_,oh]
 rw [e]
 obtain ⟨⟨a,b⟩,c,d⟩:=p
 obtain ⟨⟨a',b'⟩,c',d'⟩:=q
 by_cases h:a=a' <;> by_cases h1:b=b' <;> by_cases h2:c=c' <;> by_cases h3:d=d' <;> simp [h,h1,h2,h3,Prod.mk.injEq]
theorem kC (p q:Pt):eA (dw p) (dw q)=true:=by simp [dw,eA,alike]
theorem pD (p:Pt):oB (dw p)≤60:=by simp [dw,oB,dep]
structure e_ (K:Frag)(H:Hp)(C a dx pP pW pB:Addr)(ps:List (Str×Pt))(bs:List (Str×Str×Str))(kP kW kB:List (Key×V)):Prop where
 obj:H a=some (.ins C dx (frF pP pW pB))
 pl:H pP=some (.dK kP)
 wy:H pW=some (.dK kW)
 br:H pB=some (.dK kB)
 ne1:pP≠pW
 ne2:pP≠pB
 ne3:pW≠pB
 rp:Paired (fun (p:Str×Pt) (kv:Key×V)=>kv.1=.inr p.1∧Spot K H kv.2 p.2) ps kP
 rb:Paired (fun (b:Str×Str×Str) (kv:Key×V)=>kv.1=.inr b.1∧∃p,kv.2=.ref p∧Rd H p (.tup [.str b.2.1,.str b.2.2])) bs kB
section
variable {K:Frag}{H H' :Hp}{C a dx pP pW pB:Addr}{ps:List (Str×Pt)}{bs:List (Str×Str×Str)}{kP kW kB:List (Key×V)}
theorem fk {α:Type}{R:(Str×α)→(Key×V)→Prop}:∀{l:List (Str×α)} {kvs:List (Key×V)},Paired (fun b kv=>kv.1=.inr b.1∧R b kv) l kvs→kvs.map (·.1)=l.map (fun b=>(aee b.1:Key))
 | _,_,.nil=>rfl
 | _,_,.cons h t=>by rw [ac_,ac_,h.1,fk t]
theorem fm {l:List Str}{x:Str}:(aee x:Key)∈l.map (fun b=>(aee b:Key)) ↔ x∈l:=by
 constructor
 ·intro h
  obtain ⟨y,hy,e⟩:=abt.mp h
  exact aem e▸hy
 ·exact fun h=>abt.mpr ⟨x,h,rfl⟩
theorem e_.CI (R:e_ K H C a dx pP pW pB ps bs kP kW kB)(s:bC H H')(h1:H' a=H a)(h2:H' pP=H pP)(h3:H' pW=H pW)(h4:H' pB=H pB):e_ K H' C a dx pP pW pB ps bs kP kW kB:=
 ⟨h1.trans R.obj,h2.trans R.pl,h3.trans R.wy,h4.trans R.br,R.ne1,R.ne2,R.ne3,Paired.bZ R.rp fun _ _ h=>⟨h.1,h.2.aS s⟩,Paired.bZ R.rb fun _ _ h=>⟨h.1,by obtain ⟨p,e,k⟩:=h.2;exact ⟨p,e,s _ _ k⟩⟩⟩
theorem e_.same (R:e_ K H C a dx pP pW pB ps bs kP kW kB)(s:av H H'):e_ K H' C a dx pP pW pB ps bs kP kW kB:=
 R.CI (.of s) ((s _ _ R.obj).trans R.obj.symm) ((s _ _ R.pl).trans R.pl.symm) ((s _ _ R.wy).trans R.wy.symm) ((s _ _ R.br).trans R.br.symm)
theorem e_.wZ (R:e_ K H C a dx pP pW pB ps bs kP kW kB):kB.map (·.1)=(bs.map (·.1)).map (fun b=>(aee b:Key)):=by
 rw [fk R.rb,ad1]
 rfl
theorem e_.w4 (R:e_ K H C a dx pP pW pB ps bs kP kW kB):kP.map (·.1)=(ps.map (·.1)).map (fun b=>(aee b:Key)):=by
 rw [fk R.rp,ad1]
 rfl
theorem e_.bar (R:e_ K H C a dx pP pW pB ps bs kP kW kB)(x:Str):(bV kB (.inr x)).isSome=decide (x∈bs.map (·.1)):=by
 by_cases h:x∈bs.map (·.1)
 ·obtain ⟨v,e⟩:=g7 (kvs:=kB) (k:=.inr x) (by rw [R.wZ];exact fm.mpr h)
  rw [e,decide_eq_true h]
  rfl
 ·rw [bY (by rw [R.wZ];exact fun z=>h (fm.mp z)),decide_eq_false h]
  rfl
theorem e_.pin (R:e_ K H C a dx pP pW pB ps bs kP kW kB)(x:Str):(bV kP (.inr x)).isSome=decide (x∈ps.map (·.1)):=by
 by_cases h:x∈ps.map (·.1)
 ·obtain ⟨v,e⟩:=g7 (kvs:=kP) (k:=.inr x) (by rw [R.w4];exact fm.mpr h)
  rw [e,decide_eq_true h]
  rfl
 ·rw [bY (by rw [R.w4];exact fun z=>h (fm.mp z)),decide_eq_false h]
  rfl
theorem e_.ab (R:e_ K H C a dx pP pW pB ps bs kP kW kB):a≠pP∧a≠pW∧a≠pB:=
 ⟨fun z=>(by have h:=R.obj;rw [z,R.pl] at h;cases h),fun z=>(by have h:=R.obj;rw [z,R.wy] at h;cases h),fun z=>(by have h:=R.obj;rw [z,R.br] at h;cases h)⟩
theorem e_.Lu (R:e_ K H C a dx pP pW pB ps bs kP kW kB){x one other:Str}{t:Addr}(ht:Rd H t (.tup [.str one,.str other])):
  e_ K (upd H pB (.dK (kB++[(.inr x,.ref t)]))) C a dx pP pW pB ps (bs++[(x,one,other)]) kP kW (kB++[(.inr x,.ref t)]):=by
 have s:bC H (upd H pB (.dK (kB++[(.inr x,.ref t)]))):=.dict R.br
 exact ⟨by rw [ao R.ab.2.2];exact R.obj,by rw [ao R.ne2];exact R.pl,by rw [ao R.ne3];exact R.wy,ah,R.ne1,R.ne2,R.ne3,Paired.bZ R.rp fun _ _ h=>⟨h.1,h.2.aS s⟩,
  Paired.snoc (Paired.bZ R.rb fun _ _ h=>⟨h.1,by obtain ⟨p,e,k⟩:=h.2;exact ⟨p,e,s _ _ k⟩⟩) ⟨rfl,t,rfl,s _ _ ht⟩⟩
theorem bL {α β:Type}{R:α→β→Prop}:∀{l:List α} {m:List β},Paired R l m→Paired (fun b a=>R a b) m l
 | _,_,.nil=>.nil
 | _,_,.cons h t=>.cons h (bL t)
theorem e_.Lv (R:e_ K H C a dx pP pW pB ps bs kP kW kB){x:Str}{p:Pt}{t:Addr}(ht:Spot K H (.ref t) p):
  e_ K (upd H pP (.dK (kP++[(.inr x,.ref t)]))) C a dx pP pW pB (ps++[(x,p)]) bs (kP++[(.inr x,.ref t)]) kW kB:=by
 have s:bC H (upd H pP (.dK (kP++[(.inr x,.ref t)]))):=.dict R.pl
 exact ⟨by rw [ao R.ab.1];exact R.obj,ah,by rw [ao (ad7 R.ne1)];exact R.wy,by rw [ao (ad7 R.ne2)];exact R.br,R.ne1,R.ne2,R.ne3,
  Paired.snoc (Paired.bZ R.rp fun _ _ h=>⟨h.1,h.2.aS s⟩) ⟨rfl,ht.aS s⟩,Paired.bZ R.rb fun _ _ h=>⟨h.1,by obtain ⟨p,e,k⟩:=h.2;exact ⟨p,e,s _ _ k⟩⟩⟩
theorem e_.w6 (R:e_ K H C a dx pP pW pB ps bs kP kW kB)(tF :List (Key×V)):e_ K (upd H pW (.dK tF)) C a dx pP pW pB ps bs kP tF kB:=by
 have s:bC H (upd H pW (.dK tF)):=.dict R.wy
 exact ⟨by rw [ao R.ab.2.1];exact R.obj,by rw [ao R.ne1];exact R.pl,ah,by rw [ao (ad7 R.ne3)];exact R.br,R.ne1,R.ne2,R.ne3,
  Paired.bZ R.rp fun _ _ h=>⟨h.1,h.2.aS s⟩,Paired.bZ R.rb fun _ _ h=>⟨h.1,by obtain ⟨p,e,k⟩:=h.2;exact ⟨p,e,s _ _ k⟩⟩⟩
theorem yo (xs:List Str):(xs.map V.str).all gI=true:=by
 rw [List.all_map,anr]
 exact fun _ _=>rfl
theorem tG {x:Str}:∀(xs:List Str),N8 (.str x) (xs.map V.str)=decide (x∈xs)
 | []=>rfl
 | y::ys=>by
  have ih:=tG (x:=x) ys
  unfold N8 at ih ⊢
  rw [ac_,ae_,ih]
  by_cases e:y=x
  ·subst e
   simp [oh]
  ·have e' :¬ x=y:=fun z=>e z.symm
   simp [oh,e,e']
end
end Ty
set_option maxHeartbeats 4000000
namespace Ty
open PySem PySem.Spec PyProof.Rows L2
open Builtin.Int (intBits)
def qr (r:Rat):Int×Int:=(r.num,(r.den:Int))
theorem cz (r:Rat):0 < (qr r).2:=by
 have:=r.den_pos
 show (0:Int) < (r.den:Int)
 omega
theorem mV (r:Rat):aek (qr r).1 (qr r).2=1:=by
 have:=r.reduced
 show aek r.num (r.den:Int)=1
 unfold aek
 simpa [Nat.Coprime] using this
theorem dQ (r:Rat):vl (qr r)=r:=by
 show (r.num:Rat) / ((r.den:Int):Rat)=r
 rw [← anf]
 exact am5 r
theorem pE {q:Int×Int}(h:0 < q.2)(g:aek q.1 q.2=1):q=qr (vl q):=Lg h (cz _) g (mV _) (dQ _).symm
theorem eG {t b:Int}(h:b≠0):low t b=qr ((t:Rat) / (b:Rat)):=by
 rw [← jZ h]
 exact pE (i9 h) (lQ h)
theorem iD {a b:Rat}(h:qr a=qr b):a=b:=by
 rw [← dQ a, ← dQ b,h]
theorem mW (i:Int):qr (i:Rat)=(i,1):=by
 have e:(i,(1:Int))=qr (vl (i,1)):=pE (by show (0:Int) < 1;decide) (by show aek i 1=1;simp)
 have v:vl (i,(1:Int))=(i:Rat):=by
  unfold vl
  show (i:Rat) / ((1:Int):Rat)=i
  have:((1:Int):Rat)=1:=by rfl
  rw [this]
  grind
 rw [e,v]
theorem CJ (r:Rat):qr (-r)=(-(qr r).1,(qr r).2):=by
 have e:((-(qr r).1,(qr r).2):Int×Int)=qr (vl (-(qr r).1,(qr r).2)):=pE (cz r) (by
  have:=mV r
  show aek (-(qr r).1) (qr r).2=1
  rw [Int.neg_gcd]
  exact this)
 have v:vl (-(qr r).1,(qr r).2)= -r:=by
  have h:=dQ r
  unfold vl at h ⊢
  push_cast
  rw [← h]
  grind
 rw [e,v]
theorem tH {r:Rat}:((qr r).2:Rat)≠0:=cw (aeh (cz r))
theorem Lw (a b:Rat):low ((qr a).1*(qr b).2+(qr b).1*(qr a).2) ((qr a).2*(qr b).2)=qr (a+b):=by
 have ha:=cz a
 have hb:=cz b
 rw [eG (aeh (aeQ ha hb))]
 have e1:=dQ a
 have e2:=dQ b
 have z1:=tH (r:=a)
 have z2:=tH (r:=b)
 unfold vl at e1 e2
 congr 1
 push_cast
 grind
theorem CK (a b:Rat):low ((qr a).1*(qr b).2 - (qr b).1*(qr a).2) ((qr a).2*(qr b).2)=qr (a - b):=by
 have ha:=cz a
 have hb:=cz b
 rw [eG (aeh (aeQ ha hb))]
 have e1:=dQ a
 have e2:=dQ b
 have z1:=tH (r:=a)
 have z2:=tH (r:=b)
 unfold vl at e1 e2
 congr 1
 push_cast
 grind
theorem Ly (a b:Rat):low ((qr a).1*(qr b).1) ((qr a).2*(qr b).2)=qr (a*b):=by
 have ha:=cz a
 have hb:=cz b
 rw [eG (aeh (aeQ ha hb))]
 have e1:=dQ a
 have e2:=dQ b
 have z1:=tH (r:=a)
 have z2:=tH (r:=b)
 unfold vl at e1 e2
 congr 1
 push_cast
 grind
structure Sz (k:Nat)(r:Rat):Prop where
 top:intBits (qr r).1≤k
 bot:intBits (qr r).2≤k
theorem Sz.up {k l:Nat}{r:Rat}(h:Sz k r)(kl:k≤l):Sz l r:=⟨adF h.top kl,adF h.bot kl⟩
theorem yp {a b:Int}{k:Nat}(ha:intBits a≤k)(hb:intBits b≤k):intBits (a+b)≤k+1:=by
 rw [intBits_le_iff] at ha hb ⊢
 have:=ae3 a b
 rw [aff]
 omega
theorem yq {a b:Int}{k:Nat}(ha:intBits a≤k)(hb:intBits b≤k):intBits (a - b)≤k+1:=by
 rw [intBits_le_iff] at ha hb ⊢
 have:=Int.natAbs_sub_le a b
 rw [aff]
 omega
theorem vh {t b:Int}{k:Nat}(hb:b≠0)(h1:intBits t≤k)(h2:intBits b≤k):Sz k ((t:Rat) / (b:Rat)):=by
 rw [← jZ hb]
 have e:=pE (i9 (t:=t) hb) (lQ hb)
 exact ⟨by rw [← e];exact intBits_le_of_natAbs (mE hb) h1,by rw [← e];exact intBits_le_of_natAbs (mF hb) h2⟩
theorem CL {t b:Int}{k:Nat}{r:Rat}(hb:b≠0)(e:low t b=qr r)(h1:intBits t≤k)(h2:intBits b≤k):Sz k r:=by
 have z:=eG (t:=t) hb
 rw [z] at e
 have:=iD e
 rw [← this]
 exact vh hb h1 h2
theorem Sz.add {k l:Nat}{a b:Rat}(ha:Sz k a)(hb:Sz l b):Sz (k+l+1) (a+b):=
 CL (aeh (aeQ (cz a) (cz b))) (Lw a b) (yp (intBits_mul_le ha.top hb.bot) (by rw [amD];exact intBits_mul_le hb.top ha.bot)) (ang (intBits_mul_le ha.bot hb.bot))
theorem Sz.sub {k l:Nat}{a b:Rat}(ha:Sz k a)(hb:Sz l b):Sz (k+l+1) (a - b):=
 CL (aeh (aeQ (cz a) (cz b))) (CK a b) (yq (intBits_mul_le ha.top hb.bot) (by rw [amD];exact intBits_mul_le hb.top ha.bot)) (ang (intBits_mul_le ha.bot hb.bot))
theorem Sz.mul {k l:Nat}{a b:Rat}(ha:Sz k a)(hb:Sz l b):Sz (k+l) (a*b):=
 CL (aeh (aeQ (cz a) (cz b))) (Ly a b) (intBits_mul_le ha.top hb.top) (intBits_mul_le ha.bot hb.bot)
theorem Sz.neg {k:Nat}{a:Rat}(ha:Sz k a):Sz k (-a):=by
 refine ⟨?_,?_⟩
 ·rw [CJ]
  have:=ha.top
  rw [intBits_le_iff] at this ⊢
  show (-(qr a).1).natAbs < 2^k
  rw [afv]
  exact this
 ·rw [CJ]
  exact ha.bot
theorem vi {i:Int}{k:Nat}(h:i.natAbs < 2^k)(hk:1≤k):Sz k (i:Rat):=by
 refine ⟨?_,?_⟩
 ·rw [mW]
  exact intBits_le_iff.mpr h
 ·rw [mW]
  refine intBits_le_iff.mpr ?_
  show 1 < 2^k
  exact Nat.one_lt_two_pow (by omega)
def fJ (K:Frag)(H:Hp)(v:V)(r:Rat):Prop:=kA K H v (qr r)
def eY (K:Frag)(H:Hp)(v:V)(p:Rat×Rat):Prop:=∃a u1 u2,v=.ref a∧cf K H a [u1,u2]∧fJ K H u1 p.1∧fJ K H u2 p.2
section
variable {K:Frag}{H H' :Hp}{v:V}{r:Rat}{p:Rat×Rat}
theorem fJ.aS (h:fJ K H v r)(s:bC H H'):fJ K H' v r:=kA.aS h s
theorem fJ.same (h:fJ K H v r)(s:av H H'):fJ K H' v r:=kA.same h s
theorem eY.aS (h:eY K H v p)(s:bC H H'):eY K H' v p:=by
 obtain ⟨a,u1,u2,e,h1,h2,h3⟩:=h
 exact ⟨a,u1,u2,e,s.cY h1,h2.aS s,h3.aS s⟩
theorem eY.same (h:eY K H v p)(s:av H H'):eY K H' v p:=h.aS (.of s)
abbrev rX (p:Rat×Rat):Pt:=(qr p.1,qr p.2)
theorem eY.OU (h:eY K H v p):Spot K H v (rX p):=h
def h8 (K:Frag)(H:Hp)(us:List V)(ps:List (Rat×Rat)):Prop:=Paired (eY K H) us ps
theorem h8.aS {us:List V}{ps:List (Rat×Rat)}(h:h8 K H us ps)(s:bC H H'):h8 K H' us ps:=Paired.bZ h fun _ _ z=>z.aS s
theorem h8.same {us:List V}{ps:List (Rat×Rat)}(h:h8 K H us ps)(s:av H H'):h8 K H' us ps:=h.aS (.of s)
end
section
variable {X:Cx}
theorem w8 {pins:List (Addr×Obj)}{σ:L2.St}{H:Hp}{s:Shared}{v:V}{p q:Rat×Rat}(I:Inv X pins σ H s)(h1:eY X.K H v p)(h2:eY X.K H v q):p=q:=by
 obtain ⟨a,u1,u2,rfl,t1,⟨b1,rfl,n1⟩,b2,rfl,n2⟩:=h1
 obtain ⟨a',w1,w2,e,t2,⟨c1,rfl,m1⟩,c2,rfl,m2⟩:=h2
 cases e
 cases I.gY t1 t2
 have e1:=I.gY n1 m1
 have e2:=I.gY n2 m2
 simp only [List.cons.injEq,V.int.injEq,and_true] at e1 e2
 exact amU (iD (amU e1.1 e1.2)) (iD (amU e2.1 e2.2))
def OV (K:Frag)(neg:Bool):R2:=fun x y H Q=>∃p l us ps,y=.ref l∧aV K H l us∧eY K H x p∧h8 K H us ps∧Q (.bl (if neg then !decide (p∈ps) else decide (p∈ps))) H
theorem OW {pins:List (Addr×Obj)}{σ:L2.St}{H:Hp}{s:Shared}{A:Around}{x:V}{v:Value}{p:Rat×Rat}{us:List V}{its:List Value}{ps:List (Rat×Rat)}(I:Inv X pins σ H s)(hu:A.units+60 < cLine)(hx:eY X.K H x p)(rx:RelV x v)(hp:h8 X.K H us ps)(rv:Vals us its):
  ∃e:Value→Bool,(∀y,y∈its.toArray→SeqAt.EqAt A s y v (e y))∧its.toArray.any e=decide (p∈ps):=by
 have key:∀(j:Nat) (y:Value),its[j]? =some y→∃u q,us[j]? =some u∧ps[j]? =some q∧RelV u y∧eY X.K H u q:=fun j y ey=>by
  obtain ⟨u,eu,ru⟩:=aF (bL rv) ey
  obtain ⟨q,eq,hq⟩:=aF hp eu
  exact ⟨u,q,eu,eq,ru,hq⟩
 refine ⟨fun y=> @decide (∃u q,RelV u y∧eY X.K H u q∧q=p) (aet _),fun y hy=> ?_,?_⟩
 ·obtain ⟨j,hj,ey⟩:=aeu.mp (by simpa using hy:y∈its)
  obtain ⟨u,q,eu,eq,ru,hq⟩:=key j y (by rw [gE hj,ey])
  have z:=wN (A:=A) I (.t (dw (rX q))) (.t (dw (rX p))) u x y v hq.OU.is hx.OU.is (by unfold alike;exact kC _ _) ru rx (by have:=pD (rX q);unfold dep;simp only [dw,oB,dep] at this ⊢;omega)
  have e:i_ (.t (dw (rX q))) (.t (dw (rX p)))= @decide (∃u q,RelV u y∧eY X.K H u q∧q=p) (aet _):=by
   unfold i_
   rw [tE]
   by_cases c:q=p
   ·subst c
    rw [decide_eq_true rfl]
    symm
    exact @decide_eq_true _ (aet _) ⟨u,q,ru,hq,rfl⟩
   ·rw [decide_eq_false (fun z=>c (amU (iD (congrArg anb z)) (iD (congrArg anc z))))]
    symm
    refine @decide_eq_false _ (aet _) fun ⟨u',q',Wt,i6,e'⟩=> ?_
    obtain ⟨a,_,_,rfl,_⟩:=id hq
    obtain ⟨a',_,_,rfl,_⟩:=id i6
    have r1:y=Value.ref a:=ru
    have r2:y=Value.ref a' :=Wt
    rw [r1] at r2
    cases r2
    exact c ((w8 I hq i6).trans e')
  rw [e] at z
  exact z
 ·rw [aeX,decide_eq_true_iff]
  simp only [List.any_toArray,ae6]
  constructor
  ·rintro ⟨y,hy,ey⟩
   obtain ⟨j,hj,ej⟩:=aeu.mp hy
   obtain ⟨u,q,eu,eq,ru,hq⟩:=key j y (by rw [gE hj,ej])
   obtain ⟨u',q',Wt,i6,e'⟩:= @of_decide_eq_true _ (aet _) ey
   obtain ⟨a,_,_,rfl,_⟩:=id hq
   obtain ⟨a',_,_,rfl,_⟩:=id i6
   have r1:y=Value.ref a:=ru
   have r2:y=Value.ref a' :=Wt
   rw [r1] at r2
   cases r2
   rw [← e', ← w8 I hq i6]
   exact aa_ eq
  ·intro hm
   obtain ⟨j,hj,ej⟩:=aeu.mp hm
   have lu:us.length=ps.length:=Paired.length hp
   have li:us.length=its.length:=rv.length
   have OX :j < its.length:=by omega
   refine ⟨its[j],aeq OX,?_⟩
   obtain ⟨u,q,eu,eq,ru,hq⟩:=key j its[j] (gE OX)
   rw [gE hj,ej] at eq
   cases eq
   exact @decide_eq_true _ (aet _) ⟨u,p,ru,hq,rfl⟩
theorem HV (hu:X.A.units+64 < cLine):jP X (compareOp .In) (OV X.K false):=by
 intro pins s σ H x y v u Q I rx ry h
 obtain ⟨p,l,us,ps,rfl,hq,hx,hp,q⟩:=h
 cases ry
 obtain ⟨its,rv,pl,hz⟩:=I.list hq
 obtain ⟨e,he,ea⟩:=OW (A:=X.A.in1) I (by rw [in1_units];omega) hx rx hp rv
 refine SeqAt.in_listAt e pl.isList he ⟨.bl _,H,I,rfl,?_⟩
 rw [ea]
 exact q
end
end Ty
set_option maxHeartbeats 4000000
namespace Ty
open PySem PySem.Spec PyProof.Rows L2
theorem gc {α:Type}{R:(Str×α)→(Key×V)→Prop}{x:Str}{y:α}:∀{l:List (Str×α)} {kvs:List (Key×V)},Paired (fun b kv=>kv.1=.inr b.1∧R b kv) l kvs→(l.map (·.1)).Nodup→(x,y)∈l→∃v,bV kvs (.inr x)=some v∧R (x,y) (.inr x,v)
 | _::_,kv::_,.cons h t,nd,m=>by
  rw [ac_,ad8] at nd
  rcases adY.mp m with e | m
  ·subst e
   have h1:kv.1=.inr x:=h.1
   refine ⟨kv.2,bH h1,?_⟩
   have h2:=h.2
   rw [← h1]
   exact h2
  ·obtain ⟨v,e,r⟩:=gc t nd.2 m
   refine ⟨v,?_,r⟩
   rw [bw (fun z=> ?_)]
   ·exact e
   ·rw [h.1] at z
    exact nd.1 (aem z▸abt.mpr ⟨_,m,rfl⟩)
def uJ (K:Frag)(H:Hp)(pw:List (Str×List (Rat×Rat)))(kW:List (Key×V)):Prop:=
 Paired (fun (p:Str×List (Rat×Rat)) (kv:Key×V)=>kv.1=.inr p.1∧∃l us,kv.2=.ref l∧H l=some (.lst us)∧h8 K H us p.2) pw kW
theorem uJ.same {K:Frag}{H H' :Hp}{pw:List (Str×List (Rat×Rat))}{kW:List (Key×V)}(h:uJ K H pw kW)(s:av H H'):uJ K H' pw kW:=
 Paired.bZ h fun _ _ z=>⟨z.1,by obtain ⟨l,us,e1,e2,e3⟩:=z.2;exact ⟨l,us,e1,s _ _ e2,e3.same s⟩⟩
theorem uJ.dict {K:Frag}{H:Hp}{pw:List (Str×List (Rat×Rat))}{kW kvs:List (Key×V)}{d:Addr}{o:HO}(h:uJ K H pw kW)(e:H d=some (.dK kvs)):uJ K (upd H d o) pw kW:=
 Paired.bZ h fun _ _ z=>⟨z.1,by
  obtain ⟨l,us,e1,e2,e3⟩:=z.2
  exact ⟨l,us,e1,by rw [ao (fun q=>by rw [q,e] at e2;cases e2)];exact e2,e3.aS (.dict e)⟩⟩
theorem uJ.keys {K:Frag}{H:Hp}{pw:List (Str×List (Rat×Rat))}{kW:List (Key×V)}(h:uJ K H pw kW):kW.map (·.1)=(pw.map (·.1)).map (fun b=>(aee b:Key)):=by
 rw [fk h,ad1]
 rfl
theorem e_.ends {K:Frag}{H:Hp}{C a dx pP pW pB:Addr}{ps:List (Str×Pt)}{bs:List (Str×Str×Str)}{kP kW kB:List (Key×V)}(R:e_ K H C a dx pP pW pB ps bs kP kW kB)(nd:(bs.map (·.1)).Nodup){x one other:Str}(m:(x,one,other)∈bs):
  ∃p,bV kB (.inr x)=some (.ref p)∧Rd H p (.tup [.str one,.str other]):=by
 obtain ⟨v,e,p,ep,r⟩:=gc R.rb nd m
 have rT :v=.ref p:=ep
 exact ⟨p,by rw [e,rT],r⟩
theorem e_.place {K:Frag}{H:Hp}{C a dx pP pW pB:Addr}{ps:List (Str×Pt)}{bs:List (Str×Str×Str)}{kP kW kB:List (Key×V)}(R:e_ K H C a dx pP pW pB ps bs kP kW kB)(nd:(ps.map (·.1)).Nodup){x:Str}{p:Pt}(m:(x,p)∈ps):
  ∃v,bV kP (.inr x)=some v∧Spot K H v p:=gc R.rp nd m
end Ty
namespace Ty
open PySem PySem.Spec PyProof.Rows L2
structure aE where
 nm:Str
 sp:Rat×Rat
 ws:List (Rat×Rat)
structure a8 where
 nm:Str
 one:aE
 other:aE
structure yr (K:Frag)(H:Hp)(C a:Addr)(pins:List aE)(bars:List a8):Prop where
 ex:∃(dx pP pW pB:Addr) (kP kW kB:List (Key×V)),e_ K H C a dx pP pW pB (pins.map fun p=>(p.nm,rX p.sp)) (bars.map fun b=>(b.nm,b.one.nm,b.other.nm)) kP kW kB∧uJ K H (pins.map fun p=>(p.nm,p.ws)) kW
structure dy (pins:List aE)(bars:List a8):Prop where
 np:(pins.map (·.nm)).Nodup
 nb:(bars.map (·.nm)).Nodup
 ends:∀b∈bars,b.one∈pins∧b.other∈pins∧b.one.nm≠b.other.nm
 sz:∀p∈pins,Sz 24 p.sp.1∧Sz 24 p.sp.2∧∀w∈p.ws,Sz 22 w.1∧Sz 22 w.2
 lp:pins.length≤9
 lb:bars.length≤14
 lw:∀p∈pins,p.ws.length≤2
theorem yr.same {K:Frag}{H H' :Hp}{C a:Addr}{pins:List aE}{bars:List a8}(h:yr K H C a pins bars)(s:av H H'):yr K H' C a pins bars:=by
 obtain ⟨dx,pP,pW,pB,kP,kW,kB,R,W⟩:=h.ex
 exact ⟨dx,pP,pW,pB,kP,kW,kB,R.same s,W.same s⟩
def HW (K:Frag)(H:Hp)(kvs:List (Key×V))(F:Str→Option (Rat×Rat)):Prop:=
 ∀nm,(bV kvs (.inr nm)=none∧F nm=none)∨∃v p,bV kvs (.inr nm)=some v∧F nm=some p∧eY K H v p
section
variable {K:Frag}{H H' :Hp}{kvs:List (Key×V)}
theorem HW.same {F:Str→Option (Rat×Rat)}(h:HW K H kvs F)(s:av H H'):HW K H' kvs F:=fun nm=>by
 rcases h nm with h | ⟨v,q,h1,h2,h3⟩
 ·exact .inl h
 ·exact .inr ⟨v,q,h1,h2,h3.same s⟩
theorem HW.Wu {F:Str→Option (Rat×Rat)}(h:HW K H kvs F){x:Str}{v:V}{q:Rat×Rat}(n:eY K H v q):eY K H ((bV kvs (.inr x)).getD v) ((F x).getD q):=by
 rcases h x with ⟨h1,h2⟩ | ⟨u,q',h1,h2,h3⟩
 ·rw [h1,h2]
  exact n
 ·rw [h1,h2]
  exact h3
end
end Ty
namespace Ty
open PySem PySem.Spec PyProof.Rows L2
end Ty
namespace Ty
open PySem PySem.Spec PyProof.Rows L2
theorem Lz {α:Type}{nm:α→Str}{l:List α}(nd:(l.map nm).Nodup){b b' :α}(h:b∈l)(h' :b' ∈l)(e:nm b=nm b'):b=b' :=by
 obtain ⟨i,hi,ei⟩:=aeu.mp h
 obtain ⟨j,hj,ej⟩:=aeu.mp h'
 have q1:(l.map nm)[i]? =some (nm b):=by rw [ir,gE hi,ei];rfl
 have q2:(l.map nm)[j]? =some (nm b):=by rw [ir,gE hj,ej,e];rfl
 have ij:=(afg (by rw [Wp];exact hi) nd).mp (q1.trans q2.symm)
 subst ij
 rw [← ei, ← ej]
theorem eI {α:Type}{nm:α→Str}{l:List α}(nd:(l.map nm).Nodup){i:Nat}{b b' :α}(h:l[i]? =some b)(m:b' ∈l.take i):nm b' ≠nm b:=fun e=>by
 have il:=(be.mp h).1
 obtain ⟨j,hj,ej⟩:=aeu.mp m
 rw [anh] at ej
 rw [adZ] at hj
 have q1:(l.map nm)[j]? =some (nm b):=by rw [ir,gE (by omega),ej, ← e];rfl
 have q2:(l.map nm)[i]? =some (nm b):=by rw [ir,h];rfl
 have:=(afg (by rw [Wp];omega) nd).mp (q1.trans q2.symm)
 omega
theorem take_snoc {α:Type}{l:List α}{i:Nat}{b:α}(h:l[i]? =some b):l.take (i+1)=l.take i++[b]:=by rw [ae4,h];rfl
end Ty
namespace Ty
open PySem PySem.Spec PyProof.Rows L2
theorem mX {κ:Type}[DecidableEq κ]:∀{kvs:List (κ×V)} {t:Nat} {k:κ} {y:V},(kvs.map (·.1)).Nodup→kvs[t]? =some (k,y)→bV kvs k=some y
 | p::r,0,k,y,nd,e=>by
  cases e
  exact bH rfl
 | p::r,t+1,k,y,nd,e=>by
  rw [ac_,ad8] at nd
  have e' :r[t]? =some (k,y):=e
  rw [bw (fun z=>nd.1 (z▸abt.mpr ⟨_,aa_ e',rfl⟩))]
  exact mX nd.2 e'
theorem yt {xs:List Str}(h:xs.Nodup):(xs.map fun x=>(aee x:Key)).Nodup:=by
 unfold anL
 rw [ai_]
 exact List.Pairwise.imp (fun h e=>h (aem e)) h
end Ty
set_option maxHeartbeats 4000000
namespace Ty
open PySem PySem.Spec PyProof.Rows L2
theorem j9 {H H' :Hp}(s:av H H'){p:Addr}(n:H' p=none):H p=none:=by
 cases e:H p with
 | none=>rfl
 | some o=>rw [s _ _ e] at n;cases n
end Ty
namespace Ty
open PySem PySem.Spec PyProof.Rows L2
section
variable {X:Cx}
end
section
variable {D:Addr}{te:TE}{cap:L2.St}{H1:Hp}{Q:VK}
end
end Ty
set_option maxHeartbeats 4000000
namespace Ty
open PySem PySem.Spec PyProof.Rows L2
abbrev eJ (h:Heap)(z TI TO:Addr)(f0:Value)(fb:Bool):Prop:=
 h.get? z=some {cls:=.type "zip",dict:=none,data:=.fields #[f0,.bool fb,.bool false,.ref TI,.ref TO],slots:= #[]}
section
variable {prog:Program}{w:World}{A:Around}{E:Value→Shared→Prop}{s:Shared}
theorem tI {a:Addr}{o:Obj}{Q:Option Obj→Shared→Prop}(h:s.heap.get? a=some o)(q:Q (some o) s):wpAny (model prog w) A (loadIfAlive a) Q E s:=fun Γ p _=>by
 show Sem.wp _ _ (.loadIfAlive a .pure) _ _ _ _
 rw [Sem.wp_loadIfAlive,h]
 exact q
theorem tJ {z TI TO T:Addr}{fb:Bool}{o:Obj}{Q:Bool→Shared→Prop}(hz:eJ s.heap z TI TO (rawInt T) fb)(hT:s.heap.get? T=some o)
  (hQ:∀h',eJ h' z TI TO (rawInt T) true→Heap.SameBut z s.heap h' →Q false {s with heap:=h' }):wpAny (model prog w) A (Builtin.SmallTypes.ownedTupleIsFree (.ref z)) Q E s:=by
 unfold Builtin.SmallTypes.ownedTupleIsFree
 refine wpAny_bind (wpAny_field hz rfl (x:=rawInt T) rfl ?_)
 show wpAny _ _ (loadIfAlive ((T:Int)).toNat >>=_) _ _ _
 refine wpAny_bind (tI (o:=o) (by simpa using hT) ?_)
 simp only [Option.isNone_some,afb,if_false]
 refine wpAny_bind (wpAny_field hz rfl (x:=.bool fb) rfl ?_)
 cases fb with
 | true=>
  show wpAny _ _ (if (Value.bool true !=Value.bool true)=true then _ else _) _ _ _
  rw [if_neg (by decide)]
  exact wpAny_pure (hQ s.heap hz ⟨rfl,fun _ _=>rfl⟩)
 | false=>
  show wpAny _ _ (if (Value.bool false !=Value.bool true)=true then _ else _) _ _ _
  rw [if_pos (by decide)]
  refine wpAny_bind (wpAny_setField_rec hz (by simp) fun h' Wv J0 =>wpAny_pure (hQ h' Wv J0))
theorem yu {z TI TO T i1 i2 l1 l2:Addr}{fb:Bool}{o:Obj}{k1 k2:Nat}{xs ys:Array Value}{x y:Value}{Q:Value→Shared→Prop}(D:ZipApart z TI TO i1 i2 l1 l2)
  (hz:eJ s.heap z TI TO (rawInt T) fb) (hT:s.heap.get? T=some o) (iA:IsPair s.heap TI (.ref i1) (.ref i2))
  (h1:s.heap.IsListIter i1 l1 k1) (h2:s.heap.IsListIter i2 l2 k2) (w_:s.heap.IsList l1 xs) (u5:s.heap.IsList l2 ys) (hx:xs[k1]? =some x) (hy:ys[k2]? =some y)
  (hQ:∀h',eJ h' z TI TO (rawInt T) true→h'.IsListIter i1 l1 (k1+1)→h'.IsListIter i2 l2 (k2+1)→IsPair h' s.heap.objs.size x y→h'.objs.size=s.heap.objs.size+1→
   (∀c o,c≠z→c≠i1→c≠i2→s.heap.get? c=some o→h'.get? c=some o)→Q (.ref s.heap.objs.size) {s with heap:=h' }):
  wpAny (model prog w) A (Builtin.«zip.__next__» ⟨[.ref z],[]⟩) (fun fin s' =>∃v,fin=.done (.ret v)∧Q v s') E s:=by
 show wpAny _ _ (field (.ref z) 2 >>=_) _ _ _
 refine wpAny_bind (wpAny_field hz rfl (x:=.bool false) rfl ?_)
 show wpAny _ _ (field (.ref z) 3 >>=_) _ _ _
 refine wpAny_bind (wpAny_field hz rfl (x:=.ref TI) rfl ?_)
 refine wpAny_bind (wpAny_seqItems iA rfl ?_)
 show wpAny _ _ (Builtin.SmallTypes.ownedTupleIsFree (.ref z) >>=_) _ _ _
 refine wpAny_bind (tJ hz hT fun h₁ hz₁ vj=> ?_)
 simp only [afb,if_false]
 refine wpAny_bind ?_
 show wpAny _ _ (forIn [Value.ref i1,Value.ref i2].toArray _ _) _ _ _
 rw [am6]
 simp only [anC,anM]
 refine wpAny_bind (wpAny_bind (wpAny_holding ?_))
 show wpAny _ _ (Builtin.SmallTypes.nextOf (.ref i1) >>=_) _ _ _
 refine wpAny_bind (wpAny_nextOf_list_item (h1.extBut vj.extBut D.i1z) (w_.extBut vj.extBut D.l1z) hx fun h₂ h1₂ CM=>wpAny_pure ?_)
 refine wpAny_pure ?_
 refine wpAny_bind (wpAny_bind (wpAny_holding ?_))
 show wpAny _ _ (Builtin.SmallTypes.nextOf (.ref i2) >>=_) _ _ _
 refine wpAny_bind (wpAny_nextOf_list_item ((h2.extBut vj.extBut D.i2z).extBut CM.extBut D.i12.symm) ((u5.extBut vj.extBut D.l2z).extBut CM.extBut D.l2i1) hy fun h₄ h2₄ Nc=>wpAny_pure ?_)
 refine wpAny_pure (wpAny_pure ?_)
 refine wpAny_bind (wpAny_newTuple (hsz:=(by show 2≤sizeLine;decide)) ?_)
 have hsz:h₄.objs.size=s.heap.objs.size:=by rw [Nc.1,CM.1,vj.1]
 refine wpAny_pure ⟨_,rfl,?_⟩
 have hz₄:eJ h₄ z TI TO (rawInt T) true:=Nc.extBut _ _ D.i2z.symm (CM.extBut _ _ D.i1z.symm hz₁)
 show Q (.ref h₄.objs.size) _
 rw [hsz]
 refine hQ _ (Heap.get?_push_of_some _ hz₄) ((h1₂.extBut Nc.extBut D.i12).at fun o e=>Heap.get?_push_of_some _ e) (h2₄.at fun o e=>Heap.get?_push_of_some _ e) ?_ (by rw [Heap.size_push,hsz]) fun c o c1 c3 c4 e=>Heap.get?_push_of_some _ (Nc.extBut _ _ c4 (CM.extBut _ _ c3 (vj.extBut _ _ c1 e)))
 show (h₄.push _).get? _=_
 rw [← hsz]
 exact Heap.get?_push_size _ rfl
theorem CN {z TI TO T i1 i2 l1 l2:Addr}{fb:Bool}{o:Obj}{k1 k2:Nat}{xs ys:Array Value}{Q:Fin→Shared→Prop}(hh:A.handled=none)(D:ZipApart z TI TO i1 i2 l1 l2)
  (hz:eJ s.heap z TI TO (rawInt T) fb) (hT:s.heap.get? T=some o) (iA:IsPair s.heap TI (.ref i1) (.ref i2))
  (h1:s.heap.IsListIter i1 l1 k1) (h2:s.heap.IsListIter i2 l2 k2) (w_:s.heap.IsList l1 xs) (u5:s.heap.IsList l2 ys) (yv:xs[k1]? =none∨ys[k2]? =none)
  (hE:∀h' e,(∀c o,c≠z→c≠i1→c≠i2→s.heap.get? c=some o→h'.get? c=some o)→(∃o,h'.get? e=some o∧o.cls=.type "StopIteration")→E (.ref e) {s with heap:=h' }):
  wpAny (model prog w) A (Builtin.«zip.__next__» ⟨[.ref z],[]⟩) Q E s:=by
 show wpAny _ _ (field (.ref z) 2 >>=_) _ _ _
 refine wpAny_bind (wpAny_field hz rfl (x:=.bool false) rfl ?_)
 show wpAny _ _ (field (.ref z) 3 >>=_) _ _ _
 refine wpAny_bind (wpAny_field hz rfl (x:=.ref TI) rfl ?_)
 refine wpAny_bind (wpAny_seqItems iA rfl ?_)
 show wpAny _ _ (Builtin.SmallTypes.ownedTupleIsFree (.ref z) >>=_) _ _ _
 refine wpAny_bind (tJ hz hT fun h₁ hz₁ vj=> ?_)
 simp only [afb,if_false]
 refine wpAny_bind ?_
 show wpAny _ _ (forIn [Value.ref i1,Value.ref i2].toArray _ _) _ _ _
 rw [am6]
 simp only [anC,anM]
 refine wpAny_bind (wpAny_bind (wpAny_holding ?_))
 show wpAny _ _ (Builtin.SmallTypes.nextOf (.ref i1) >>=_) _ _ _
 cases hx:xs[k1]? with
 | none=>
  refine wpAny_bind (wpAny_nextOf_list_end hh (h1.extBut vj.extBut D.i1z) (w_.extBut vj.extBut D.l1z) hx fun h₂ e CM he=> ?_)
  exact hE h₂ e (fun c o c1 c3 _ x=>CM _ _ c3 (vj.extBut _ _ c1 x)) he
 | some x=>
  have hy:ys[k2]? =none:=by rcases yv with h | h;rw [hx] at h;cases h;exact h
  refine wpAny_bind (wpAny_nextOf_list_item (h1.extBut vj.extBut D.i1z) (w_.extBut vj.extBut D.l1z) hx fun h₂ h1₂ CM=>wpAny_pure ?_)
  refine wpAny_pure ?_
  refine wpAny_bind (wpAny_bind (wpAny_holding ?_))
  show wpAny _ _ (Builtin.SmallTypes.nextOf (.ref i2) >>=_) _ _ _
  refine wpAny_bind (wpAny_nextOf_list_end hh ((h2.extBut vj.extBut D.i2z).extBut CM.extBut D.i12.symm) ((u5.extBut vj.extBut D.l2z).extBut CM.extBut D.l2i1) hy fun h₄ e Nc he=> ?_)
  exact hE h₄ e (fun c o c1 c3 c4 x=>Nc _ _ c4 (CM.extBut _ _ c3 (vj.extBut _ _ c1 x))) he
theorem vk {z TI TO T i1 i2 l1 l2:Addr}{fb:Bool}{o:Obj}{k1 k2:Nat}{xs ys:Array Value}{x y:Value}{Q:Option Value→Shared→Prop}(D:ZipApart z TI TO i1 i2 l1 l2)
  (hz:eJ s.heap z TI TO (rawInt T) fb) (hT:s.heap.get? T=some o) (iA:IsPair s.heap TI (.ref i1) (.ref i2))
  (h1:s.heap.IsListIter i1 l1 k1) (h2:s.heap.IsListIter i2 l2 k2) (w_:s.heap.IsList l1 xs) (u5:s.heap.IsList l2 ys) (hx:xs[k1]? =some x) (hy:ys[k2]? =some y)
  (hQ:∀h',eJ h' z TI TO (rawInt T) true→h'.IsListIter i1 l1 (k1+1)→h'.IsListIter i2 l2 (k2+1)→IsPair h' s.heap.objs.size x y→h'.objs.size=s.heap.objs.size+1→
   (∀c o,c≠z→c≠i1→c≠i2→s.heap.get? c=some o→h'.get? c=some o)→Q (some (.ref s.heap.objs.size)) {s with heap:=h' }):
  wpAny (model prog w) A (pyNext (.ref z)) Q E s:=by
 have OY :s.TypeIs (.ref z) "zip":=⟨_,hz,rfl⟩
 unfold pyNext
 exact wpAny_bind (wpAny_attempt (wpAny_callSpecial?_slot (name:=Str.ofString "__next__") OY F.slot_zip_next
  (wpAny_call_entry F.slot_zip_next OY F.entry_zip_next
   (yu D hz hT iA h1 h2 w_ u5 hx hy fun h' a1 a3 a4 a5 a6 a7=>wpAny_pure (hQ h' a1 a3 a4 a5 a6 a7)) (F.args_zip_next_1 _))))
theorem yw {z TI TO T i1 i2 l1 l2:Addr}{fb:Bool}{o:Obj}{k1 k2:Nat}{xs ys:Array Value}{Q:Option Value→Shared→Prop}(hh:A.handled=none)(D:ZipApart z TI TO i1 i2 l1 l2)
  (hz:eJ s.heap z TI TO (rawInt T) fb) (hT:s.heap.get? T=some o) (iA:IsPair s.heap TI (.ref i1) (.ref i2))
  (h1:s.heap.IsListIter i1 l1 k1) (h2:s.heap.IsListIter i2 l2 k2) (w_:s.heap.IsList l1 xs) (u5:s.heap.IsList l2 ys) (yv:xs[k1]? =none∨ys[k2]? =none)
  (hQ:∀h',(∀c o,c≠z→c≠i1→c≠i2→s.heap.get? c=some o→h'.get? c=some o)→Q none {s with heap:=h' }):wpAny (model prog w) A (pyNext (.ref z)) Q E s:=by
 have OY :s.TypeIs (.ref z) "zip":=⟨_,hz,rfl⟩
 unfold pyNext
 refine wpAny_bind (wpAny_attempt (wpAny_callSpecial?_slot (name:=Str.ofString "__next__") OY F.slot_zip_next
  (wpAny_call_entry F.slot_zip_next OY F.entry_zip_next (CN hh D hz hT iA h1 h2 w_ u5 yv fun h' e hk he=> ?_) (F.args_zip_next_1 _))))
 obtain ⟨o,ho,hc⟩:=he
 refine wpAny_bind (wpAny_isInstance (T:="StopIteration") (b:=true) ⟨o,ho,hc⟩ isSubtype_stop ?_)
 exact wpAny_pure (hQ _ hk)
end
def FI (h:Heap)(z TI TO i1 i2 a b S:Addr)(i:Nat):Prop:=(eJ h z TI TO .none false∨∃(T:Addr) (o:Obj) (fb:Bool),eJ h z TI TO (rawInt T) fb∧h.get? T=some o∧T≠z∧T≠TO∧T≠i1∧T≠i2∧T≠S)∧IsPair h TI (.ref i1) (.ref i2)∧(∃x y,IsPair h TO x y)∧h.IsListIter i1 a i∧h.IsListIter i2 b i
section
variable {prog:Program}{w:World}{A:Around}{E:Value→Shared→Prop}{s:Shared}{z TI TO i1 i2 a b S:Addr}{i:Nat}
theorem FI.frame {h h' :Heap}(st:FI h z TI TO i1 i2 a b S i)(k:∀c o,c≠S→h.get? c=some o→h'.get? c=some o)(nz:z≠S)(n1:TI≠S)(n2:TO≠S)(n3:i1≠S)(n4:i2≠S):FI h' z TI TO i1 i2 a b S i:=by
 obtain ⟨hz,iA,⟨x,y,oZ⟩,h1,h2⟩:=st
 refine ⟨?_,k _ _ n1 iA,⟨x,y,k _ _ n2 oZ⟩,h1.at fun o e=>k _ o n3 e,h2.at fun o e=>k _ o n4 e⟩
 rcases hz with hz | ⟨T,o,fb,hz,hT,t1,t2,t3,t4,t5⟩
 ·exact .inl (k _ _ nz hz)
 ·exact .inr ⟨T,o,fb,k _ _ nz hz,k _ _ t5 hT,t1,t2,t3,t4,t5⟩
theorem FI.item {oS:Obj}{xs ys:Array Value}{x y:Value}{Q:Option Value→Shared→Prop}(D:ZipApart z TI TO i1 i2 a b)(st:FI s.heap z TI TO i1 i2 a b S i)(hS:s.heap.get? S=some oS)
  (w_:s.heap.IsList a xs) (u5:s.heap.IsList b ys) (hx:xs[i]? =some x) (hy:ys[i]? =some y)
  (hQ:∀h',FI h' z TI TO i1 i2 a b S (i+1)→IsPair h' s.heap.objs.size x y→(∀c o,c∉[z,TI,TO,i1,i2]→s.heap.get? c=some o→h'.get? c=some o)→Q (some (.ref s.heap.objs.size)) {s with heap:=h' }):
  wpAny (model prog w) A (pyNext (.ref z)) Q E s:=by
 obtain ⟨hz,iA,⟨x0,y0,oZ⟩,h1,h2⟩:=st
 have lt:∀{c o},s.heap.get? c=some o→s.heap.objs.size≠c:=fun e=>afr (Heap.lt_size e)
 have e1:∃o,s.heap.get? i1=some o:=by obtain ⟨o,e,_⟩:=h1;exact ⟨o,e⟩
 have e2:∃o,s.heap.get? i2=some o:=by obtain ⟨o,e,_⟩:=h2;exact ⟨o,e⟩
 obtain ⟨o1,e1⟩:=e1
 obtain ⟨o2,e2⟩:=e2
 have OZ:∀{c:Addr},c∉[z,TI,TO,i1,i2]→c≠z∧c≠TI∧c≠TO∧c≠i1∧c≠i2:=fun h=>by simpa using h
 rcases hz with hz | ⟨T,o,fb,hz,hT,t1,t2,t3,t4,t5⟩
 ·refine wpAny_pyNext_zip_item D hz iA oZ h1 h2 w_ u5 hx hy fun h' a1 a2 a3 a4 a5 a6 a7=> ?_
  refine hQ h' ⟨.inr ⟨_,_,false,a1,a5,lt hz,lt oZ,lt e1,lt e2,lt hS⟩,a7 _ _ D.TIz D.TITO D.TIi1 D.TIi2 iA,⟨_,_,a2⟩,a3,a4⟩ a5 fun c o hc e=> ?_
  obtain ⟨c1,c2,c3,c4,c5⟩:=OZ hc
  exact a7 c o c1 c3 c4 c5 e
 ·refine vk D hz hT iA h1 h2 w_ u5 hx hy fun h' a1 a3 a4 a5 a6 a7=> ?_
  refine hQ h' ⟨.inr ⟨T,o,true,a1,a7 _ _ t1 t3 t4 hT,t1,t2,t3,t4,t5⟩,a7 _ _ D.TIz D.TIi1 D.TIi2 iA,⟨_,_,a7 _ _ D.TOz D.TOi1 D.TOi2 oZ⟩,a3,a4⟩ a5 fun c o hc e=> ?_
  obtain ⟨c1,c2,c3,c4,c5⟩:=OZ hc
  exact a7 c o c1 c4 c5 e
theorem FI.fin {xs ys:Array Value}{Q:Option Value→Shared→Prop}(hh:A.handled=none)(D:ZipApart z TI TO i1 i2 a b)(st:FI s.heap z TI TO i1 i2 a b S i)
  (w_:s.heap.IsList a xs) (u5:s.heap.IsList b ys) (yv:xs[i]? =none∨ys[i]? =none)
  (hQ:∀h',(∀c o,c∉[z,TI,TO,i1,i2]→s.heap.get? c=some o→h'.get? c=some o)→Q none {s with heap:=h' }):wpAny (model prog w) A (pyNext (.ref z)) Q E s:=by
 obtain ⟨hz,iA,⟨x0,y0,oZ⟩,h1,h2⟩:=st
 have OZ:∀{c:Addr},c∉[z,TI,TO,i1,i2]→c≠z∧c≠TI∧c≠TO∧c≠i1∧c≠i2:=fun h=>by simpa using h
 rcases hz with hz | ⟨T,o,fb,hz,hT,t1,t2,t3,t4,t5⟩
 ·refine wpAny_pyNext_zip_end hh D hz iA oZ h1 h2 w_ u5 yv fun h' kk=>hQ h' fun c o hc e=> ?_
  obtain ⟨c1,c2,c3,c4,c5⟩:=OZ hc
  exact kk c o c1 c3 c4 c5 e
 ·refine yw hh D hz hT iA h1 h2 w_ u5 yv fun h' kk=>hQ h' fun c o hc e=> ?_
  obtain ⟨c1,c2,c3,c4,c5⟩:=OZ hc
  exact kk c o c1 c4 c5 e
end
end Ty
namespace Ty
open PySem PySem.Spec PyProof.Rows L2
section
variable {X:Cx}{pins:List (Addr×Obj)}{σ:L2.St}
theorem yx {H:Hp}{p:Addr}(h:H p=none)(o:HO):av H (upd H p o):=fun b u q=>by rw [ao (aq q h)];exact q
end
end Ty
set_option maxHeartbeats 4000000
namespace Ty
open PySem PySem.Spec PyProof.Rows L2
section
variable {X:Cx}
section
variable {k:Nat}{m:Str}{pos apos:Pos}{e o:Expr}{es:List Expr}{ta:TE}{t:TA}
end
end
section
variable {P:Program}{w:World}{K:Frag}{mg:Str→Option Value}{base:Heap}
end
end Ty
set_option maxHeartbeats 4000000
namespace Ty
open PySem PySem.Spec PyProof.Rows L2
theorem HX (l:Addr)(its:Array Value)(n:Nat)(b:Addr)(eg:Array Value)(n2:Nat)(d:Option Addr)(sl:Array (Option Value))(hs0:¬(!its.isEmpty && Builtin.List.listTooLong (its.size+eg.size))=true)(hs1:its.size≤sizeLine)(FE:its.size+eg.size≤sizeLine+1):
  Meets (Builtin.«list.extend» ⟨[.ref l,.ref b],[]⟩) (fun _ R s=>s.heap.get? l=some {cls:=.type "list",dict:=none,data:=.seq its n,slots:= #[]}∧s.heap.get? b=some {cls:=.type "tuple",dict:=d,data:=.seq eg n2,slots:=sl}∧
   R (.ok (.ret Value.none)) {s with heap:=s.heap.update l (Obj.mapSeq fun x=>x++eg),toks:=s.toks}):=
 .of_wp fun prog w A R s h=>by
  obtain ⟨hp,g,dd,tk,os⟩:=s
  obtain ⟨hl,hb,h⟩:=h
  have f1:=AutoSeq1.idx_int
  have f2:=AutoSeq1.sub_tuple_tuple
  have f3:=AutoSeq1.sub_list_list
  have f4:=AutoSeq1.sub_tuple_list
  have f5:=AutoSeq1.sub_list_tuple
  have Wv :(its++eg).size≤sizeLine+1:=by rw [Array.size_append];exact FE
  wp_walk using (wpAny_updateSeq hl rfl (hz:=hs1) (_hz' :=Wv)),wpAny_loadPart' hl,wpAny_loadPart' hb
  exact ⟨_,rfl,h⟩
section
variable {X:Cx}
def O0 (K:Frag):V→List V→Hp→VK→Prop:=fun x vs H Q=>∃l b xs zs,x=.ref l∧vs=[.ref b]∧H l=some (.lst xs)∧cf K H b zs∧xs.length+zs.length≤1000∧Q .cA (upd H l (.lst (xs++zs)))
theorem HY:MtR X "list.extend" (O0 X.K):=by
 intro pins s σ H x vs v us Q I rx rv h
 obtain ⟨l,b,xs,zs,rfl,rfl,hH,hB,hz,q⟩:=h
 cases rx
 obtain ⟨u,rfl,ru⟩:=rv.one
 cases ru
 obtain ⟨z,its,n,r,hl,e⟩:=I.mC hH
 obtain ⟨eg,r2,tp,z2⟩:=I.tuple hB
 have u5:=r2.length
 have big:(1000:Nat)≤sizeLine:=by decide
 have hsz:its.toArray.size+eg.toArray.size≤sizeLine:=by rw [adW,adW];omega
 have BG:¬ (!its.toArray.isEmpty && Builtin.List.listTooLong (its.toArray.size+eg.toArray.size))=true:=by
  rw [sJ hsz,amT]
  exact adT
 obtain ⟨⟨c,d,dt,sl⟩,e2,hc,n2,hd⟩:=tp
 obtain rfl:c=Value.type "tuple":=hc
 obtain rfl:dt=_:=hd
 refine call_meets F.slot_list_extend ⟨_,e,rfl⟩ F.entry_list_extend (F.args_list_extend_2 _ _)
  (HX l its.toArray n b eg.toArray n2 d sl BG (by rw [adW];omega) (by omega)) ⟨e,e2,?_⟩
 refine ⟨.cA,_,I.N9 (its' :=its++eg) hH e (by simp) (r.append r2) ?_,rfl,q⟩
 rw [adK]
 omega
end
end Ty
set_option maxHeartbeats 4000000
namespace Ty
open PySem PySem.Spec PyProof.Rows L2
theorem qL:typeLookup (.type "zip") "__getattr__"=pure none:=by rw [typeLookup_type,builtinLookup_eq_fast];kernel_rfl
theorem yy:typeLookup (.type "zip") "keys"=pure none:=by rw [typeLookup_type,builtinLookup_eq_fast];kernel_rfl
theorem vm:entryFor table "zip.__getattribute__"=some Builtin.«object.__getattribute__»:=
 entryFor_alias (id' :="object.__getattribute__") (by kernel_rfl) (by decide+kernel) (by decide+kernel) (by kernel_rfl)
theorem kD:entryFor table "dict.update.loop"=some Builtin.«dict.update.loop»:=entryFor_of_tree (by kernel_rfl)
theorem fq:plainId "dict.update.loop"=true:=by decide+kernel
theorem CO (a:Addr)(vs:Array Value)(u:Tok):
  Meets (Builtin.«object.__getattribute__» ⟨[.ref a,.str "keys" u],[]⟩) (fun A R s=>s.heap.get? a=some {cls:=.type "zip",dict:=none,data:=.fields vs,slots:= #[]}∧raisesAttr (.ref a) "keys" A R s):=
 Meets.of_wp fun prog w A R s hs=>by
  obtain ⟨hp,g,d,tk,os⟩:=s
  obtain ⟨hx,hs⟩:=hs
  have hT:(⟨hp,g,d,tk,os⟩:Shared).TypeIs (.ref a) "zip":=⟨_,hx,rfl⟩
  have hm:=yy
  unfold Builtin.«object.__getattribute__»
  repeat (any_goals (first | (assumption) | wp_step))
  exact wpAny_raiseAttrError hs.1 hs.2 (attrMsg_fits (by decide+kernel) (by decide+kernel))
section
variable {prog:Program}{w:World}{A:Around}{E:Value→Shared→Prop}{s:Shared}
theorem tK {z:Addr}{vs:Array Value}{Q:Option Value→Shared→Prop}(hx:s.heap.get? z=some {cls:=.type "zip",dict:=none,data:=.fields vs,slots:= #[]})(hA:A.handled=none)
  (h:∀h' tk,(∀b o,s.heap.get? b=some o→h'.get? b=some o)→Q none {s with heap:=h',toks:=tk}):wpAny (model prog w) A (getAttr? (.ref z) "keys") Q E s:=by
 obtain ⟨hp,g,d,tk,os⟩:=s
 have hT:∀tk',(⟨hp,g,d,tk',os⟩:Shared).TypeIs (.ref z) "zip":=fun _=>⟨_,hx,rfl⟩
 have f1:=sub_AttributeError
 have f3:=F.slot_zip_getattribute.lookup
 have f4:=F.slot_zip_getattribute.bind (.ref z)
 have f5:=qL
 unfold getAttr? getAttrBy? getAttrBy
 repeat (any_goals (first | (assumption) | exact hT _ | ((with_reducible show wpAny _ _ (call (Value.builtin "zip.__getattribute__") _ _) _ _ _);refine call_meets F.slot_zip_getattribute (hT _) vm (F.args_zip_getattribute_2 _ _) (CO z vs _) ⟨hx,hA,fun h' tk' e uH => ?_⟩) | wp_step))
 obtain ⟨t',u',he⟩:=uH.there
 show wpAny _ _ (getattributeRaised _ _ _ _ _ _ _) _ _ _
 unfold getattributeRaised
 repeat (any_goals (first | (assumption) | wp_step))
 exact h _ _ uH.keeps
end
end Ty
set_option maxHeartbeats 4000000
namespace Ty
open PySem PySem.Spec PyProof.Rows L2
section
variable {prog:Program}{w:World}{A:Around}{E:Value→Shared→Prop}{s:Shared}
theorem oE {z TI TO:Addr}{f0:Value}{Q:Value→Shared→Prop}(hA:A.in1.in1.handled=none)(hz:IsZip s.heap z TI TO f0)
  (hL:∀(h' :Heap) (tk:Nat) (R:Result→Shared→Prop),(∀b o,s.heap.get? b=some o→h'.get? b=some o)→h'.get? s.heap.objs.size=some {cls:=.type "dict",data:=.dict #[]}→
   (∀s',Q (.ref s.heap.objs.size) s' →R (.ok (.ret .none)) s')→codeAny (model prog w) A.in1 (.builtin "dict.update.loop" ⟨[.ref s.heap.objs.size,.ref z,rawInt 0,.none],[]⟩) R {s with heap:=h',toks:=tk}):
  wpAny (model prog w) A (call (.type "dict") [.ref z]) Q E s:=by
 refine callType_codes (Q₁:=fun obj s₁=>obj=.ref s.heap.objs.size∧s₁={s with heap:=s.heap.push {cls:=.type "dict",data:=.dict #[]}}) F.kt_called_dict (F.kt_typeCall_dict_1 _) F.entry_dict_init (kt_code_dict_new _ ⟨rfl,rfl⟩) ?_
 rintro obj s₁ ⟨rfl,rfl⟩
 have hS:(s.heap.push {cls:=.type "dict",data:=.dict #[]}).get? s.heap.objs.size=some {cls:=.type "dict",data:=.dict #[]}:=Heap.get?_push_size _ rfl
 have k0:∀b o,s.heap.get? b=some o→(s.heap.push {cls:=.type "dict",data:=.dict #[]}).get? b=some o:=fun b o e=>Heap.get?_push_of_some _ e
 generalize hN:s.heap.objs.size=S at hS hL ⊢
 generalize s.heap.push {cls:=.type "dict",data:=.dict #[]}=hp at hS k0 ⊢
 have O1:hp.get? z=_:=k0 _ _ hz
 have hTS:Shared.TypeIs {s with heap:=hp} (.ref S) "dict":=⟨_,hS,rfl⟩
 have hT:Shared.TypeIs {s with heap:=hp} (.ref z) "zip":=⟨_,O1,rfl⟩
 refine ⟨hTS,F.args_dict_init_2 _ _,?_⟩
 unfold Builtin.«dict.__init__»
 refine wpAny_bind ?_
 unfold Builtin.Dict.selfAndRest
 refine wpAny_bind (wpAny_notOrdered_dict hTS ?_)
 refine wpAny_pure ?_
 show wpAny _ _ (Builtin.Dict.updateFrom "dict.__init__" S (.ref z) [] .none) _ _ _
 unfold Builtin.Dict.updateFrom
 refine wpAny_bind (wpAny_typeOf hT ?_)
 rw [if_pos (by decide)]
 refine wpAny_bind (tK (s:={s with heap:=hp}) O1 hA fun h' tk k1=> ?_)
 rw [if_pos (by rfl)]
 refine wpAny_bind (wpAny_rule ?_)
 have hz3:IsZip h' z TI TO f0:=k1 _ _ O1
 refine wpAny_bind (wpAny_pyIter_zip (s:={s with heap:=h',toks:=tk}) hz3 ?_)
 exact wpAny_pure ⟨plainId_quiet fq _,hL _ _ _ (fun b o e=>k1 _ _ (k0 _ _ e)) (k1 _ _ hS) fun s' hq=>⟨rfl,hq⟩⟩
end
section
variable {X:Cx}{pins:List (Addr×Obj)}{σ:L2.St}
theorem tN (kvs more:List (Key×V))(kv:Key×V):b8 kvs (more++[kv])=putK (b8 kvs more) kv.1 kv.2:=by
 unfold b8
 rw [List.foldl_append]
 rfl
theorem LA {z TI TO i1 i2 a b S:Addr}{A' :Around}{R:Result→Shared→Prop}{ks:List Key}{ys:List V}{H0:Hp}(hh:A'.in1.handled=none)(D:ZipApart z TI TO i1 i2 a b)(na:a≠S)(nb:b≠S)(hk1:ks.length≤1000):
  ∀(k i:Nat) (s:Shared) (H:Hp),min ks.length ys.length - i=k→i≤min ks.length ys.length→Inv X pins σ H s→(∀c∈[z,TI,TO,i1,i2],jS X pins H c)→FI s.heap z TI TO i1 i2 a b S i→
  H a=some (.lst (ks.map kV))→H b=some (.lst ys)→H S=some (.dK (b8 [] ((ks.zip ys).take i)))→bg S H0 H→
  (∀s' H',Inv X pins σ H' s' →bg S H0 H' →H' S=some (.dK (b8 [] (ks.zip ys)))→R (.ok (.ret .none)) s')→
  codeAny (model X.prog X.w) A' (.builtin "dict.update.loop" ⟨[.ref S,.ref z,rawInt (i:Int),.none],[]⟩) R s:=by
 have anw:(ks.zip ys).length=min ks.length ys.length:=List.length_zip
 intro k
 induction k with
 | zero=>
  intro i s H hk hi I hf st ha hb hS HZ hR
  refine codeAny_builtin kD ?_
  rw [Around.under_plainId fq _]
  show wpAny _ A'.in1 (pyNext (.ref z) >>=_) _ _ s
  obtain ⟨z1,its,n1,r1,l1,e1⟩:=I.mC ha
  obtain ⟨z2,Oy,n2,r2,l2,e2⟩:=I.mC hb
  rw [Wp] at l1
  refine wpAny_bind (st.fin hh D ⟨_,e1,rfl,_,rfl⟩ ⟨_,e2,rfl,_,rfl⟩ ?_ fun h' kk=> ?_)
  ·by_cases c:ks.length≤i
   ·exact .inl (by simp;omega)
   ·exact .inr (by simp;omega)
  ·rw [aeI (by omega)] at hS
   exact wpAny_bind (wpAny_pure (wpAny_pure (hR _ H (Inv.lS (t' :=s.toks) I kk hf) HZ hS)))
 | succ k ih=>
  intro i s H hk hi I hf st ha hb hS HZ hR
  refine codeAny_builtin kD ?_
  rw [Around.under_plainId fq _]
  show wpAny _ A'.in1 (pyNext (.ref z) >>=_) _ _ s
  obtain ⟨z1,its,n1,r1,l1,e1⟩:=I.mC ha
  obtain ⟨z2,Oy,n2,r2,l2,e2⟩:=I.mC hb
  have lx:i < ks.length:=by omega
  have ly:i < ys.length:=by omega
  obtain ⟨u,hu,ru⟩:=r1.get (i:=i) (x:=kV ks[i]) (by rw [ir,gE lx];rfl)
  obtain ⟨v,hv,rv⟩:=r2.get (i:=i) (x:=ys[i]) (gE ly)
  obtain ⟨zS0,anx,vs0,anz,dd0⟩:=pe I.bJ hS
  obtain ⟨oS,_,_,eS,_⟩:=id dd0
  refine wpAny_bind (st.item D eS ⟨_,e1,rfl,_,rfl⟩ ⟨_,e2,rfl,_,rfl⟩ (x:=u) (y:=v) (by simpa using hu) (by simpa using hv) fun h' AQ ht kk=> ?_)
  have Nd:∀c∈[z,TI,TO,i1,i2],c≠S:=fun c hc e=>by
   have:=(hf c hc).1
   rw [e,hS] at this
   cases this
  have I2:Inv X pins σ H {s with heap:=h',toks:=s.toks}:=Inv.lS (t' :=s.toks) I kk hf
  obtain ⟨zS,hdS,vs,rel,dd⟩:=pe I2.bJ hS
  have hT:Shared.TypeIs {s with heap:=h',toks:=s.toks} (.ref s.heap.objs.size) "tuple":=⟨_,ht,rfl⟩
  refine wpAny_bind (wpAny_holding ?_)
  refine wpAny_bind (wpAny_tryCatch ?_)
  unfold Builtin.Dict.pairItems
  refine wpAny_bind (wpAny_typeOf hT ?_)
  rw [if_pos (by decide)]
  refine wpAny_bind (wpAny_seqItems ht rfl (wpAny_pure ?_))
  show wpAny _ A'.in1 (holding [u,v] (dictSet S u v)) _ _ _
  refine wpAny_holding ?_
  have hlen:vs.length≤sizeLine:=by rw [← rel.length];exact zS
  refine wpAny_dictSet_pairs (hsz:=hlen) (ku ru) dd fun h2 dd2 sb=> ?_
  have he:∃q,h2.get? S=some q:=let ⟨q,_,_,hq,_⟩:=dd2;⟨q,hq⟩
  have etk:(ks.zip ys).take (i+1)=(ks.zip ys).take i++[(ks[i],ys[i])]:=by
   rw [ae4]
   have:(ks.zip ys)[i]? =some (ks[i],ys[i]):=by rw [List.getElem?_zip_eq_some];exact ⟨gE lx,gE ly⟩
   rw [this]
   rfl
  have O3:b8 [] ((ks.zip ys).take (i+1))=putK (b8 [] ((ks.zip ys).take i)) ks[i] ys[i]:=by rw [etk,tN]
  have hl:(putK (b8 [] ((ks.zip ys).take i)) ks[i] ys[i]).length≤sizeLine:=by
   rw [← O3]
   have h1:=fD ((ks.zip ys).take (i+1)) []
   rw [adZ,amJ] at h1
   exact adF (show (b8 [] ((ks.zip ys).take (i+1))).length≤1000 by omega) (by decide)
  have I3:Inv X pins σ (upd H S (.dK (putK (b8 [] ((ks.zip ys).take i)) ks[i] ys[i]))) {s with heap:=h2,toks:=s.toks+1}:=lW (s:={s with heap:=h',toks:=s.toks}) (t' :=s.toks+1) I2 (by rw [hS];exact True.intro) sb he (va hl hdS (rel.put ks[i] rv) dd2)
  have kS:∀c o,c≠S→h'.get? c=some o→h2.get? c=some o:=fun c o n e=>(sb.2 c n).trans e
  refine wpAny_pure ⟨plainId_quiet fq _,?_⟩
  have nn:∀{c:Addr} {o:HO},H c=some o→c≠S→(upd H S (.dK (putK (b8 [] ((ks.zip ys).take i)) ks[i] ys[i]))) c=some o:=fun {c o} e n=>by rw [ao n];exact e
  refine ih (i+1) _ _ (by omega) (by omega) I3 (fun c hc=> ?_) (AQ.frame kS (Nd z (by simp)) (Nd TI (by simp)) (Nd TO (by simp)) (Nd i1 (by simp)) (Nd i2 (by simp))) (nn ha na) (nn hb nb) (by rw [O3,ah]) (fun c o n e=>nn (HZ c o n e) n) hR
  obtain ⟨f0,f1,f2,f3,f4,f5⟩:=hf c hc
  exact ⟨by rw [ao (Nd c hc)];exact f0,f1,f2,f3,f4,f5⟩
def LB (ta:TA):TE:=fun σ H Q=>ta σ H fun vs H1=>∃(a b:Addr) (ks:List Key) (ys:List V),vs=[.ref a,.ref b]∧H1 a=some (.lst (ks.map kV))∧H1 b=some (.lst ys)∧ks.length≤1000∧
 ∀(l:Addr) (H' :Hp),av H1 H' →H1 l=none→H' l=some (.dK (b8 [] (ks.zip ys)))→Q (.ref l) H'
theorem boot_dict:bootBuiltins "dict"=some (.type "dict"):=by decide+kernel
theorem CP {e1 e2:Expr}{ta:TA}{p pos p' pos' :Pos}(hc:X.calm=true)(hgl:Gl X "dict")(hml:X.mg "dict"=none)(hg:Gl X "zip")(hm:X.mg "zip"=none)(ha:PA X [e1,e2] ta)(hs:starEach [e1,e2] X.env=[(false,eval e1 X.env),(false,eval e2 X.env)]:=by rfl)(FE:starEach [e2] X.env=[(false,eval e2 X.env)]:=by rfl)
  (UY:starEach [(.Call (.Name "zip" p) [e1,e2] [] pos:Expr)] X.env=[(false,eval (.Call (.Name "zip" p) [e1,e2] [] pos) X.env)]:=by rfl):
  PE X (.Call (.Name "dict" p') [.Call (.Name "zip" p) [e1,e2] [] pos] [] pos') (LB ta):=by
 intro pins s σ H Q I h
 refine Call_ (gC I hgl hml boot_dict (PyProof.Rows.callWith_type1 ?_ UY rfl))
 rw [UY]
 show wpAny _ _ (spliced ((false,eval (.Call (.Name "zip" p) [e1,e2] [] pos) X.env)::[])) _ _ s
 refine Calls.spliced_cons ?_
 refine Call_ (gC I hg hm boot_zip (PyProof.Rows.callWith_type1 (cu (ha pos pins s σ H _ I h) fun us s1 ⟨vs,H1,I1,r1,q1⟩=> ?_) (by rw [hs,FE]) (by rw [FE];rfl)))
 obtain ⟨a,b,ks,ys,e,hx,hy,hkl,q⟩:=q1
 subst e
 cases r1 with
 | cons r rr=>
  cases rr with
  | cons r' rr=>
   cases rr
   cases r
   cases r'
   obtain ⟨z1,its,n1,r1,l1,e1⟩:=I1.mC hx
   obtain ⟨z2,Oy,n2,r2,l2,e2⟩:=I1.mC hy
   have lt1:a < s1.heap.objs.size:=Heap.lt_size e1
   have lt2:b < s1.heap.objs.size:=Heap.lt_size e2
   refine call_zip_2 ⟨_,e1,rfl,_,rfl⟩ ⟨_,e2,rfl,_,rfl⟩ fun h' hz iA oZ Oz OA hsz hk=>Calls.spliced_nil ?_
   have I2:Inv X pins σ H1 {s1 with heap:=h',toks:=s1.toks}:=I1.kept (t' :=s1.toks) hk
   have hS:=I2.bJ.fresh (adL h'.objs.size)
   refine oE (s:={s1 with heap:=h' }) (I1.ok.hd hc) hz fun h2 tk R k2 O4 hR=> ?_
   have lt' :mainGlobals < h'.objs.size:=(I2.mod.glob.keeps I2.bk).lt
   have ns:(h'.objs.size==sysModules)=false:=beq_eq_false_iff_ne.mpr (ad7 (ad5 (ane (by decide) lt')))
   have I3:Inv X pins σ (upd H1 h'.objs.size (.dK [])) {s1 with heap:=h2,toks:=tk}:=I2.laid (t' :=tk) k2 (adL _) ⟨aeg _,ns,[],.nil,_,_,_,O4,⟨rfl,rfl,rfl⟩,rfl,fun _ he=>by simp at he,Pairs.nil,amV⟩
   have st:FI h2 (s1.heap.objs.size+4) (s1.heap.objs.size+2) (s1.heap.objs.size+3) s1.heap.objs.size (s1.heap.objs.size+1) a b h'.objs.size 0:=
    ⟨.inl (k2 _ _ hz),k2 _ _ iA,⟨_,_,k2 _ _ oZ⟩,Oz.at fun o e=>k2 _ o e,OA.at fun o e=>k2 _ o e⟩
   have na:a≠h'.objs.size:=aq hx hS
   have nb:b≠h'.objs.size:=aq hy hS
   have LC:=yx hS (.dK [])
   refine LA (A' :=X.A.in1) (H0:=H1) (ks:=ks) (ys:=ys) (I1.ok.hd hc) ?_ na nb hkl (min ks.length ys.length) 0 _ _ (by omega) (aeg _) I3 (fun c' rV => ?_) st (LC _ _ hx) (LC _ _ hy) ah (fun b' o n e=>LC _ _ e) fun s' H' I' ks' Lp =>hR s' ⟨.ref h'.objs.size,H',I',rfl,q _ H' (fun b' o e=>ks' b' o (aq e hS) e) hS Lp⟩
   ·constructor <;> (intro z;simp only [Addr] at*;omega)
   ·have U4:c' =s1.heap.objs.size+4∨c' =s1.heap.objs.size+2∨c' =s1.heap.objs.size+3∨c' =s1.heap.objs.size∨c' =s1.heap.objs.size+1:=by simpa using rV
    have hb:s1.heap.objs.size≤c' :=by
     simp only [Addr] at*
     omega
    have FJ:c' ≠h'.objs.size:=by
     rw [hsz]
     simp only [Addr] at*
     omega
    refine I1.oy hb ?_
    rw [ao FJ]
    exact I1.bJ.fresh hb
end
end Ty
set_option maxHeartbeats 4000000
namespace Ty
open PySem PySem.Spec PyProof.Rows L2
theorem cg.snoc {K:Frag}{H:Hp}{us:List V}{qs:List (Int×Int)}{v:V}{q:Int×Int}(h:cg K H us qs)(n:kA K H v q):cg K H (us++[v]) (qs++[q]):=by
 refine ⟨by simp [h.1],fun i u q' e1 e2=> ?_⟩
 have l:=h.1
 by_cases c:i < us.length
 ·rw [adI c] at e1
  rw [adI (by omega)] at e2
  exact h.2 i u q' e1 e2
 ·rw [adN (by omega)] at e1 e2
  by_cases z:i - us.length=0
  ·rw [z] at e1
   rw [show i - qs.length=0 by omega] at e2
   cases e1
   cases e2
   exact n
  ·rw [ab_ (by simp;omega)] at e1
   cases e1
theorem cg.aS {K:Frag}{H H' :Hp}{us:List V}{qs:List (Int×Int)}(h:cg K H us qs)(s:bC H H'):cg K H' us qs:=⟨h.1,fun i u q e1 e2=>(h.2 i u q e1 e2).aS s⟩
end Ty
set_option maxHeartbeats 4000000
namespace Ty
open PySem PySem.Spec PyProof.Rows L2
variable {X:Cx}
end Ty
set_option maxHeartbeats 4000000
namespace Ty
open PySem PySem.Spec PyProof.Rows L2
section
variable {X:Cx}{pins:List (Addr×Obj)}{σ:L2.St}{H:Hp}{s:Shared}
end
end Ty
set_option maxHeartbeats 4000000
namespace Ty
open PySem PySem.Spec PyProof.Rows L2
section
variable {X:Cx}{o e:Expr}{es:List Expr}{to:TE}{t:TA}{name:Str}{apos eZ:Pos}{T id:String}{r:V→List V→Hp→VK→Prop}
end
end Ty
set_option maxHeartbeats 4000000
namespace Ty
open PySem PySem.Spec PyProof.Rows L2
section
variable {X:Cx}
end
section
variable {D:Addr}{te:TE}{cap:L2.St}{H1:Hp}{Q:VK}
end
end Ty
set_option maxHeartbeats 4000000
namespace Ty
open PySem PySem.Spec PyProof.Rows L2
section
variable {X:Cx}{K:Frag}
end
section
variable {D:Addr}{te:TE}{cap:L2.St}{H1:Hp}{Q:VK}
theorem vn {K:Frag}{a:Addr}{xs:List V}(J:List V→Hp→Prop)(nD:H1 D=none)(hn:xs.length < sizeLine)(hS:∀H,av H1 H→aV K H a xs)(h0:J [] (upd H1 D (.lst [])))
  (he:∀(i:Nat) x ys H (R:VK),xs[i]? =some x→ys.length=i→J ys H→av H1 H→H D=some (.lst ys)→(∀v H6,av H H6→J (ys++[v]) (upd H6 D (.lst (ys++[v])))→R v H6)→te (some x::cap) H R)
  (hd:∀ys H,ys.length=xs.length→J ys H→av H1 H→H D=some (.lst ys)→Q (.ref D) H):
  oC D (d_ 0) kZ te (JJ K a) (none::cap) H1 Q:=by
 refine u9 xs.length (fun i=>(xs[i]?).getD .cA) (fun i ys H=>ys.length=i∧J ys H∧av H1 H) ⟨rfl,h0,fun b o e=>by rw [ao (aq e nD)];exact e⟩ ?_ ?_ ?_ ?_
 ·rintro i ys H hi ⟨_,_,s⟩
  exact ⟨⟨xs,xs[i],hS H s,gE hi⟩,fun x H' y=>⟨y.1,by rw [y.2 xs (hS H s)];rfl⟩⟩
 ·rintro ys H ⟨_,_,s⟩
  exact ⟨xs,hS H s,adL _⟩
 ·rintro i ys H R hi ⟨l,j,s⟩ hD k
  have e:xs[i]? =some xs[i]:=gE hi
  have k' :=he i _ ys H R e l j s hD fun v H6 s6 jv=>k v H6 (s6 _ _ hD) (by omega) ⟨by simp [l],jv,fun b o e=>by rw [ao (aq e nD)];exact s6 _ _ (s _ _ e)⟩
  rw [← (show (xs[i]?).getD .cA=xs[i] by rw [e];rfl)] at k'
  exact k'
 ·rintro ys H ⟨l,j,s⟩ hD
  exact hd ys H l j s hD
end
end Ty
set_option maxHeartbeats 4000000
namespace Ty
theorem pF {α:Type}[DecidableEq α]:∀{l m:List α},l.Nodup→(∀x∈l,x∈m)→l.length≤m.length
 | [],_,_,_=>aeg _
 | x::l,m,h,k=>by
  obtain ⟨h1,h2⟩:=ad8.mp h
  have hx:=k x adG
  have:=pF (l:=l) (m:=m.erase x) h2 fun y hy=>(amW (fun z:y=x=>h1 (by rw [← z];exact hy))).mpr (k y (adE _ hy))
  rw [amu hx] at this
  have p:=amG hx
  show l.length+1≤m.length
  omega
def box (B:Nat):Nat→List (List Int)
 | 0=>[[]]
 | n+1=>(box B n).flatMap fun y=>(aen (B+1)).map fun (a:Nat)=>(a:Int)::y
theorem xa {α:Type}(c:Nat):∀l:List α,(l.map fun _=>c).sum=l.length*c
 | []=>by simp
 | _::l=>by
  rw [ac_,ad3,xa c l,ad4,aev]
  omega
theorem qM (B:Nat):∀n,(box B n).length=(B+1)^n
 | 0=>rfl
 | n+1=>by
  have ih:=qM B n
  unfold box
  rw [List.length_flatMap]
  have:((box B n).map fun y=>((aen (B+1)).map fun (a:Nat)=>(a:Int)::y).length)=(box B n).map fun _=>B+1:=ad2 fun y _=>by rw [Wp,aj_]
  rw [this,xa,ih,aff]
theorem pG (B:Nat):∀n,(box B n).Nodup
 | 0=>by simp [box]
 | n+1=>by
  have ih:=pG B n
  unfold box
  unfold anL at ih ⊢
  rw [List.pairwise_flatMap]
  refine ⟨fun y _=> ?_,ih.imp fun {y1 y2} ne x hx z hz e=> ?_⟩
  ·rw [ai_]
   exact ae7.imp fun {a b} ne e=>ne (by injection e with e _;exact Int.ofNat.inj e)
  ·obtain ⟨a,_,rfl⟩:=abt.mp hx
   obtain ⟨b,_,rfl⟩:=abt.mp hz
   injection e with _ e
   exact ne e
theorem g8 {B:Nat}:∀{n:Nat} {y:List Int},y∈box B n ↔ y.length=n∧∀a∈y,0≤a∧a≤(B:Int)
 | 0,y=>by
  unfold box
  rw [adJ]
  constructor
  ·intro e
   rw [e]
   exact ⟨rfl,fun a h=>nomatch h⟩
  ·intro h
   exact afc.mp h.1
 | n+1,y=>by
  unfold box
  rw [aer]
  constructor
  ·rintro ⟨z,hz,hy⟩
   obtain ⟨a,ha,rfl⟩:=abt.mp hy
   obtain ⟨h1,h2⟩:=(g8 (n:=n)).mp hz
   have:=aed.mp ha
   refine ⟨by simp [h1],fun b hb=> ?_⟩
   rcases adY.mp hb with e | e
   ·rw [e]
    omega
   ·exact h2 b e
  ·rintro ⟨h1,h2⟩
   match y,h1 with
   | a::z,h1=>
    have ha:=h2 a adG
    refine ⟨z,(g8 (n:=n)).mpr ⟨by simpa using h1,fun b hb=>h2 b (adE _ hb)⟩,abt.mpr ⟨a.toNat,aed.mpr (show a.toNat < B+1 by omega),?_⟩⟩
    rw [show ((a.toNat:Nat):Int)=a by omega]
def fP:List Int→List Int→Int
 | a::e,b::y=>a*b+fP e y
 | _,_=>0
theorem tO:∀(e:List Int) {y z:List Int},y.length=z.length→fP e (aeo (fun a b=>a - b) y z)=fP e y - fP e z
 | [],y,z,h=>by simp [fP]
 | a::e,[],[],h=>by simp [fP]
 | a::e,b::y,c::z,h=>by
  have ih:=tO e (y:=y) (z:=z) (by simpa using h)
  rw [amF]
  simp only [fP]
  rw [ih,Int.mul_sub]
  omega
theorem xf {A B:Nat}:∀{e y:List Int},(∀a∈e,a.natAbs≤A)→(∀b∈y,b.natAbs≤B)→(fP e y).natAbs≤e.length*(A*B)
 | [],y,_,_=>by simp [fP]
 | a::e,[],_,_=>by simp [fP]
 | a::e,b::y,h1,h2=>by
  have ih:=xf (e:=e) (y:=y) (fun x hx=>h1 x (adE _ hx)) fun x hx=>h2 x (adE _ hx)
  simp only [fP]
  have m:(a*b).natAbs≤A*B:=by
   rw [aeF]
   exact aep (h1 a adG) (h2 b adG)
  have t:=ae3 (a*b) (fP e y)
  rw [ad4,aev,amX]
  omega
theorem CQ {n A:Nat}{eqs:List (List Int)}(hn:eqs.length < n)(hA:1≤A)(he:∀e∈eqs,e.length=n∧∀a∈e,a.natAbs≤A):∃z:List Int,z.length=n∧(∃a∈z,a≠0)∧(∀a∈z,a.natAbs≤(2*n*A)^eqs.length)∧∀e∈eqs,fP e z=0:=by
 generalize hC:2*n*A=C
 generalize hB:C^eqs.length=B
 have c1:1≤C:=by
  rw [← hC]
  exact aep (show 1≤2*n by omega) hA
 generalize hM:n*(A*B)=M
 have key:¬ ∀y∈box B n,∀z∈box B n,(eqs.map fun e=>fP e y+(M:Int))=(eqs.map fun e=>fP e z+(M:Int))→y=z:=by
  intro inj
  have nd:((box B n).map fun y=>eqs.map fun e=>fP e y+(M:Int)).Nodup:=by
   unfold anL
   rw [ai_]
   refine List.Pairwise.imp_of_mem (fun {y z} hy hz ne e=>ne (inj y hy z hz e)) (pG B n)
  have le:=pF nd (m:=box (2*M) eqs.length) fun x hx=>by
   obtain ⟨y,hy,rfl⟩:=abt.mp hx
   obtain ⟨ly,Ww⟩:=g8.mp hy
   refine g8.mpr ⟨by simp,fun a ha=> ?_⟩
   obtain ⟨e,U5,rfl⟩:=abt.mp ha
   have b1:=xf (A:=A) (B:=B) (he e U5).2 (y:=y) fun b hb=>by
    have:=Ww b hb
    omega
   rw [(he e U5).1,hM] at b1
   omega
  rw [Wp,qM,qM] at le
  have e1:2*M+1≤C*(B+1):=by
   have e3:2*M=C*B:=by rw [← hM, ← hC, ← Nat.mul_assoc, ← Nat.mul_assoc]
   rw [e3,Nat.mul_add]
   omega
  have e2:(2*M+1)^eqs.length≤B*(B+1)^eqs.length:=by
   have:=afp e1 eqs.length
   rw [Nat.mul_pow,hB] at this
   exact this
  have e4:(B+1)^(eqs.length+1)≤(B+1)^n:=adV (by omega) hn
  have e5:B*(B+1)^eqs.length < (B+1)^(eqs.length+1):=by
   rw [aff,afs ((B+1)^eqs.length)]
   exact Nat.mul_lt_mul_of_pos_right (aef B) (Nat.pow_pos (by omega))
  omega
 obtain ⟨y,k1⟩:=amY.mp key
 obtain ⟨hy,k2⟩:=aku.mp k1
 obtain ⟨z,k3⟩:=amY.mp k2
 obtain ⟨hz,k4⟩:=aku.mp k3
 obtain ⟨ee,ne⟩:=aku.mp k4
 obtain ⟨ly,Ww⟩:=g8.mp hy
 obtain ⟨lz,bz⟩:=g8.mp hz
 have hl:y.length=z.length:=by omega
 refine ⟨aeo (fun a b=>a - b) y z,by rw [am1];omega,?_,?_,fun e U5=> ?_⟩
 ·apply aej
  intro h
  refine ne (List.ext_getElem hl fun i h1 h2=> ?_)
  have h' :∀a∈aeo (fun a b=>a - b) y z,a=0:=fun a ha=>aej fun q=>h ⟨a,ha,q⟩
  have m:y[i] - z[i]∈aeo (fun a b=>a - b) y z:=by
   refine aa_ (i:=i) ?_
   rw [aeL,gE h1,gE h2]
  have:=h' _ m
  omega
 ·intro a ha
  obtain ⟨i,ei⟩:=adD ha
  rw [aeL] at ei
  have hi:i < y.length:=by
   apply aej
   intro q
   rw [ab_ (by omega)] at ei
   cases ei
  rw [gE hi,gE (show i < z.length by omega)] at ei
  have ea:y[i] - z[i]=a:=adX ei
  have q1:=Ww _ (aeq hi)
  have q2:=bz _ (aeq (show i < z.length by omega))
  omega
 ·rw [tO e hl]
  obtain ⟨i,ei⟩:=adD U5
  have e1:=congrArg (fun l:List Int=>l[i]?) ee
  simp only [ir,ei,aeM,Option.some.injEq] at e1
  omega
def col (l:List Int)(j:Nat):Rat:=((l.getD j 0:Int):Rat)
inductive cB (A:List (List Int)):(Nat→Rat)→Prop
 | zero:cB A (fun _=>0)
 | put {f:Nat→Rat} (c:Rat) {a:List Int} (h:a∈A) (hf:cB A f):cB A (fun j=>f j+c*col a j)
theorem cB.congr {A:List (List Int)}{f g:Nat→Rat}(h:cB A f)(e:∀j,f j=g j):cB A g:=(funext e:f=g)▸h
theorem cB.add {A:List (List Int)}{f g:Nat→Rat}(hf:cB A f)(hg:cB A g):cB A (fun j=>f j+g j):=by
 induction hg with
 | zero=>exact hf.congr fun j=>by grind
 | put c h _ ih=>exact (cB.put c h ih).congr fun j=>by grind
theorem cB.mul {A:List (List Int)}{f:Nat→Rat}(k:Rat)(hf:cB A f):cB A (fun j=>k*f j):=by
 induction hf with
 | zero=>exact cB.zero.congr fun j=>by grind
 | put c h _ ih=>exact (cB.put (k*c) h ih).congr fun j=>by grind
theorem cB.mem {A:List (List Int)}{a:List Int}(h:a∈A):cB A (col a):=(cB.put 1 h cB.zero).congr fun j=>by grind
theorem cB.trans {A B:List (List Int)}{f:Nat→Rat}(hf:cB A f)(h:∀a∈A,cB B (col a)):cB B f:=by
 induction hf with
 | zero=>exact cB.zero
 | put c ha _ ih=>exact ih.add ((h _ ha).mul c)
theorem cB.mono {A B:List (List Int)}{f:Nat→Rat}(hf:cB A f)(h:∀a∈A,a∈B):cB B f:=hf.trans fun a ha=>cB.mem (h a ha)
theorem cB.first {l:List Int}{A:List (List Int)}{f:Nat→Rat}(hf:cB (l::A) f):∃a:Rat,cB A (fun j=>f j - a*col l j):=by
 induction hf with
 | zero=>exact ⟨0,cB.zero.congr fun j=>by grind⟩
 | put c h _ ih=>
  obtain ⟨a,ha⟩:=ih
  rcases adY.mp h with e | e
  ·subst e
   exact ⟨a+c,ha.congr fun j=>by grind⟩
  ·exact ⟨a,(cB.put c e ha).congr fun j=>by grind⟩
theorem cB.last {l:List Int}{A:List (List Int)}{f:Nat→Rat}(hf:cB (A++[l]) f):∃a:Rat,cB A (fun j=>f j - a*col l j):=cB.first (hf.mono fun a ha=>by
 rcases adQ.mp ha with z | z
 ·exact adE _ z
 ·rw [adJ.mp z]
  exact adG)
theorem cB.van {A:List (List Int)}{f:Nat→Rat}{c:Nat}(hf:cB A f)(h:∀a∈A,col a c=0):f c=0:=by
 induction hf with
 | zero=>rfl
 | put k ha _ ih=>
  dsimp only
  rw [ih,h _ ha]
  grind
structure AA (nd:List (Nat×List Int)):Prop where
 nn:(nd.map (·.1)).Nodup
 here:∀x∈nd,x.2.getD x.1 0≠0
 off:∀x∈nd,∀y∈nd,x.1≠y.1→x.2.getD y.1 0=0
theorem AA.zero:∀{nd:List (Nat×List Int)} {f:Nat→Rat},AA nd→cB (nd.map (·.2)) f→(∀x∈nd,f x.1=0)→∀j,f j=0
 | [],f,_,hf,_=>fun j=>by
  have:∀{g:Nat→Rat},cB [] g→g j=0:=fun {g} h=>h.van fun a ha=>nomatch ha
  exact this hf
 | x::r,f,P,hf,hz=>by
  obtain ⟨a,ha⟩:=cB.first hf
  have nn:=ad8.mp P.nn
  have v:f x.1 - a*col x.2 x.1=0:=ha.van (c:=x.1) fun b hb=>by
   obtain ⟨y,hy,rfl⟩:=abt.mp hb
   unfold col
   rw [P.off y (adE _ hy) x adG (fun z=>nn.1 (by show x.1∈_;rw [← z];exact abt.mpr ⟨y,hy,rfl⟩))]
   rfl
  rw [hz x adG] at v
  have FH:col x.2 x.1≠0:=cw (P.here x adG)
  have a0:a=0:=by grind
  subst a0
  have P' :AA r:=⟨nn.2,fun y hy=>P.here y (adE _ hy),fun y hy z hz=>P.off y (adE _ hy) z (adE _ hz)⟩
  exact AA.zero P' (ha.congr (g:=f) fun j=>by grind) fun y hy=>hz y (adE _ hy)
theorem AA.one {nd:List (Nat×List Int)}{f:Nat→Rat}(P:AA nd)(hf:cB (nd.map (·.2)) f){x:Nat×List Int}(hx:x∈nd)(hz:∀y∈nd,y.1≠x.1→f y.1=0):∃a:Rat,∀j,f j=a*col x.2 j:=by
 have FH:col x.2 x.1≠0:=cw (P.here x hx)
 refine ⟨f x.1 / col x.2 x.1,fun j=> ?_⟩
 have g:cB (nd.map (·.2)) fun j=>f j+ -(f x.1 / col x.2 x.1)*col x.2 j:=cB.put _ (abt.mpr ⟨x,hx,rfl⟩) hf
 have:=P.zero g (fun y hy=>by
  by_cases c:y.1=x.1
  ·rw [c]
   grind
  ·rw [hz y hy c]
   have:col x.2 y.1=0:=by
    unfold col
    rw [P.off x hx y hy (ad7 c)]
    rfl
   rw [this]
   grind) j
 grind
def ip:List Int→List (List Int)→Nat→Int
 | z::zs,a::A,j=>z*a.getD j 0+ip zs A j
 | _,_,_=>0
theorem jd:∀(zs:List Int) (A:List (List Int)),cB A (fun j=>((ip zs A j:Int):Rat))
 | [],A=>cB.zero.congr fun j=>by simp [ip]
 | _::_,[]=>cB.zero.congr fun j=>by simp [ip]
 | z::zs,a::A=>by
  have ih:=(jd zs A).mono (B:=a::A) fun b hb=>adE _ hb
  refine (cB.put (z:Rat) (adG) ih).congr fun j=> ?_
  simp only [ip,col]
  push_cast
  grind
theorem qN (c:Nat):∀(zs:List Int) (A:List (List Int)),fP (A.map fun a=>a.getD c 0) zs=ip zs A c
 | [],A=>by cases A <;> simp [ip,fP]
 | _::_,[]=>by simp [ip,fP]
 | z::zs,a::A=>by
  simp only [ac_,fP,ip]
  rw [qN c zs A,aeP]
theorem vo {Z E:Nat}(j:Nat):∀{zs:List Int} {A:List (List Int)},(∀z∈zs,z.natAbs≤Z)→(∀a∈A,(a.getD j 0).natAbs≤E)→(ip zs A j).natAbs≤A.length*(Z*E)
 | [],A,_,_=>by simp [ip]
 | _::_,[],_,_=>by simp [ip]
 | z::zs,a::A,h1,h2=>by
  have ih:=vo j (zs:=zs) (A:=A) (fun x hx=>h1 x (adE _ hx)) fun x hx=>h2 x (adE _ hx)
  simp only [ip]
  have m:(z*a.getD j 0).natAbs≤Z*E:=by
   rw [aeF]
   exact aep (h1 z adG) (h2 a adG)
  have t:=ae3 (z*a.getD j 0) (ip zs A j)
  rw [ad4,aev,amX]
  omega
theorem mY (j:Nat):∀{zs:List Int} {A:List (List Int)} (z:Int) (a:List Int),zs.length=A.length→ip (zs++[z]) (A++[a]) j=ip zs A j+z*a.getD j 0
 | [],[],z,a,_=>by simp [ip]
 | y::zs,b::A,z,a,h=>by
  have ih:=mY j (zs:=zs) (A:=A) z a (by simpa using h)
  simp only [ae5,ip]
  rw [ih]
  omega
def O5 (l:List Int):Prop:=∀d:Int,(∀j,d ∣ l.getD j 0)→d.natAbs=1
theorem CS {l:List Int}(p:O5 l){v:Nat→Int}{a:Rat}(ha:a≠0)(h:∀j,((v j:Int):Rat)=a*col l j)(j:Nat):(l.getD j 0).natAbs≤(v j).natAbs:=by
 have e:∀j,v j*(a.den:Int)=a.num*l.getD j 0:=fun j=>by
  have h1:=h j
  have h2:a=(a.num:Rat) / ((a.den:Int):Rat):=by
   rw [← anf]
   exact (am5 a).symm
  have hd:((a.den:Int):Rat)≠0:=cw (by have:=a.den_pos;omega)
  rw [h2] at h1
  unfold col at h1
  have h3:((v j*(a.den:Int):Int):Rat)=((a.num*l.getD j 0:Int):Rat):=by
   rw [aes,aes]
   generalize ((a.den:Int):Rat)=D at hd h1
   grind
  exact afa.mp h3
 have dv:∀j,(a.den:Int) ∣ l.getD j 0:=fun j=>by
  have h1:a.den ∣ a.num.natAbs*(l.getD j 0).natAbs:=by
   rw [← aeF, ← e j,aeF]
   exact ⟨(v j).natAbs,by rw [afs];rfl⟩
  have h2:=Nat.Coprime.dvd_of_dvd_mul_left (Nat.Coprime.symm a.reduced) h1
  exact aeZ.mp (by simpa using h2)
 have d1:a.den=1:=by simpa using p _ dv
 have ej:=e j
 rw [d1] at ej
 have n0:a.num≠0:=fun z=>ha (Rat.num_eq_zero.mp z)
 have:v j=a.num*l.getD j 0:=by simpa using ej
 rw [this,aeF]
 exact Nat.le_mul_of_pos_left _ (by omega)
theorem CT {l:List Int}(p:O5 l):¬ ∀j,l.getD j 0=0:=fun h=>by
 have:=p 0 fun j=>by rw [h j];exact Int.dvd_refl 0
 simp at this
structure AB (os:List (List Int))(nd:List (Nat×List Int))(lv ps qs:List (List Int)):Prop where
 po:∀p∈ps,p∈os
 qo:∀q∈qs,q∈os
 lp:ps.length=nd.length
 lq:qs.length=lv.length
 s1:∀x∈nd,cB ps (col x.2)
 s2:∀p∈ps,cB (nd.map (·.2)) (col p)
 s3:∀(i:Nat) (l q:List Int),lv[i]? =some l→qs[i]? =some q→cB (ps++[q]) (col l)∧cB (nd.map (·.2)++[l]) (col q)
 ind:∀zs:List Int,zs.length=ps.length→(∀j,ip zs ps j=0)→∀a∈zs,a=0
theorem AB.start (os:List (List Int)):AB os [] os [] os:=by
 refine ⟨by simp,fun q hq=>hq,rfl,rfl,by simp,by simp,fun i l q e1 e2=> ?_,fun zs h _ a ha=> ?_⟩
 ·rw [e1] at e2
  cases e2
  exact ⟨cB.mem (by simp),cB.mem (by simp)⟩
 ·rw [afc.mp h] at ha
  cases ha
theorem AA.cols {nd:List (Nat×List Int)}(P:AA nd){l:List Int}(hl:cB (nd.map (·.2)) (col l))(hz:∀x∈nd,l.getD x.1 0=0):∀j,l.getD j 0=0:=fun j=>by
 have:=P.zero hl (fun x hx=>by unfold col;rw [hz x hx];rfl) j
 unfold col at this
 exact afa.mp (this.trans (by rfl))
theorem tQ {A:List (List Int)}{b c:Nat}(hA:∀a∈A,∀j,(a.getD j 0).natAbs≤2^b):(A.map fun a=>a.getD c 0).length=A.length∧∀x∈A.map (fun a=>a.getD c 0),x.natAbs≤2^b:=by
 refine ⟨by simp,fun x hx=> ?_⟩
 obtain ⟨a,ha,rfl⟩:=abt.mp hx
 exact hA a ha c
theorem AB.left {os:List (List Int)}{nd:List (Nat×List Int)}{lv ps qs:List (List Int)}(O:AB os nd lv ps qs)(P:AA nd){i b:Nat}{l:List Int}(e:lv[i]? =some l)(hz:∀x∈nd,l.getD x.1 0=0)(hb:∀o∈os,∀j,(o.getD j 0).natAbs≤2^b)(pr:O5 l)(j:Nat):(l.getD j 0).natAbs≤(nd.length+1)*((2*(nd.length+1)*2^b)^nd.length*2^b):=by
 have hi:i < qs.length:=by
  rw [O.lq]
  exact (be.mp e).1
 obtain ⟨q,eq⟩:∃q,qs[i]? =some q:=⟨_,gE hi⟩
 obtain ⟨t1,t2⟩:=O.s3 i l q e eq
 have hA:∀a∈ps++[q],∀j,(a.getD j 0).natAbs≤2^b:=fun a ha=>by
  rcases adQ.mp ha with z | z
  ·exact hb a (O.po a z)
  ·rw [adJ.mp z]
   exact hb q (O.qo q (aa_ eq))
 have lA:(ps++[q]).length=nd.length+1:=by simp [O.lp]
 obtain ⟨zs,lz,nz,bz,sz⟩:=CQ (n:=nd.length+1) (A:=2^b) (eqs:=nd.map fun x=>(ps++[q]).map fun a=>a.getD x.1 0) (by simp) (aeC) fun y hy=>by
  obtain ⟨x,hx,rfl⟩:=abt.mp hy
  rw [← lA]
  exact tQ hA
 rw [Wp] at bz
 have v0:∀x∈nd,ip zs (ps++[q]) x.1=0:=fun x hx=>by
  rw [← qN]
  exact sz _ (abt.mpr ⟨x,hx,rfl⟩)
 have hv:cB (nd.map (·.2)++[l]) fun j=>((ip zs (ps++[q]) j:Int):Rat):=(jd zs (ps++[q])).trans fun a ha=>by
  rcases adQ.mp ha with z | z
  ·exact (O.s2 a z).mono fun y hy=>ad_ _ hy
  ·rw [adJ.mp z]
   exact t2
 obtain ⟨a,ha⟩:=cB.last hv
 have ez:=P.zero ha fun x hx=>by
  rw [v0 x hx]
  unfold col
  rw [hz x hx]
  show ((0:Int):Rat) - a*((0:Int):Rat)=0
  grind
 by_cases c:a=0
 ·exfalso
  subst c
  have vz:∀j,ip zs (ps++[q]) j=0:=fun j=>by
   have:=ez j
   have h:((ip zs (ps++[q]) j:Int):Rat)=((0:Int):Rat):=by grind
   exact afa.mp h
  obtain ⟨qO,z,rfl⟩:∃qO z,zs=qO ++[z]:=by
   rcases amP zs with h | ⟨qO,z,h⟩
   ·rw [h] at lz
    simp at lz
   ·exact ⟨qO,z,by rw [h,amQ]⟩
  have O6 :qO.length=ps.length:=by
   rw [O.lp]
   simpa using lz
  have sp:∀j,ip qO ps j+z*q.getD j 0=0:=fun j=>by
   rw [← mY j z q O6]
   exact vz j
  by_cases z0:z=0
  ·subst z0
   obtain ⟨x,hx,nx⟩:=nz
   have all:=O.ind qO O6 fun j=>by simpa using sp j
   rcases adQ.mp hx with h | h
   ·exact nx (all x h)
   ·exact nx (adJ.mp h)
  ·have hq:cB ps (col q):=((jd qO ps).mul (-1 / (z:Rat))).congr fun j=>by
    have s' :((ip qO ps j+z*q.getD j 0:Int):Rat)=((0:Int):Rat):=by rw [sp j]
    rw [anD,aes] at s'
    have zr:(z:Rat)≠0:=cw z0
    unfold col
    grind
   have hl:cB ps (col l):=t1.trans fun a ha=>by
    rcases adQ.mp ha with h | h
    ·exact cB.mem h
    ·rw [adJ.mp h]
     exact hq
   exact CT pr (P.cols (hl.trans O.s2) hz)
 ·have le:=CS pr c (v:=fun j=>ip zs (ps++[q]) j) (fun j=>by have:=ez j;grind) j
  refine adF le ?_
  have:=vo j (zs:=zs) (A:=ps++[q]) bz fun a ha=>hA a ha j
  rw [lA] at this
  exact this
theorem AB.need {os:List (List Int)}{nd:List (Nat×List Int)}{lv ps qs:List (List Int)}(O:AB os nd lv ps qs)(P:AA nd){b:Nat}{x:Nat×List Int}(hx:x∈nd)(hb:∀o∈os,∀j,(o.getD j 0).natAbs≤2^b)(pr:O5 x.2)(j:Nat):(x.2.getD j 0).natAbs≤(nd.length+1)*((2*(nd.length+1)*2^b)^nd.length*2^b):=by
 have hA:∀a∈ps,∀j,(a.getD j 0).natAbs≤2^b:=fun a ha=>hb a (O.po a ha)
 have lf:(nd.filter fun y=>decide (y.1≠x.1)).length < nd.length:=by
  have h1:(nd.filter fun y=>decide (y.1≠x.1)).length≤nd.length:=ae0 ..
  rcases Nat.lt_or_eq_of_le h1 with h | h
  ·exact h
  ·have:=List.length_filter_eq_length_iff.mp h x hx
   simp at this
 obtain ⟨zs,lz,nz,bz,sz⟩:=CQ (n:=nd.length) (A:=2^b) (eqs:=(nd.filter fun y=>decide (y.1≠x.1)).map fun y=>ps.map fun a=>a.getD y.1 0) (by rw [Wp];exact lf) (aeC) fun y hy=>by
  obtain ⟨z,hz,rfl⟩:=abt.mp hy
  rw [← O.lp]
  exact tQ hA
 rw [Wp] at bz
 have v0:∀y∈nd,y.1≠x.1→ip zs ps y.1=0:=fun y hy ne=>by
  rw [← qN]
  exact sz _ (abt.mpr ⟨y,aez.mpr ⟨hy,by simpa using ne⟩,rfl⟩)
 have hv:cB (nd.map (·.2)) fun j=>((ip zs ps j:Int):Rat):=(jd zs ps).trans O.s2
 obtain ⟨a,ha⟩:=P.one hv hx fun y hy ne=>by
  rw [v0 y hy ne]
  rfl
 have c:a≠0:=fun z=>by
  subst z
  obtain ⟨y,hy,ny⟩:=nz
  refine ny (O.ind zs (by rw [lz,O.lp]) (fun j=> ?_) y hy)
  have h:((ip zs ps j:Int):Rat)=((0:Int):Rat):=by
   rw [ha j]
   show 0*col x.2 j=0
   grind
  exact afa.mp h
 have le:=CS pr c (v:=fun j=>ip zs ps j) ha j
 refine adF le ?_
 have:=vo j (zs:=zs) (A:=ps) bz fun a ha=>hA a ha j
 rw [O.lp] at this
 refine adF this (aep (by omega) (aep ?_ (adL _)))
 refine adF (afp (ad0 _ (show 2*nd.length≤2*(nd.length+1) by omega)) _) ?_
 exact adV (Nat.mul_pos (by omega) (anE _)) (by omega)
theorem LD {s b:Nat}(hs:s+1≤1024):(s+1)*((2*(s+1)*2^b)^s*2^b)≤2^((s+1)*(b+11)):=by
 have h1:2*(s+1)*2^b≤2^(b+11):=by
  have:2*(s+1)≤2^11:=by
   show 2*(s+1)≤2048
   omega
  rw [afm,afs (2^b)]
  exact ad0 _ this
 have h2:(2*(s+1)*2^b)^s≤2^((b+11)*s):=by
  rw [Nat.pow_mul]
  exact afp h1 s
 have h3:s+1≤2^11:=by
  show s+1≤2048
  omega
 have e:(s+1)*(b+11)=11+((b+11)*s+b):=by
  rw [aev,amX,afs s]
  omega
 rw [e,afm,afm]
 exact aep h3 (ad0 _ h2)
theorem xg {B:List (List Int)}{line lead new:List Int}{c:Nat}(k:oj line lead new c)(h1:cB B (col line))(h2:cB B (col lead)):cB B (col new):=by
 obtain ⟨s,t,u,hs,ht,e⟩:=k.om
 have zs:=cw hs
 refine ((h1.mul ((t:Rat) / s)).add (h2.mul (-(u:Rat) / s))).congr fun j=> ?_
 have ej:((s*new.getD j 0:Int):Rat)=((t*line.getD j 0 - u*lead.getD j 0:Int):Rat):=by rw [e j]
 rw [aes,anF,aes,aes] at ej
 unfold col
 grind
theorem xh {B:List (List Int)}{line lead new:List Int}{c:Nat}(k:oj line lead new c)(h1:cB B (col new))(h2:cB B (col lead)):cB B (col line):=by
 obtain ⟨s,t,u,hs,ht,e⟩:=k.om
 have zt:=cw ht
 refine ((h1.mul ((s:Rat) / t)).add (h2.mul ((u:Rat) / t))).congr fun j=> ?_
 have ej:((s*new.getD j 0:Int):Rat)=((t*line.getD j 0 - u*lead.getD j 0:Int):Rat):=by rw [e j]
 rw [aes,anF,aes,aes] at ej
 unfold col
 grind
theorem AB.step {os:List (List Int)}{nd h_ :List (Nat×List Int)}{lv vp ps qs:List (List Int)}{lead:List Int}{j c:Nat}(O:AB os nd lv ps qs)(P:AA nd)(ej:lv[j]? =some lead)(hz:∀x∈nd,lead.getD x.1 0=0)(hc:lead.getD c 0≠0)
  (lL:vp.length=(lv.eraseIdx j).length) (ML:∀(i:Nat) (x:List Int),(lv.eraseIdx j)[i]? =some x→∃y,vp[i]? =some y∧oj x lead y c) (lN:h_.length=nd.length) (MN:∀(i:Nat) (x:List Int),(nd.map (·.2))[i]? =some x→∃y,(h_.map (·.2))[i]? =some y∧oj x lead y c):∃Wx Nf,AB os (h_ ++[(c,lead)]) vp Wx Nf :=by
 have hj:j < lv.length:=(be.mp ej).1
 obtain ⟨q,eq⟩:∃q,qs[j]? =some q:=⟨_,gE (by rw [O.lq];exact hj)⟩
 obtain ⟨t1,t2⟩:=O.s3 j lead q ej eq
 have ml:lead∈(h_ ++[(c,lead)]).map (·.2):=by simp
 have old:∀x∈nd.map (·.2),cB ((h_ ++[(c,lead)]).map (·.2)) (col x):=fun x hx=>by
  obtain ⟨i,ei⟩:=adD hx
  obtain ⟨y,ey,k⟩:=MN i x ei
  refine xh k (cB.mem ?_) (cB.mem ml)
  rw [adR]
  exact ad_ _ (aa_ ey)
 have Wy:∀y∈h_.map (·.2),∃x∈nd.map (·.2),oj x lead y c:=fun y hy=>by
  obtain ⟨i,ei⟩:=adD hy
  have hi:=(be.mp ei).1
  rw [Wp] at hi
  obtain ⟨x,ex⟩:∃x,(nd.map (·.2))[i]? =some x:=⟨_,gE (by rw [Wp];omega)⟩
  obtain ⟨y',AD,k⟩:=MN i x ex
  rw [ei] at AD
  cases AD
  exact ⟨x,aa_ ex,k⟩
 have up:∀{f:Nat→Rat},cB ps f→cB (ps++[q]) f:=fun h=>h.mono fun a ha=>ad_ _ ha
 refine ⟨ps++[q],qs.eraseIdx j,fun p hp=> ?_,fun p hp=>O.qo p (aeT hp),by simp [O.lp,lN],?_,fun x hx=> ?_,fun p hp=> ?_,fun i l' q' e1 e2=> ?_,fun zs lz hzs a ha=> ?_⟩
 ·rcases adQ.mp hp with z | z
  ·exact O.po p z
  ·rw [adJ.mp z]
   exact O.qo q (aa_ eq)
 ·rw [lL,aeR,aeR,O.lq]
 ·rcases adQ.mp hx with z | z
  ·obtain ⟨y,hy,k⟩:=Wy x.2 (abt.mpr ⟨x,z,rfl⟩)
   obtain ⟨x0,U6,rfl⟩:=abt.mp hy
   exact xg k (up (O.s1 x0 U6)) t1
  ·rw [adJ.mp z]
   exact t1
 ·rcases adQ.mp hp with z | z
  ·exact (O.s2 p z).trans old
  ·rw [adJ.mp z]
   refine t2.trans fun a ha=> ?_
   rcases adQ.mp ha with h | h
   ·exact old a h
   ·rw [adJ.mp h]
    exact cB.mem ml
 ·have hi:=(be.mp e1).1
  obtain ⟨x,ex⟩:∃x,(lv.eraseIdx j)[i]? =some x:=⟨_,gE (by omega)⟩
  obtain ⟨y',AD,k⟩:=ML i x ex
  rw [e1] at AD
  cases AD
  obtain ⟨i',f1,f2⟩:∃i',lv[i']? =some x∧qs[i']? =some q' :=by
   rw [aeW] at ex e2
   by_cases h:i < j
   ·rw [if_pos h] at ex e2
    exact ⟨_,ex,e2⟩
   ·rw [if_neg h] at ex e2
    exact ⟨_,ex,e2⟩
  obtain ⟨u1,u2⟩:=O.s3 i' x q' f1 f2
  constructor
  ·refine xg k (u1.mono fun a ha=> ?_) (t1.mono fun a ha=>ad_ _ ha)
   rcases adQ.mp ha with h | h
   ·exact ad_ _ (ad_ _ h)
   ·exact ad6 _ h
  ·refine u2.trans fun a ha=> ?_
   rcases adQ.mp ha with h | h
   ·exact (old a h).mono fun b hb=>ad_ _ hb
   ·rw [adJ.mp h]
    exact xh k (cB.mem (by simp)) (cB.mem (ad_ _ ml))
 ·obtain ⟨qO,z,rfl⟩:∃qO z,zs=qO ++[z]:=by
   rcases amP zs with h | ⟨qO,z,h⟩
   ·rw [h] at lz
    simp at lz
   ·exact ⟨qO,z,by rw [h,amQ]⟩
  have O6 :qO.length=ps.length:=by simpa using lz
  have sp:∀j,ip qO ps j+z*q.getD j 0=0:=fun j=>by
   rw [← mY j z q O6]
   exact hzs j
  have z0:z=0:=by
   apply aej
   intro z0
   have hq:cB ps (col q):=((jd qO ps).mul (-1 / (z:Rat))).congr fun j=>by
    have s' :((ip qO ps j+z*q.getD j 0:Int):Rat)=((0:Int):Rat):=by rw [sp j]
    rw [anD,aes] at s'
    have zr:(z:Rat)≠0:=cw z0
    unfold col
    grind
   have hl:cB ps (col lead):=t1.trans fun a ha=>by
    rcases adQ.mp ha with h | h
    ·exact cB.mem h
    ·rw [adJ.mp h]
     exact hq
   exact hc (P.cols (hl.trans O.s2) hz c)
  rcases adQ.mp ha with h | h
  ·exact O.ind qO O6 (fun j=>by have:=sp j;rw [z0] at this;simpa using this) a h
  ·rw [adJ.mp h]
   exact z0
end Ty
set_option maxHeartbeats 4000000
namespace T_k46
open PySem PySem.Spec PyProof.Rows L2 Ty
open Builtin.Int (intBits)
seal L2.PE L2.PS L2.PSs L2.PA
theorem sq {N P:List Str}{sc:Scope}(a:sc.kind=.function:=by exact rfl)(b:sc.isCoroutine=false:=by exact rfl)(c:sc.isGenerator=false:=by exact rfl)(d:N.Nodup:=by decide+kernel)(e:N.take P.length=P:=by exact rfl)(f:∀x∈P,sc.names.lookup x=some .local∨sc.names.lookup x=some .cell:=by decide+kernel)(g:∀y∈sc.names,y.2≠.free:=by decide+kernel):aG N P sc:=⟨a,b,c,d,e,f,g⟩
theorem pY (P:Program)(w:World){X:Cx}:Passes (a_ P w) X.wC E0:=sS a_.sT
theorem pX {P:Program}{w:World}{X:Cx}:Passes (a_ P w) X.wC E0:=sS a_.sT
theorem _root_.L2.cv.mo {j k:Nat}{A:Around}(r:L2.cv k A)(h:j≤k:=by decide):L2.cv j A:=r.mono h
theorem aR {X:Cx}{a:Expr}{ta:TE}{i j p1 p2}(h:PE X a ta):PE X (.Subscript a (.Constant (.int i) j p1) p2) (M1 (G_ X.K) ta (tC (.int i))):=aU mz h ag (fun _ _=>rfl)
theorem gN {X:Cx}{a:Expr}{ta:TE}{i j p1 p2}(h:PE X a ta):PE X (.Subscript a (.Constant (.int i) j p1) p2) (M1 (GZ X.K) ta (tC (.int i))):=aU aK h ag (fun _ _=>rfl)
theorem _root_.L2.oi.yz {K:Frag}{x qual:Str}{st:Stmt}{f:Addr}{fd:FuncData}{ps:List Str}(F:L2.oi K x qual st f fd)
 (h:∀(kV doc pm:Value) (an:Option Addr) (bD ct:Value) (us:List Value),us.length=ps.length→bindArgs (fnOf x qual (aA st) (aw st) (af st) .none kV doc pm an bD ct) ⟨us,[]⟩=pure (ps.zip us):=by first | exact (fun _ _ _ _ _ _ us hl=>match us,hl with | [_],_=>rfl) | exact (fun _ _ _ _ _ _ us hl=>match us,hl with | [_,_],_=>rfl) | exact (fun _ _ _ _ _ _ us hl=>match us,hl with | [_,_,_],_=>rfl) | exact (fun _ _ _ _ _ _ us hl=>match us,hl with | [_,_,_,_],_=>rfl) | exact (fun _ _ _ _ _ _ us hl=>match us,hl with | [_,_,_,_,_],_=>rfl)):Binds K fd ps []:=F.binds h
theorem ft {K:Frag}{mg:Str→Option Value}{h:Heap}{x:Str}{st:Stmt}{ps:List Str}{f:Addr}{oc:Value}{od an:Option Addr}{og:Array (Option Value)}{kV doc pm bD ct:Value}(X:K.In h)(G:h.Ns mainGlobals mg)(l:K.lookup f=some ⟨oc,od,.func (fnOf x x (aA st) (aw st) (af st) .none kV doc pm an bD ct),og⟩)(c:codeIn K bD x=true)(k:keepIn K (.ref f)=true)(a:nsIn K mainGlobals x=some (some (.ref f)))
 (b:∀(kV doc pm:Value) (an:Option Addr) (bD ct:Value) (us:List Value),us.length=ps.length→bindArgs (fnOf x x (aA st) (aw st) (af st) .none kV doc pm an bD ct) ⟨us,[]⟩=pure (ps.zip us):=by first | exact (fun _ _ _ _ _ _ us hl=>match us,hl with | [_],_=>rfl) | exact (fun _ _ _ _ _ _ us hl=>match us,hl with | [_,_],_=>rfl) | exact (fun _ _ _ _ _ _ us hl=>match us,hl with | [_,_,_],_=>rfl) | exact (fun _ _ _ _ _ _ us hl=>match us,hl with | [_,_,_,_],_=>rfl) | exact (fun _ _ _ _ _ _ us hl=>match us,hl with | [_,_,_,_,_],_=>rfl) | exact (fun _ _ _ _ _ _ us hl=>match us,hl with | [_,_,_,_,_,_],_=>rfl) | exact (fun _ _ _ _ _ _ us hl=>match us,hl with | [_,_,_,_,_,_,_],_=>rfl)):Def K mg x st ps:=Def.of (cQ l c k) ((cQ l c k).binds b) (mg_of X G a)
def top (i:Nat):Stmt:=PySem.Challenge.pw_trussyard_k46_whole_the_only_forces.main.body.getD i (.Pass ⟨0,0,0,0⟩)
abbrev vq:Stmt:=top 14
abbrev tR:Stmt:=top 15
abbrev yA:Stmt:=top 16
abbrev yB:Stmt:=top 19
abbrev vt:Stmt:=top 20
abbrev yC:Stmt:=top 22
abbrev yD:Stmt:=top 23
abbrev yE:Stmt:=top 24
abbrev yF:Stmt:=top 25
abbrev yG:Stmt:=top 26
abbrev yH:Stmt:=top 27
abbrev yI:Stmt:=top 29
abbrev cj:Stmt:=top 30
abbrev cN:Stmt:=top 31
abbrev yJ:Stmt:=top 32
abbrev yK:Stmt:=top 33
abbrev yL:Stmt:=top 34
abbrev yM:Stmt:=top 35
abbrev yN:Stmt:=top 36
abbrev yO:Stmt:=top 37
abbrev yP:Stmt:=top 38
abbrev yQ:Stmt:=top 40
abbrev c7:Stmt:=top 50
abbrev yR:Stmt:=top 52
abbrev yS:Stmt:=top 53
abbrev yT:Stmt:=top 54
abbrev yU:Stmt:=top 55
abbrev yV:Stmt:=top 56
abbrev yW:Stmt:=top 57
abbrev vv:Stmt:=top 58
abbrev yX:Stmt:=top 59
abbrev yY:Stmt:=top 60
abbrev yZ:Stmt:=top 61
abbrev y4:Stmt:=top 62
abbrev y6:Stmt:=top 63
abbrev y8:Stmt:=top 64
abbrev y9:Stmt:=top 65
abbrev y_:Stmt:=top 66
abbrev za:Stmt:=top 67
abbrev s_by:Stmt:=top 68
abbrev dC:Stmt:=top 69
abbrev zd:Stmt:=top 70
abbrev bS:Stmt:=top 71
abbrev bN:Stmt:=top 72
abbrev je:Stmt:=top 73
abbrev ze:Stmt:=inClass (top 44) 0
abbrev k_:Stmt:=inClass (top 44) 1
abbrev zf:Stmt:=inClass (top 44) 2
abbrev zg:Stmt:=inClass (top 44) 3
abbrev zh:Stmt:=inClass (top 44) 4
abbrev zi:Stmt:=inClass (top 44) 7
abbrev zk:Stmt:=inClass (top 44) 8
abbrev zo:Stmt:=inClass (top 44) 9
abbrev zp:Stmt:=inClass (top 44) 10
abbrev zq:Stmt:=inClass (top 44) 11
abbrev H_:Stmt:=inClass (top 46) 0
abbrev zu:Stmt:=inClass (top 47) 0
abbrev zv:Stmt:=inClass (top 47) 1
abbrev zA:Stmt:=inClass (top 48) 0
section
variable {P:Program}{w:World}{K:Frag}{mg:Str→Option Value}{base:Heap}{CX:jQ}
def Nm (H:Hp)(v:V)(q:Int×Int):Prop:=∃p,v=.ref p∧H p=some (.tup [.int q.1,.int q.2])
structure O7 (k:Nat)(q:Int×Int):Prop where
 pos:0 < q.2
 top:intBits q.1≤k
 bot:intBits q.2≤k
theorem aD {H:Hp}{p:Addr}(h:H p=none)(o:HO):av H (upd H p o):=fun b u q=>by rw [ao (aq q h)];exact q
theorem nw {H H' :Hp}{l:Addr}{o:HO}(n:H l=none)(e:upd H l o=H'):av H H' ∧H' l=some o:=by subst e;exact ⟨aD n o,ah⟩
def gives (H:Hp)(Q:VK)(q:Int×Int):Prop:=∀(p:Addr) (H' :Hp),av H H' →H' p=some (.tup [.int q.1,.int q.2])→Q (.ref p) H'
inductive fQ (vs:List V)(H:Hp)(Q:VK)(E_:XK):Prop where
 | mk (a b:Int) (_:vs=[.int a,.int b]) (_:Q (.int (gz a b)) H):fQ vs H Q E_
def subQ (x y:Int×Int):Int×Int:=low (x.1*y.2 - y.1*x.2) (x.2*y.2)
theorem Iu {x y:Int×Int}{k l:Nat}(hx:O7 k x)(hy:O7 l y):x.2*y.2≠0:=aeh (aeQ hx.pos hy.pos)
theorem iW {a b:V}:fU [a,b] 0=some a:=rfl
theorem iX {a b:V}:fU [a,b] 1=some b:=rfl
theorem Nm.kept {H H' :Hp}{D:Addr}{ys:List V}{v:V}{q:Int×Int}(h:Nm H v q)(hD:H D=some (.lst ys))(k:bg D H H'):Nm H' v q:=by
 obtain ⟨p,e,z⟩:=h
 exact ⟨p,e,k p _ (fun e=>by rw [e,hD] at z;cases z) z⟩
inductive Ln (H:Hp)(v:V)(l:List Int):Prop where
 | mk (p:_) (_:v=.ref p) (_:H p=some (.lst (l.map V.int))):Ln H v l
theorem Ln.same {H H' :Hp}{v:V}{l:List Int}(h:Ln H v l)(s:av H H'):Ln H' v l:=by
 obtain ⟨p,e,k⟩:=h
 exact ⟨p,e,s _ _ k⟩
def mZ (H:Hp)(us:List V)(ls:List (List Int)):Prop:=us.length=ls.length∧∀(i:Nat) (u:V) (l:List Int),us[i]? =some u→ls[i]? =some l→Ln H u l
theorem mZ.same {H H' :Hp}{us:List V}{ls:List (List Int)}(h:mZ H us ls)(s:av H H'):mZ H' us ls:=⟨h.1,fun i u l e1 e2=>(h.2 i u l e1 e2).same s⟩
theorem kE {l:List Int}{j:Nat}(h:j < l.length):fU (l.map V.int) (j:Int)=some (.int (l.getD j 0)):=bh (by rw [ir,gE h,adC,gE h];rfl)
theorem getD_mem {l:List Int}{j:Nat}{x:Int}(e:l[j]? =some x):l.getD j 0=x:=by rw [adC,e];rfl
def Bd (b:Nat)(l:List Int):Prop:=∀j,(l.getD j 0).natAbs≤2^b
theorem Bd.mem {b:Nat}{l:List Int}(h:Bd b l){x:Int}(hx:x∈l):x.natAbs≤2^b:=by
 obtain ⟨i,hi⟩:=adD hx
 rw [← getD_mem hi]
 exact h i
theorem Bd.up {b c:Nat}{l:List Int}(h:Bd b l)(hc:b≤c):Bd c l:=fun j=>mK (h j) hc
theorem xi:aG ["one","other","left"] ["one","other"] (af yA):=sq
theorem O8 (D:Def K mg "greatest_shared" yA ["one","other"])(pH:mg "abs"=none):Fn P w K mg base CX 1 "greatest_shared" ["one","other"] fQ:=by
 refine D.ok xi (fun vs H Q E h=> ?_) (fun f bD A outer s H vs Q E hr h=> ?_)
 ·obtain ⟨a,b,rfl,_⟩:=h
  rfl
 obtain ⟨a,b,rfl,q⟩:=h
 refine ⟨_,(ae (mq PassesOwn.never (bf sf (pv 1) ag (bu _)) (ae (ay (i:=2) xi.nd rfl (adH rfl) (aI dW (pv 0) (pv 1)))
   (ae (ay (i:=0) xi.nd rfl (adH rfl) (pv 1))
   (aj (ay (i:=1) xi.nd rfl (adH rfl) (pv 2))))))
  (aj (aL (aT sj rfl pH JX (au (pv 0) aa))))),?_⟩
 refine se (fun σ H' =>∃(x y:Int) (l:Option V),σ=[some (.int x),some (.int y),l]∧H' =H∧aek x y=aek a b) (fun σ _=>match σ with | [_,some (.int y),_]=>y.natAbs | _=>0) ⟨a,b,none,rfl,rfl,rfl⟩ ?_ ?_
 ·rintro σ H' ⟨x,y,l,rfl,rfl,g⟩
  refine ⟨_,rfl,rfl,_,rfl,?_⟩
  refine bM (fun c=> ?_) (fun c=> ?_)
  ·have hy:y≠0:=by
    intro z
    subst z
    simp at c
   refine ⟨_,rfl,_,rfl,_,_,rfl,rfl,hy,?_⟩
   refine ⟨_,rfl,_,rfl,?_⟩
   exact ⟨⟨_,_,_,rfl,rfl,by rw [sL];exact g⟩,oW hy⟩
  ·have hy:y=0:=by
    have:=afh.mpr c
    simp at this
    exact this
   subst hy
   refine ⟨_,rfl,x,rfl,?_⟩
   have e:(if x < 0 then -x else x)=gz a b:=by
    rw [am7] at g
    unfold gz
    rw [← g]
    split <;> omega
   rw [e]
   exact q
 ·rintro σ H' Q1 Q2 h ⟨v,e1,e2,k,ek,z⟩
  exact ⟨v,e1,e2,k,ek,h _ _ z⟩
inductive d5 (vs:List V)(H:Hp)(Q:VK)(E_:XK):Prop where
 | mk (t b:Int) (_:vs=[.int t,.int b]) (_:b≠0) (_:gives H Q (low t b)):d5 vs H Q E_
theorem CU:aG ["top","bottom","shared"] ["top","bottom"] (af tR):=sq
theorem O9 (ht:P.given.tree=none)(D:Def K mg "lowest_terms" tR ["top","bottom"])(vw:Fn P w K mg base (a_ P w) 1 "greatest_shared" ["one","other"] fQ):Fn P w K mg base (a_ P w) 33 "lowest_terms" ["top","bottom"] d5:=by
 refine D.ok CU (fun vs H Q E h=> ?_) (fun f bD A outer s H vs Q E hr h=> ?_)
 ·obtain ⟨t,b,rfl,_⟩:=h
  rfl
 obtain ⟨t,b,rfl,hb,q⟩:=h
 have O_:∃tt,PSs (kX (a_ P w) P w K mg base ["top","bottom","shared"] "lowest_terms" (af tR) f bD A outer s H E).wC ((aw tR).drop 2) tt∧∀g:Int,g=sg t b→tt {nx:=fun _ H' =>Q .cA H',rt:=Q} [some (.int t),some (.int b),some (.int g)] H:=by
  refine ⟨_,(aj (aL (aZ (au (aI (eE ht (Ty.cv.py hr (by decide)) rfl rfl rfl rfl rfl) (pv 0) (pv 2)) (au (aI (eE ht (Ty.cv.py hr (by decide)) rfl rfl rfl rfl rfl) (pv 1) (pv 2)) aa))))),?_⟩
  rintro g rfl
  have c:=mD (t:=t) hb
  refine ⟨_,rfl,_,rfl,_,_,rfl,rfl,c,_,rfl,_,rfl,_,_,rfl,rfl,c,(by show 2≤sizeLine;decide),fun p hp=> ?_⟩
  exact q p _ (aD hp _) ah
 obtain ⟨t2,p2,q2⟩:=O_
 refine ⟨_,(ae (ay (i:=2) CU.nd rfl (adH rfl) (aC vw hr.mo pX (au (pv 0) (au (pv 1) aa)))) (ae (bG (bf si (pv 1) ag (bu _)) (aj (ay (i:=2) CU.nd rfl (adH rfl) (JM AV (pv 2)))) aY) p2)),?_⟩
 refine ⟨_,rfl,_,rfl,t,b,rfl,?_⟩
 refine ⟨_,rfl,_,_,rfl,rfl,_,rfl,?_⟩
 refine bM (fun c=> ?_) (fun c=> ?_)
 ·refine ⟨_,rfl,_,rfl,q2 _ ?_⟩
  have c' :b < 0:=of_decide_eq_true c
  unfold sg
  rw [if_pos c']
 ·refine q2 _ ?_
  have c' :¬ b < 0:=of_decide_eq_false (afh.mpr c)
  unfold sg
  rw [if_neg c']
inductive Iv (K:Frag)(vs:List V)(H:Hp)(Q:VK)(E_:XK):Prop where
 | mk (a:Addr) (qs:List (Int×Int)) (T B:Nat) (_:vs=[.ref a]) (_:Ws K H a qs) (_:(∀q∈qs,Sm T B q)) (_:T≤20000) (_:B*qs.length≤100000) (_:B≤8000) (_:qs.length≤1000) (_:∀(p l:Addr) (ts:List Int) (b:Int) (H' :Hp),av H H' →H l=none→H' p=some (.tup [.ref l,.int b])→H' l=some (.lst (ts.map V.int))→0 < b→b.natAbs≤2^(B*qs.length)→gu ts qs b→(∀t∈ts,t.natAbs≤2^(T+B*qs.length))→Q (.ref p) H'):Iv K vs H Q E_
theorem xj:aG ["row","bottom","number"] ["row"] (af yK):=sq
theorem Pa (D:Def K mg "whole_row" yK ["row"])(vw:Fn P w K mg base (a_ P w) 1 "greatest_shared" ["one","other"] fQ):Fn P w K mg base (a_ P w) 2 "whole_row" ["row"] (Iv K):=by
 refine D.ok xj (fun vs H Q E h=> ?_) (fun f bD A outer s H vs Q E hr h=> ?_)
 ·obtain ⟨a,qs,T,B,rfl,_⟩:=h
  rfl
 obtain ⟨a,qs,T,B,rfl,⟨us,hS,hN⟩,sm,hT,hB,U7,hl,q⟩:=h
 refine ⟨_,(ae (ay (i:=1) xj.nd rfl (aex rfl) ag)
  (ae (bq PassesOwn.never rfl (bR (pv 0)) (aH (i:=2) xj.nd rfl (adH rfl)) (aj (ay (i:=1) xj.nd rfl (aex rfl) (aI cC (aI sO (pv 1) (aC vw hr.mo pX (au (pv 1) (au (aR (pv 2)) aa)))) (aR (pv 2))))))
  (aj (aL (aZ (au (dX (tn:=["number"]) (fr:=["bottom"]) (caps:=[1]) rfl ⟨rfl,by decide+kernel,rfl,by decide+kernel,by decide+kernel,rfl,⟨(by first | exact adH rfl | exact aex rfl),trivial⟩,⟨(by first | exact adH rfl | exact aex rfl),trivial⟩⟩ (bR (pv 0)) (fun _ _ _ _=>(aH (i:=0) (show (["number","bottom"]:List Str).Nodup from by decide+kernel) rfl (adH rfl))) (fun _ _ _ _=>dA) (fun _ _ _ _=>(aI cC (aU (fg (K:=K) rfl) (pv 0) ag (fun _ _=>rfl)) (aI sO (pv 1) (aU (fg (K:=K) rfl) (pv 0) ag (fun _ _=>rfl)))))) (au (pv 1) aa))))))),?_⟩
 have hlu:=hN.1
 have qat:∀{i:Nat} {u:V},us[i]? =some u→∃q,qs[i]? =some q∧kA K H u q∧Sm T B q:=fun {i u} e=>by
  have hi:i < us.length:=(be.mp e).1
  have e2:qs[i]? =some (qs[i]'(by omega)):=gE (by omega)
  exact ⟨_,e2,hN.2 i u _ e e2,sm _ (aeq _)⟩
 refine ⟨_,rfl,a,rfl,⟨_,hS⟩,cT (K:=K) (a:=a) (xs:=us) (fun i σ H' =>∃(b:Int) (o:Option V),σ=[some (.ref a),some (.int b),o]∧H' =H∧0 < b∧b.natAbs≤2^(B*i)∧∀j,j < i→∀q,qs[j]? =some q→q.2 ∣ b) ⟨1,none,rfl,rfl,by decide,by simp,fun j h=>absurd h (aeA _)⟩ (fun i σ H' _ ⟨b,o,_,e,_⟩=>by rw [e];exact hS) ?_ ?_⟩
 ·rintro i u σ H' hu ⟨b,o,rfl,rfl,hb,hs,hd⟩
  obtain ⟨n,en,⟨p,rfl,hp⟩,sn⟩:=qat hu
  have hi:i < qs.length:=(be.mp en).1
  have nb:n.2.natAbs≤2^B:=sn.bot
  obtain ⟨l1,l2,l3,l4⟩:=BS hb sn.pos
  have gp:=qz (t:=b) (b:=n.2) (by have:=sn.pos;omega)
  have gl:=Od (t:=b) (b:=n.2) (by have:=sn.pos;omega)
  have sz:(b.fdiv (gz b n.2)*n.2).natAbs≤2^(B*(i+1)):=by
   refine adF l4 ?_
   rw [Nat.mul_succ,afm]
   exact aep hs nb
  have bi:B*i≤100000:=adF (Nat.mul_le_mul_left B (by omega)) hB
  have g1:gz b n.2 ∣ b:=aeU ..
  refine ⟨_,rfl,_,rfl,_,rfl,p,_,_,_,rfl,rfl,hp,iX,b,n.2,rfl,?_⟩
  refine ⟨_,_,rfl,rfl,⟨by omega,adF (gZ (adF gl nb) (aef B)) (by omega)⟩,?_⟩
  refine ⟨_,rfl,p,_,_,_,rfl,rfl,hp,iX,_,_,rfl,rfl,lV (adF (fM (by omega) g1) hs) nb (by omega) (by omega),?_⟩
  refine ⟨_,_,rfl,rfl,l1,sz,fun j hj q' e' => ?_⟩
  rcases ael.mp hj with z | z
  ·exact Int.dvd_trans (hd j z q' e') l2
  ·subst z
   rw [en] at e'
   cases e'
   exact l3
 ·rintro σ H' ⟨b,o,rfl,rfl,hb,hs,hd⟩
  rw [hlu] at hs hd
  refine ⟨_,rfl,a,rfl,⟨_,hS⟩,fun D nD=> ?_⟩
  refine d0 (cap:=[some (.int b)]) (K:=K) (a:=a) (xs:=us) (fun i v _=>∃q,qs[i]? =some q∧v=.int (q.1*b.fdiv q.2)) nD (by rw [hlu];exact adO hl (by decide)) (fun H2 s2=>s2.seq hS) (fun _ _ _ _ _ _ _ h=>h) ?_ ?_
  ·intro i u H2 R hu s2 k
   obtain ⟨n,en,⟨p,rfl,hp⟩,sn⟩:=qat hu
   have OC:=Ty.av.cY s2 hp
   have dv:=hd i (be.mp en).1 n en
   have n0:n.2≠0:=by have:=sn.pos;omega
   refine ⟨_,rfl,p,_,_,_,rfl,rfl,OC,iW,?_⟩
   refine ⟨_,rfl,_,rfl,p,_,_,_,rfl,rfl,OC,iX,_,_,rfl,rfl,⟨n0,adF (gZ sn.bot (aef B)) (by omega)⟩,?_⟩
   exact ⟨_,_,rfl,rfl,lV sn.top (adF (fM n0 dv) hs) (by omega) (by omega),k _ _ (av.refl _) ⟨n,en,rfl⟩⟩
  ·intro ys H2 hy gO s2 hD
   have ey:ys=(qs.map fun n=>n.1*b.fdiv n.2).map V.int:=by
    refine aec fun i=> ?_
    by_cases hi:i < ys.length
    ·have e1:ys[i]? =some ys[i]:=gE hi
     obtain ⟨n,en,ev⟩:=gO i _ e1
     rw [e1,ev,ir,ir,en]
     rfl
    ·rw [ab_ (by omega),ab_ (by simp;omega)]
   refine ⟨_,rfl,(by show 2≤sizeLine;decide),fun p np=> ?_⟩
   have s3:=aD np (.tup [.ref D,.int b])
   refine q p D (qs.map fun n=>n.1*b.fdiv n.2) b _ (s2.trans s3) nD ah (s3 _ _ (by rw [hD,ey])) hb hs ⟨by simp,fun i t n e1 e2=> ?_⟩ (fun t ht=> ?_)
   ·rw [ir,e2] at e1
    have x8 :n.1*b.fdiv n.2=t:=adX e1
    rw [← x8]
    exact yc (sm n (aa_ e2)).pos (hd i (be.mp e2).1 n e2)
   ·obtain ⟨n,hn,rfl⟩:=abt.mp ht
    obtain ⟨i,hi⟩:=adD hn
    have n0:n.2≠0:=by have:=(sm n hn).pos;omega
    exact qH (sm n hn).top (adF (fM n0 (hd i (be.mp hi).1 n hi)) hs)
structure Dv (l l' :List Int):Prop where
 len:l'.length=l.length
 U8:∃g:Int,g≠0∧∀j,g*l'.getD j 0=l.getD j 0
def LF (l:List Int):Prop:=O5 l∨∀j,l.getD j 0=0
theorem tS {l:List Int}{d:Int}(h:∀j,d ∣ l.getD j 0){i:Nat}{x:Int}(e:l[i]? =some x):d ∣ x:=by
 rw [← getD_mem e]
 exact h i
inductive j_ (vs:List V)(H:Hp)(Q:VK)(E_:XK):Prop where
 | mk (v:V) (l:List Int) (_:vs=[v]) (_:Ln H v l) (_:l.length≤1000) (_:∀v' l' H',av H H' →Ln H' v' l' →Dv l l' →LF l' →(v' =v∨∃p,v' =.ref p∧H p=none)→Q v' H'):j_ vs H Q E_
theorem Iw (l:List Int):Dv l l:=⟨rfl,1,by decide,fun j=>Int.one_mul _⟩
theorem xk:aG ["line","shared","whole"] ["line"] (af yP):=sq
theorem Pb (ht:P.given.tree=none)(D:Def K mg "divided" yP ["line"])(vw:Fn P w K mg base (a_ P w) 1 "greatest_shared" ["one","other"] fQ):Fn P w K mg base (a_ P w) 33 "divided" ["line"] j_:=by
 refine D.ok xk (fun vs H Q E h=> ?_) (fun f bD A outer s H vs Q E hr h=> ?_)
 ·obtain ⟨v,l,rfl,_⟩:=h
  rfl
 obtain ⟨v,l,rfl,⟨a,rfl,ha⟩,hn,q⟩:=h
 have same:LF l→Q (.ref a) H:=fun pz=>q _ l H (av.refl H) ⟨a,rfl,ha⟩ (Iw l) pz (.inl rfl)
 refine ⟨_,(ae (ay (i:=1) xk.nd rfl (aex rfl) ag)
  (ae (bq PassesOwn.never rfl (bR (pv 0)) (aH (i:=2) xk.nd rfl (adH rfl)) (ae (ay (i:=1) xk.nd rfl (aex rfl) (aC vw hr.mo pX (au (pv 2) (au (pv 1) aa))))
   (aj (bG (bf de (pv 1) ag (bu _)) (aj (aL (pv 0))) aY))))
  (aj (aL (r8 (bf NX (pv 1) ag (bu _)) (dX (tn:=["whole"]) (fr:=["shared"]) (caps:=[1]) rfl ⟨rfl,by decide+kernel,rfl,by decide+kernel,by decide+kernel,rfl,⟨(by first | exact adH rfl | exact aex rfl),trivial⟩,⟨(by first | exact adH rfl | exact aex rfl),trivial⟩⟩ (bR (pv 0)) (fun _ _ _ _=>(aH (i:=0) (show (["whole","shared"]:List Str).Nodup from by decide+kernel) rfl (adH rfl))) (fun _ _ _ _=>dA) (fun _ _ _ _=>(aI (eE ht (Ty.cv.py hr (by decide)) rfl rfl rfl rfl rfl) (pv 0) (pv 1)))) (pv 0)))))),?_⟩
 refine ⟨_,rfl,a,rfl,⟨_,aV.of ha⟩,cT (K:=K) (a:=a) (xs:=l.map V.int) (fun i σ H' =>∃(g:Int) (o:Option V),σ=[some (.ref a),some (.int g),o]∧H' =H∧0≤g∧(∀j,j < i→∀x,l[j]? =some x→g ∣ x)∧(∀d:Int,(∀j,j < i→∀x,l[j]? =some x→d ∣ x)→d ∣ g)∧(0 < i→g≠1)) ⟨0,none,rfl,rfl,by decide,(fun j h=>absurd h (aeA _)),(fun d _=>Int.dvd_zero d),fun h=>absurd h (aew _)⟩ (fun i σ H' _ ⟨g,o,_,e,_⟩=>by rw [e];exact aV.of ha) ?_ ?_⟩
 ·rintro i u σ H' hu ⟨g,o,rfl,rfl,g0,hg,hd,_⟩
  rw [ir] at hu
  obtain ⟨x,ex,rfl⟩:=adM.mp hu
  have d1:gz x g ∣ x:=aeU ..
  have d2:gz x g ∣ g:=aeO ..
  have p0:0≤gz x g:=Int.natCast_nonneg _
  refine ⟨_,rfl,_,rfl,x,g,rfl,?_⟩
  refine ⟨_,rfl,rfl,_,rfl,?_⟩
  refine bM (fun z=>⟨_,rfl,same (.inl fun d JD => ?_)⟩) (fun z=> ?_)
  ·have z' :gz x g=1:=by simpa using of_decide_eq_true z
   have h1:d ∣ gz x g:=anG (tS JD ex) (hd d fun j _ y ey=>tS JD ey)
   rw [z'] at h1
   have:=aeZ.mpr h1
   simpa using this
  refine ⟨_,_,rfl,rfl,p0,fun j hj y ey=> ?_,fun d h=> ?_,fun _ e=>z (by rw [e];rfl)⟩
  ·rcases ael.mp hj with z | z
   ·exact Int.dvd_trans d2 (hg j z y ey)
   ·subst z
    rw [ex] at ey
    cases ey
    exact d1
  ·exact anG (h i (aef _) x ex) (hd d fun j hj y ey=>h j (aeG hj) y ey)
 ·rintro σ H' ⟨g,o,rfl,rfl,g0,hg,hd,hg1⟩
  rw [Wp] at hg hd hg1
  refine ⟨_,rfl,_,_,rfl,rfl,_,rfl,?_⟩
  refine bM (fun c=> ?_) (fun c=>⟨_,rfl,same (.inr fun j=> ?_)⟩)
  rotate_left
  ·have c' :¬ (1:Int) < g:=fun z=>c (decide_eq_true z)
   by_cases hj:j < l.length
   ·have gz:g=0:=by
     have:=hg1 (by omega)
     omega
    have ej:l[j]? =some l[j]:=gE hj
    have:=hg j hj _ ej
    rw [gz] at this
    rw [getD_mem ej]
    exact Int.zero_dvd.mp this
   ·rw [adC,ab_ (by omega)]
    rfl
  have g1:(1:Int) < g:=of_decide_eq_true c
  have gn:g≠0:=by omega
  refine ⟨_,rfl,a,rfl,⟨_,aV.of ha⟩,fun D nD=> ?_⟩
  refine d0 (cap:=[some (.int g)]) (K:=K) (a:=a) (xs:=l.map V.int) (fun i v _=>∃x,l[i]? =some x∧v=.int (x.fdiv g)) nD (by rw [Wp];exact adO hn (by decide)) (fun H2 s2=>aV.of (s2 _ _ ha)) (fun _ _ _ _ _ _ _ h=>h) ?_ ?_
  ·intro i u H2 R hu s2 k
   rw [ir] at hu
   obtain ⟨x,ex,rfl⟩:=adM.mp hu
   exact ⟨_,rfl,_,rfl,_,_,rfl,rfl,gn,k _ _ (av.refl _) ⟨x,ex,rfl⟩⟩
  ·intro ys H2 hy gO s2 hD
   rw [Wp] at hy
   have ey:ys=(l.map fun x=>x.fdiv g).map V.int:=by
    refine aec fun i=> ?_
    by_cases hi:i < ys.length
    ·have e1:ys[i]? =some ys[i]:=gE hi
     obtain ⟨x,ex,ev⟩:=gO i _ e1
     rw [e1,ev,ir,ir,ex]
     rfl
    ·rw [ab_ (by omega),ab_ (by simp;omega)]
   have U8:∀j,g*(l.map fun x=>x.fdiv g).getD j 0=l.getD j 0:=fun j=>by
    by_cases hj:j < l.length
    ·have ej:l[j]? =some l[j]:=gE hj
     rw [getD_mem (l:=l.map fun x=>x.fdiv g) (x:=l[j].fdiv g) (by rw [ir,ej];rfl),getD_mem ej]
     exact (cn gn (hg j hj _ ej)).symm
    ·rw [adC,adC,ab_ (by simp;omega),ab_ (by omega)]
     simp
   refine q _ (l.map fun x=>x.fdiv g) H2 s2 ⟨D,rfl,by rw [hD,ey]⟩ ⟨by simp,g,gn,U8⟩ (.inl fun d JD => ?_) (.inr ⟨D,rfl,nD⟩)
   have h1:d*g ∣ g:=hd (d*g) fun j hj x ex=>by
    rw [← getD_mem ex, ← U8 j,aeP]
    exact Int.mul_dvd_mul_left g (JD j)
   obtain ⟨k,hk⟩:=h1
   have h2:g*(d*k)=g*1:=by
    rw [Int.mul_one]
    rw [← afl,aeP g d]
    exact hk.symm
   have h3:=Int.eq_of_mul_eq_mul_left gn h2
   have h4:d ∣ 1:=⟨k,h3.symm⟩
   simpa using aeZ.mpr h4
inductive ka (vs:List V)(H:Hp)(Q:VK)(E_:XK):Prop where
 | mk (u v:V) (l m:List Int) (c b1 b2:Nat) (_:vs=[u,v,.int (c:Int)]) (_:Ln H u l) (_:Ln H v m) (_:m.length=l.length) (_:c < l.length) (_:l.length≤1000) (_:m.getD c 0≠0) (_:Bd b1 l) (_:Bd b2 m) (_:b1≤29000000) (_:b2≤29000000) (_:∀v' l' H',av H H' →Ln H' v' l' →oj l m l' c→Bd (b1+b2+1) l' →(l' =l∨LF l')→(v' =u∨∃p,v' =.ref p∧H p=none)→Q v' H'):ka vs H Q E_
theorem Iy {a b:Int}(ha:a≠0):a=gz a b*a.fdiv (gz a b)∧b=gz a b*b.fdiv (gz a b)∧gz a b≠0∧a.fdiv (gz a b)≠0∧(a.fdiv (gz a b)).natAbs≤a.natAbs∧(b.fdiv (gz a b)).natAbs≤b.natAbs:=by
 have gn:gz a b≠0:=by
  intro z
  have z' :((aek a b:Nat):Int)=0:=z
  have:aek a b=0:=by omega
  exact ha (Int.gcd_eq_zero_iff.mp this).1
 have d1:gz a b ∣ a:=aeU ..
 have d2:gz a b ∣ b:=aeO ..
 have e1:=cn gn d1
 refine ⟨e1,cn gn d2,gn,fun z=> ?_,fM gn d1,fM gn d2⟩
 rw [z,afe] at e1
 exact ha e1
theorem Iz {l m:List Int}{t u:Int}{ys:List V}(hl:m.length=l.length)(hy:ys.length=l.length)(h:∀(i:Nat) (v:V),ys[i]? =some v→∃x y,l[i]? =some x∧m[i]? =some y∧v=.int (t*x - u*y)):ys=(aeo (fun x y=>t*x - u*y) l m).map V.int:=by
 refine aec fun i=> ?_
 by_cases hi:i < ys.length
 ·have e1:ys[i]? =some ys[i]:=gE hi
  obtain ⟨x,y,ex,ey,ev⟩:=h i _ e1
  rw [e1,ev,ir,aeL,ex,ey]
  rfl
 ·rw [ab_ (by omega),ab_ (by simp;omega)]
theorem CV {l m:List Int}{t u:Int}(hl:m.length=l.length)(j:Nat):(aeo (fun x y=>t*x - u*y) l m).getD j 0=t*l.getD j 0 - u*m.getD j 0:=by
 by_cases hj:j < l.length
 ·have e1:l[j]? =some l[j]:=gE hj
  have e2:m[j]? =some (m[j]'(by omega)):=gE (by omega)
  rw [getD_mem e1,getD_mem e2]
  exact getD_mem (by rw [aeL,e1,e2])
 ·rw [adC,adC,adC,ab_ (by simp;omega),ab_ (by omega),ab_ (by omega)]
  simp
theorem xl:aG ["line","lead","column","shared","times","less"] ["line","lead","column"] (af yO):=sq
theorem Pc (ht:P.given.tree=none)(D:Def K mg "cleared" yO ["line","lead","column"])(iq:mg "zip"=none)(vw:Fn P w K mg base (a_ P w) 1 "greatest_shared" ["one","other"] fQ)(Wz:Fn P w K mg base (a_ P w) 33 "divided" ["line"] j_):Fn P w K mg base (a_ P w) 34 "cleared" ["line","lead","column"] ka:=by
 refine D.ok xl (fun vs H Q E h=> ?_) (fun f bD A outer s H vs Q E hr h=> ?_)
 ·obtain ⟨u,v,l,m,c,b1,b2,rfl,_⟩:=h
  rfl
 obtain ⟨u,v,l,m,c,b1,b2,rfl,⟨a,rfl,ha⟩,⟨a',rfl,U9⟩,hl,hc,hn,hm,B1,B2,hb1,FJ,q⟩:=h
 refine ⟨_,(ae (bG (bf de (aU aK (pv 0) (pv 2) (fun _ _=>rfl)) ag (bu _)) (aj (aL (pv 0))) aY)
  (ae (ay (i:=3) xl.nd rfl (adH rfl) (aC vw hr.mo pX (au (aU aK (pv 1) (pv 2) (fun _ _=>rfl)) (au (aU aK (pv 0) (pv 2) (fun _ _=>rfl)) aa))))
  (ae (ay (i:=4) xl.nd rfl (aex rfl) (aI (eE ht (Ty.cv.py hr (by decide)) rfl rfl rfl rfl rfl) (aU aK (pv 1) (pv 2) (fun _ _=>rfl)) (pv 3)))
  (ae (ay (i:=5) xl.nd rfl (aex rfl) (aI (eE ht (Ty.cv.py hr (by decide)) rfl rfl rfl rfl rfl) (aU aK (pv 0) (pv 2) (fun _ _=>rfl)) (pv 3)))
  (aj (aL (aC Wz hr.mo pX (au (dX (tn:=["whole","other"]) (fr:=["times","less"]) (caps:=[4,5]) rfl ⟨rfl,by decide+kernel,rfl,by decide+kernel,by decide+kernel,rfl,⟨(by first | exact adH rfl | exact aex rfl),⟨(by first | exact adH rfl | exact aex rfl),trivial⟩⟩,⟨(by first | exact adH rfl | exact aex rfl),⟨(by first | exact adH rfl | exact aex rfl),trivial⟩⟩⟩ (u_ rfl iq (au (pv 0) (au (pv 1) aa))) (fun _ _ _ _=>(qG (K:=K) (n:=2) rfl rfl (bo (aH (i:=0) (show (["whole","other","times","less"]:List Str).Nodup from by decide+kernel) rfl (adH rfl)) (bo (aH (i:=1) (show (["whole","other","times","less"]:List Str).Nodup from by decide+kernel) rfl (adH rfl)) dc)))) (fun _ _ _ _=>dA) (fun _ _ _ _=>(aI cG (aI cC (pv 2) (pv 0)) (aI cC (pv 3) (pv 1))))) aa)))))))),?_⟩
 have ea:=kE (l:=l) hc
 have em:=kE (l:=m) (j:=c) (by omega)
 refine ⟨_,rfl,_,rfl,a,_,_,_,rfl,rfl,aV.of ha,ea,rfl,_,rfl,?_⟩
 refine bM (fun z=> ?_) (fun z=> ?_)
 ·have z' :l.getD c 0=0:=by simpa using of_decide_eq_true z
  exact ⟨_,rfl,q _ l H (av.refl H) ⟨a,rfl,ha⟩ ⟨rfl,z',1,1,0,by decide,by decide,fun j=>by omega⟩ (B1.up (by omega)) (.inl rfl) (.inl rfl)⟩
 ·obtain ⟨f1,f2,f3,f4,f5,f6⟩:=Iy (a:=m.getD c 0) (b:=l.getD c 0) hm
  refine ⟨_,rfl,_,rfl,a',_,_,_,rfl,rfl,aV.of U9,em,_,rfl,_,rfl,a,_,_,_,rfl,rfl,aV.of ha,ea,_,_,rfl,?_⟩
  refine ⟨_,rfl,_,rfl,a',_,_,_,rfl,rfl,aV.of U9,em,_,rfl,_,_,rfl,rfl,f3,?_⟩
  refine ⟨_,rfl,_,rfl,a,_,_,_,rfl,rfl,aV.of ha,ea,_,rfl,_,_,rfl,rfl,f3,?_⟩
  refine ⟨_,rfl,_,rfl,a,a',rfl,⟨_,aV.of ha⟩,⟨_,aV.of U9⟩,fun D1 n1=> ?_⟩
  have st:((m.getD c 0).fdiv (gz (m.getD c 0) (l.getD c 0))).natAbs≤2^b2:=adF f5 (B2 c)
  have su:((l.getD c 0).fdiv (gz (m.getD c 0) (l.getD c 0))).natAbs≤2^b1:=adF f6 (B1 c)
  refine sW (cap:=[some (.int ((m.getD c 0).fdiv (gz (m.getD c 0) (l.getD c 0)))),some (.int ((l.getD c 0).fdiv (gz (m.getD c 0) (l.getD c 0))))]) (K:=K) (xs:=l.map V.int) (ys:=m.map V.int) (fun i v _=>∃x y,l[i]? =some x∧m[i]? =some y∧v=.int ((m.getD c 0).fdiv (gz (m.getD c 0) (l.getD c 0))*x - (l.getD c 0).fdiv (gz (m.getD c 0) (l.getD c 0))*y)) n1 (by rw [Wp];exact adO hn (by decide)) (by simpa using hl) (fun H2 s2=>aV.of (s2 _ _ ha)) (fun H2 s2=>aV.of (s2 _ _ U9)) (fun _ _ _ _ _ _ _ h=>h) ?_ ?_
  ·intro i x y H2 R ex ey s2 k
   rw [ir] at ex ey
   obtain ⟨x',F_,rfl⟩:=adM.mp ex
   obtain ⟨y',AD,rfl⟩:=adM.mp ey
   refine ⟨_,rfl,_,rfl,_,_,rfl,rfl,lV st (B1.mem (aa_ F_)) (by omega) (by omega),?_⟩
   exact ⟨_,rfl,_,rfl,_,_,rfl,rfl,lV su (B2.mem (aa_ AD)) (by omega) (by omega),_,_,rfl,rfl,k _ _ (av.refl _) ⟨x',y',F_,AD,rfl⟩⟩
  ·intro ys H2 hy gO s2 hD
   rw [Wp] at hy
   have ey:=Iz hl hy gO
   refine ⟨_,_,rfl,⟨D1,rfl,by rw [hD,ey]⟩,by simp;omega,fun v' l' H3 s3 L3 dv pz fr=> ?_⟩
   obtain ⟨g,gn,hg⟩:=dv.U8
   have om:∀j,g*l'.getD j 0=(m.getD c 0).fdiv (gz (m.getD c 0) (l.getD c 0))*l.getD j 0 - (l.getD c 0).fdiv (gz (m.getD c 0) (l.getD c 0))*m.getD j 0:=fun j=>by rw [hg j,CV hl]
   refine q v' l' H3 (s2.trans s3) L3 ⟨by rw [dv.len];simp [hl],?_,g,_,_,gn,f4,om⟩ (fun j=> ?_) (.inr pz) ?_
   ·have e:=om c
    have z2:(m.getD c 0).fdiv (gz (m.getD c 0) (l.getD c 0))*l.getD c 0 - (l.getD c 0).fdiv (gz (m.getD c 0) (l.getD c 0))*m.getD c 0=0:=by
     generalize gz (m.getD c 0) (l.getD c 0)=G at*
     generalize (m.getD c 0).fdiv G=t at*
     generalize (l.getD c 0).fdiv G=u at*
     rw [f1,f2]
     grind
    rw [z2] at e
    rcases amK.mp e with y | y
    ·exact absurd y gn
    ·exact y
   ·have b:(g*l'.getD j 0).natAbs≤2^(b1+b2+1):=by
     rw [om j,Int.sub_eq_add_neg]
     refine Lh (mK (qH st (B1 j)) (by omega)) ?_
     rw [afv]
     exact qH su (B2 j)
    exact adF (cU gn) b
   ·rcases fr with z | ⟨p,e,n⟩
    ·exact .inr ⟨D1,z,n1⟩
    ·exact .inr ⟨p,e,s2.free n⟩
inductive qP (K:Frag)(vs:List V)(H:Hp)(Q:VK)(E_:XK):Prop where
 | mk (a:Addr) (us:List V) (ls:List (List Int:_)) (c:Nat) (_:vs=[.ref a,.int (c:Int)]) (_:aV K H a us) (_:mZ H us ls) (_:(∀l∈ls,c < l.length)) (_:(∀(i:Nat) (l:List Int) (H' :Hp),av H H' →ls[i]? =some l→l.getD c 0≠0→Q (.int (i:Int)) H')) (_:((∀l∈ls,l.getD c 0=0)→∀H',av H H' →Q .cA H')):qP K vs H Q E_
theorem mZ.at {H:Hp}{us:List V}{ls:List (List Int)}(h:mZ H us ls){i:Nat}{u:V}(e:us[i]? =some u):∃l,ls[i]? =some l∧Ln H u l:=by
 have hi:i < us.length:=(be.mp e).1
 have hl:=h.1
 have e2:ls[i]? =some (ls[i]'(by omega)):=gE (by omega)
 exact ⟨_,e2,h.2 i u _ e e2⟩
theorem mZ.at' {H:Hp}{us:List V}{ls:List (List Int)}(h:mZ H us ls){i:Nat}{l:List Int}(e:ls[i]? =some l):∃u,us[i]? =some u∧Ln H u l:=by
 have hi:i < ls.length:=(be.mp e).1
 have hl:=h.1
 have e2:us[i]? =some (us[i]'(by omega)):=gE (by omega)
 exact ⟨_,e2,h.2 i _ l e2 e⟩
theorem CW:aG ["lines","column","at","line"] ["lines","column"] (af yN):=sq
theorem Pd (D:Def K mg "first_not_nought" yN ["lines","column"])(c8:mg "enumerate"=none):Fn P w K mg base (a_ P w) 1 "first_not_nought" ["lines","column"] (qP K):=by
 refine D.ok CW (fun vs H Q E h=> ?_) (fun f bD A outer s H vs Q E hr h=> ?_)
 ·obtain ⟨a,us,ls,c,rfl,_⟩:=h
  rfl
 obtain ⟨a,us,ls,c,rfl,hS,L,hc,q1,q2⟩:=h
 have lu:=L.1
 refine ⟨_,(ae (bq PassesOwn.never rfl (wW rfl c8 (au (pv 0) aa)) (fW rfl (bo (aH (i:=2) CW.nd rfl (adH rfl)) (bo (aH (i:=3) CW.nd rfl (adH rfl)) dc))) (aj (bG (bf sf (aU aK (pv 3) (pv 1) (fun _ _=>rfl)) ag (bu _)) (aj (aL (pv 2))) aY)))
  (aj (aL mj))),?_⟩
 refine ⟨_,rfl,a,rfl,⟨_,hS⟩,tw (K:=K) (a:=a) (xs:=us) (fun i σ H' =>∃o1 o2:Option V,σ=[some (.ref a),some (.int (c:Int)),o1,o2]∧av H H' ∧∀j,j < i→∀l,ls[j]? =some l→l.getD c 0=0) ⟨none,none,rfl,av.refl H,fun j h=>absurd h (aeA _)⟩ (fun i σ H' _ ⟨o1,o2,_,s1,_⟩=>s1.seq hS) ?_ ?_⟩
 ·rintro i u σ H' p hu ⟨o1,o2,rfl,s1,z⟩ np
  obtain ⟨l,el,b,rfl,hb⟩:=L.at hu
  have s2:=s1.trans (aD np (.tup [.int (i:Int),.ref b]))
  have hcl:=hc l (aa_ el)
  refine ⟨p,_,rfl,cf.of ah,rfl,_,_,rfl,_,_,rfl,rfl,?_⟩
  refine ⟨_,rfl,_,rfl,b,_,_,_,rfl,rfl,aV.of (s2 _ _ hb),kE hcl,rfl,_,rfl,?_⟩
  refine bM (fun y=> ?_) (fun y=> ?_)
  ·have y' :l.getD c 0≠0:=by simpa using y
   exact ⟨_,rfl,q1 i l _ s2 el y'⟩
  ·have y' :l.getD c 0=0:=by simpa using y
   refine ⟨_,_,rfl,s2,fun j hj l' e' => ?_⟩
   rcases ael.mp hj with w | w
   ·exact z j w l' e'
   ·subst w
    rw [el] at e'
    cases e'
    exact y'
 ·rintro σ H' ⟨o1,o2,rfl,s1,z⟩
  refine q2 (fun l hl=> ?_) H' s1
  obtain ⟨j,hj⟩:=adD hl
  exact z j (by have:=(be.mp hj).1;omega) l hj
structure Red (os:List (List Int))(L c b:Nat)(nd:List (Nat×List Int))(lv:List (List Int)):Prop where
 lh:∀x∈nd,x.2.length=L
 iE:∀l∈lv,l.length=L
 cols:∀x∈nd,x.1 < c
 asc:(nd.map (·.1)).Pairwise (· < ·)
 here:∀x∈nd,x.2.getD x.1 0≠0
 off:∀x∈nd,∀y∈nd,x.1≠y.1→x.2.getD y.1 0=0
 low:∀x∈nd,∀j,j < x.1→x.2.getD j 0=0
 zero:∀l∈lv,∀j,j < c→l.getD j 0=0
 tV:∀x∈nd,j7 os x.2
 jf:∀l∈lv,j7 os l
 sol:∀z,((∀x∈nd,ev x.2 z=0)∧(∀l∈lv,ev l z=0)) ↔ ∀o∈os,ev o z=0
 AE:∀x∈nd,Bd b x.2
 CY:∀l∈lv,Bd b l
 cnt:nd.length+lv.length=os.length
theorem Red.start {os:List (List Int)}{L b:Nat}(hL:∀o∈os,o.length=L)(hb:∀o∈os,Bd b o):Red os L 0 b [] os where
 lh:=by simp
 iE:=hL
 cols:=by simp
 asc:=by simp
 here:=by simp
 off:=by simp
 low:=by simp
 zero:=fun _ _ j h=>absurd h (aeA _)
 tV:=by simp
 jf:=fun l h=>tu h
 sol:=fun z=>by simp
 AE:=by simp
 CY:=hb
 cnt:=by simp
theorem Red.skip {os:List (List Int)}{L c b:Nat}{nd:List (Nat×List Int)}{lv:List (List Int)}(h:Red os L c b nd lv)(hz:∀l∈lv,l.getD c 0=0):Red os L (c+1) b nd lv where
 lh:=h.lh
 iE:=h.iE
 cols:=fun x hx=>aeG (h.cols x hx)
 asc:=h.asc
 here:=h.here
 off:=h.off
 low:=h.low
 zero:=fun l hl j hj=>by
  rcases ael.mp hj with z | z
  ·exact h.zero l hl j z
  ·subst z
   exact hz l hl
 tV:=h.tV
 jf:=h.jf
 sol:=h.sol
 AE:=h.AE
 CY:=h.CY
 cnt:=h.cnt
structure Made (os:List (List Int))(lead:List Int)(c b:Nat)(xs ys:List (List Int)):Prop where
 len:ys.length=xs.length
 to:∀(i:Nat) (x:List Int),xs[i]? =some x→∃y,ys[i]? =some y∧oj x lead y c∧Bd b y
theorem Made.ex {os:List (List Int)}{lead:List Int}{c b:Nat}{xs ys:List (List Int)}(h:Made os lead c b xs ys){y:List Int}(hy:y∈ys):∃x∈xs,oj x lead y c∧Bd b y:=by
 obtain ⟨i,hi⟩:=adD hy
 have hl:=h.len
 have oa:i < ys.length:=(be.mp hi).1
 have e:xs[i]? =some (xs[i]'(by omega)):=gE (by omega)
 obtain ⟨y',e',r⟩:=h.to i _ e
 rw [hi] at e'
 cases e'
 exact ⟨_,aa_ e,r⟩
theorem Made.all {os:List (List Int)}{lead:List Int}{c b:Nat}{xs ys:List (List Int)}(h:Made os lead c b xs ys){x:List Int}(hx:x∈xs):∃y∈ys,oj x lead y c∧Bd b y:=by
 obtain ⟨i,hi⟩:=adD hx
 obtain ⟨y,e,r⟩:=h.to i x hi
 exact ⟨y,aa_ e,r⟩
theorem Red.step {os:List (List Int)}{L c b:Nat}{nd h_ :List (Nat×List Int)}{lv vp rest:List (List Int)}{lead:List Int}(h:Red os L c b nd lv)(eK:lead∈lv)(tW:∀l∈rest,l∈lv)(BH:∀l∈lv,l=lead∨l∈rest)(hlen:rest.length+1=lv.length)
  (hc:lead.getD c 0≠0) (ML:Made os lead c (2*b+1) rest vp) (hk:h_.map (·.1)=nd.map (·.1)) (MN:Made os lead c (2*b+1) (nd.map (·.2)) (h_.map (·.2))):Red os L (c+1) (2*b+1) (h_ ++[(c,lead)]) vp :=by
 have ll:=h.iE lead eK
 have lz:=h.zero lead eK
 have WA :h_.length=nd.length:=by simpa using congrArg aeE hk
 have pairs:∀x' ∈h_,∃x∈nd,x.1=x'.1∧oj x.2 lead x'.2 c∧Bd (2*b+1) x'.2:=by
  intro x' uH
  obtain ⟨i,hi⟩:=adD uH
  have oa:i < h_.length:=(be.mp hi).1
  have e:nd[i]? =some (nd[i]'(by omega)):=gE (by omega)
  have e1:(h_.map (·.1))[i]? =(nd.map (·.1))[i]? :=by rw [hk]
  rw [ir,ir,hi,e] at e1
  obtain ⟨y,e2,r⟩:=MN.to i (nd[i]'(by omega)).2 (by rw [ir,e];rfl)
  rw [ir,hi] at e2
  simp at e1 e2
  subst e2
  exact ⟨_,aa_ e,e1.symm,r⟩
 have back:∀x∈nd,∃x' ∈h_,x'.1=x.1∧oj x.2 lead x'.2 c:=by
  intro x hx
  obtain ⟨i,hi⟩:=adD hx
  have oa:i < nd.length:=(be.mp hi).1
  have e:h_[i]? =some (h_[i]'(by omega)):=gE (by omega)
  have e1:(h_.map (·.1))[i]? =(nd.map (·.1))[i]? :=by rw [hk]
  rw [ir,ir,hi,e] at e1
  obtain ⟨y,e2,r⟩:=MN.to i x.2 (by rw [ir,hi];rfl)
  rw [ir,e] at e2
  simp at e1 e2
  exact ⟨_,aa_ e,e1,by rw [e2];exact r.1⟩
 have IA:∀x∈h_ ++[(c,lead)],x∈h_ ∨x=(c,lead):=fun x hx=>by simpa using hx
 exact {
  lh:=fun x hx=>by
   rcases IA x hx with z | z
   ·obtain ⟨y,hy,_,k,_⟩:=pairs x z
    rw [k.len]
    exact h.lh y hy
   ·subst z
    exact ll
  iE:=fun l hl=>by
   obtain ⟨x,hx,k,_⟩:=ML.ex hl
   rw [k.len]
   exact h.iE x (tW x hx)
  cols:=fun x hx=>by
   rcases IA x hx with z | z
   ·obtain ⟨y,hy,e,_⟩:=pairs x z
    rw [← e]
    exact aeG (h.cols y hy)
   ·subst z
    exact aef _
  asc:=by
   rw [adR,hk,List.pairwise_append]
   refine ⟨h.asc,by simp,fun a ha b' fL => ?_⟩
   obtain ⟨x,hx,rfl⟩:=abt.mp ha
   have:b' =c:=by simpa using fL
   subst this
   exact h.cols x hx
  here:=fun x hx=>by
   rcases IA x hx with z | z
   ·obtain ⟨y,hy,e,k,_⟩:=pairs x z
    rw [← e]
    exact k.at (lz _ (h.cols y hy)) (h.here y hy)
   ·subst z
    exact hc
  off:=fun x hx y hy ne=>by
   rcases IA x hx with z | z <;> rcases IA y hy with u | u
   ·obtain ⟨x0,U6,e0,k0,_⟩:=pairs x z
    obtain ⟨y0,zB,e1,_⟩:=pairs y u
    rw [← e1]
    exact k0.zero (h.off x0 U6 y0 zB (by rw [e0,e1];exact ne)) (lz _ (h.cols y0 zB))
   ·subst u
    obtain ⟨x0,U6,e0,k0,_⟩:=pairs x z
    exact k0.B_
   ·subst z
    obtain ⟨y0,zB,e1,_⟩:=pairs y u
    rw [← e1]
    exact lz _ (h.cols y0 zB)
   ·subst z
    subst u
    exact absurd rfl ne
  low:=fun x hx j hj=>by
   rcases IA x hx with z | z
   ·obtain ⟨y,hy,e,k,_⟩:=pairs x z
    rw [← e] at hj
    exact k.zero (h.low y hy j hj) (lz j (ane hj (h.cols y hy)))
   ·subst z
    exact lz j hj
  zero:=fun l hl j hj=>by
   obtain ⟨x,hx,k,_⟩:=ML.ex hl
   rcases ael.mp hj with z | z
   ·exact k.zero (h.zero x (tW x hx) j z) (lz j z)
   ·subst z
    exact k.B_
  tV:=fun x hx=>by
   rcases IA x hx with z | z
   ·obtain ⟨y,hy,_,k,_⟩:=pairs x z
    exact k.comb (h.tV y hy) (h.jf lead eK)
   ·subst z
    exact h.jf lead eK
  jf:=fun l hl=>by
   obtain ⟨x,hx,k,_⟩:=ML.ex hl
   exact k.comb (h.jf x (tW x hx)) (h.jf lead eK)
  sol:=fun z=>by
   rw [← h.sol z]
   constructor
   ·rintro ⟨a1,a2⟩
    have az:ev lead z=0:=a1 (c,lead) (by simp)
    refine ⟨fun x hx=> ?_,fun l hl=> ?_⟩
    ·obtain ⟨x',uH,_,k⟩:=back x hx
     exact (k.ev (by rw [ll,h.lh x hx]) az).mp (a1 x' (by simp [uH]))
    ·rcases BH l hl with u | u
     ·rw [u]
      exact az
     ·obtain ⟨y,hy,k,_⟩:=ML.all u
      exact (k.ev (by rw [ll,h.iE l hl]) az).mp (a2 y hy)
   ·rintro ⟨a1,a2⟩
    have az:=a2 lead eK
    refine ⟨fun x hx=> ?_,fun l hl=> ?_⟩
    ·rcases IA x hx with u | u
     ·obtain ⟨y,hy,_,k,_⟩:=pairs x u
      exact (k.ev (by rw [ll,h.lh y hy]) az).mpr (a1 y hy)
     ·subst u
      exact az
    ·obtain ⟨x,hx,k,_⟩:=ML.ex hl
     exact (k.ev (by rw [ll,h.iE x (tW x hx)]) az).mpr (a2 x (tW x hx))
  AE:=fun x hx=>by
   rcases IA x hx with z | z
   ·obtain ⟨y,hy,_,_,k⟩:=pairs x z
    exact k
   ·subst z
    exact (h.CY lead eK).up (by omega)
  CY:=fun l hl=>by
   obtain ⟨x,hx,_,k⟩:=ML.ex hl
   exact k
  cnt:=by
   have a:=ML.len
   have b:=h.cnt
   rw [adK,WA]
   simp
   omega}
def kF (H:Hp)(kvs:List (Key×V))(nd:List (Nat×List Int)):Prop:=kvs.length=nd.length∧∀(i:Nat) (kv:Key×V) (x:Nat×List Int),kvs[i]? =some kv→nd[i]? =some x→kv.1=.inl (x.1:Int)∧Ln H kv.2 x.2
theorem kF.same {H H' :Hp}{kvs:List (Key×V)}{nd:List (Nat×List Int)}(h:kF H kvs nd)(s:av H H'):kF H' kvs nd:=⟨h.1,fun i kv x e1 e2=>⟨(h.2 i kv x e1 e2).1,(h.2 i kv x e1 e2).2.same s⟩⟩
theorem Ln.put {H:Hp}{v:V}{l:List Int}{d:Addr}{kvs:List (Key×V)}{o:HO}(h:Ln H v l)(e:H d=some (.dK kvs)):Ln (upd H d o) v l:=by
 obtain ⟨p,e1,k⟩:=h
 exact ⟨p,e1,by rw [ao (fun z=>by rw [z,e] at k;cases k)];exact k⟩
theorem mZ.put {H:Hp}{us:List V}{ls:List (List Int)}{d:Addr}{kvs:List (Key×V)}{o:HO}(h:mZ H us ls)(e:H d=some (.dK kvs)):mZ (upd H d o) us ls:=⟨h.1,fun i u l e1 e2=>(h.2 i u l e1 e2).put e⟩
theorem kF.put {H:Hp}{kvs Pe:List (Key×V)}{nd:List (Nat×List Int)}{d:Addr}{o:HO}(h:kF H kvs nd)(e:H d=some (.dK Pe)):kF (upd H d o) kvs nd:=⟨h.1,fun i kv x e1 e2=>⟨(h.2 i kv x e1 e2).1,(h.2 i kv x e1 e2).2.put e⟩⟩
theorem fS {H H' :Hp}{d:Addr}{o:HO}(s:av H H')(n:H d=none):av H (upd H' d o):=fun b o' e=>by
 rw [ao (fun z=>by rw [z,n] at e;cases e)]
 exact s _ _ e
theorem kF.at {H:Hp}{kvs:List (Key×V)}{nd:List (Nat×List Int)}(h:kF H kvs nd){i:Nat}{x:Nat×List Int}(e:nd[i]? =some x):∃v,kvs[i]? =some (.inl (x.1:Int),v)∧Ln H v x.2:=by
 have hi:i < nd.length:=(be.mp e).1
 have hl:=h.1
 have e2:kvs[i]? =some (kvs[i]'(by omega)):=gE (by omega)
 obtain ⟨a,b⟩:=h.2 i _ x e2 e
 exact ⟨(kvs[i]'(by omega)).2,by rw [e2, ← a],b⟩
theorem kF.keys {H:Hp}{kvs:List (Key×V)}{nd:List (Nat×List Int)}(h:kF H kvs nd):kvs.map (·.1)=nd.map (fun x=>(afq (x.1:Int):Key)):=by
 refine aec fun i=> ?_
 have hl:=h.1
 rw [ir,ir]
 by_cases hi:i < nd.length
 ·have e:nd[i]? =some nd[i]:=gE hi
  obtain ⟨v,e2,_⟩:=h.at e
  rw [e,e2]
  rfl
 ·rw [ab_ (by omega),ab_ (by omega)]
  rfl
theorem jg {k:Key}{v:V}:∀{kvs:List (Key×V)} {i:Nat},(kvs.map (·.1)).Nodup→kvs[i]? =some (k,v)→bV kvs k=some v
 | [],_,_,e=>by simp at e
 | p::r,0,_,e=>by
  cases e
  exact bH (p:=(k,v)) rfl
 | p::r,i+1,n,e=>by
  rw [ac_,ad8] at n
  have e' :r[i]? =some (k,v):=by simpa using e
  have ne:¬ p.1=k:=fun z=>n.1 (by rw [z];exact abt.mpr ⟨(k,v),aa_ e',rfl⟩)
  rw [bw ne]
  exact jg n.2 e'
theorem jh {k:Key}:∀{kvs:List (Key×V)},k∉kvs.map (·.1)→bV kvs k=none
 | [],_=>rfl
 | p::r,h=>by
  have h' :k≠p.1∧k∉r.map (·.1):=by simpa using h
  rw [bw (fun z=>h'.1 z.symm)]
  exact jh h'.2
theorem map_put {k:Key}{v v' :V}:∀{kvs:List (Key×V)} {i:Nat},(kvs.map (·.1)).Nodup→kvs[i]? =some (k,v)→kvs.map (fun kv=>if kv.1=k then (kv.1,v') else kv)=kvs.set i (k,v')
 | [],_,_,e=>by simp at e
 | p::r,0,n,e=>by
  rw [ac_,ad8] at n
  cases e
  have hr:r.map (fun kv=>if kv.1=k then (kv.1,v') else kv)=r:=by
   refine (ad2 (fun q hq=> ?_)).trans (List.map_id r)
   have ne:¬ q.1=k:=fun z=>n.1 (by show k∈_;rw [← z];exact abt.mpr ⟨q,hq,rfl⟩)
   rw [if_neg ne]
   rfl
  rw [ac_,hr,if_pos rfl,List.set_cons_zero]
 | p::r,i+1,n,e=>by
  rw [ac_,ad8] at n
  have e' :r[i]? =some (k,v):=by simpa using e
  have ne:¬ p.1=k:=fun z=>n.1 (by rw [z];exact abt.mpr ⟨(k,v),aa_ e',rfl⟩)
  rw [ac_,if_neg ne,map_put n.2 e',List.set_cons_succ]
theorem IC {k:Key}{v v' :V}{kvs:List (Key×V)}{i:Nat}(n:(kvs.map (·.1)).Nodup)(e:kvs[i]? =some (k,v)):putK kvs k v' =kvs.set i (k,v'):=by
 unfold putK
 rw [fN,jg n e]
 exact map_put n e
theorem kF.set {H:Hp}{kvs:List (Key×V)}{nd:List (Nat×List Int)}(h:kF H kvs nd){i c:Nat}{v:V}{l:List Int}(hv:Ln H v l):kF H (kvs.set i (.inl (c:Int),v)) (nd.set i (c,l)):=by
 have hl:=h.1
 refine ⟨by simp [hl],fun j kv x e1 e2=> ?_⟩
 rw [ad'] at e1 e2
 by_cases z:i=j
 ·subst z
  rw [if_pos rfl] at e1 e2
  by_cases hi:i < kvs.length
  ·rw [if_pos hi] at e1
   rw [if_pos (by omega)] at e2
   cases e1
   cases e2
   exact ⟨rfl,hv⟩
  ·rw [if_neg hi] at e1
   cases e1
 ·rw [if_neg z] at e1 e2
  exact h.2 j kv x e1 e2
theorem kF.snoc {H:Hp}{kvs:List (Key×V)}{nd:List (Nat×List Int)}(h:kF H kvs nd){c:Nat}{v:V}{l:List Int}(hv:Ln H v l):kF H (kvs++[(.inl (c:Int),v)]) (nd++[(c,l)]):=by
 have hl:=h.1
 refine ⟨by simp [hl],fun j kv x e1 e2=> ?_⟩
 by_cases z:j < kvs.length
 ·rw [adI z] at e1
  rw [adI (by omega)] at e2
  exact h.2 j kv x e1 e2
 ·rw [adN (by omega)] at e1 e2
  rw [← hl] at e2
  by_cases y:j - kvs.length=0
  ·rw [y] at e1 e2
   cases e1
   cases e2
   exact ⟨rfl,hv⟩
  ·rw [ab_ (by simp;omega)] at e1
   cases e1
theorem keys_nodup:∀{nd:List (Nat×List Int)},(nd.map (·.1)).Pairwise (· < ·)→(nd.map (fun x=>(afq (x.1:Int):Key))).Nodup
 | [],_=>by simp
 | x::r,h=>by
  rw [ac_,List.pairwise_cons] at h
  rw [ac_,ad8]
  refine ⟨fun z=> ?_,keys_nodup h.2⟩
  obtain ⟨y,hy,e⟩:=abt.mp z
  have e' :(y.1:Int)=x.1:=ag_ e
  have:=h.1 y.1 (abt.mpr ⟨y,hy,rfl⟩)
  omega
def bb (b k:Nat):Nat:=(k+1)*(b+11)
theorem qQ (b:Nat){k m:Nat}(h:k≤m):bb b k≤bb b m:=ad0 _ (by omega)
theorem qR (b k:Nat):b≤bb b k:=by
 unfold bb
 rw [aev,amX]
 omega
theorem Red.WC {os:List (List Int)}{L c b:Nat}{nd:List (Nat×List Int)}{lv:List (List Int)}(R:Red os L c b nd lv):AA nd:=⟨R.asc.imp fun h e=>by omega,R.here,R.off⟩
def Pr (os:List (List Int))(l:List Int):Prop:=l∈os∨LF l
theorem Red.small {os:List (List Int)}{L c b b0 k:Nat}{nd:List (Nat×List Int)}{lv ps qs:List (List Int)}(R:Red os L c b nd lv)(O:AB os nd lv ps qs)(hb:∀o∈os,Bd b0 o)(hk:nd.length≤k)(Ng:k≤1000)(pN:∀x∈nd,Pr os x.2)(pL:∀l∈lv,Pr os l):Red os L c (bb b0 k) nd lv:=by
 have le:∀{n:Nat},n≤(nd.length+1)*((2*(nd.length+1)*2^b0)^nd.length*2^b0)→n≤2^bb b0 k:=fun {n} h=>adF h (adF (LD (by omega)) (adV (by decide) (ad0 _ (by omega))))
 have z:∀{n:Nat},n=0→n≤2^bb b0 k:=fun {n} h=>by rw [h];exact aeg _
 refine {R with AE:=fun x hx j=> ?_,CY:=fun l hl j=> ?_}
 ·rcases pN x hx with h | h | h
  ·exact adF (hb _ h j) (adV (by decide) (qR _ _))
  ·exact le (O.need R.WC hx hb h j)
  ·exact z (by rw [h j];rfl)
 ·rcases pL l hl with h | h | h
  ·exact adF (hb _ h j) (adV (by decide) (qR _ _))
  ·obtain ⟨i,ei⟩:=adD hl
   exact le (O.left R.WC ei (fun x hx=>R.zero l hl x.1 (R.cols x hx)) hb h j)
  ·exact z (by rw [h j];rfl)
theorem lY {xs:List V}{i:Nat}(h:i≤xs.length):fZ xs none (some (i:Int))=xs.take i:=by
 unfold fZ
 rw [HT.lM,HT.sE,afo h]
 rfl
theorem pI {xs:List V}{i:Nat}(h:i≤xs.length):fZ xs (some (i:Int)) none=xs.drop i:=by
 unfold fZ
 rw [HT.lM,HT.sE,afo h]
 exact aeI (by simp)
theorem Red.up {os:List (List Int)}{L c b b' :Nat}{nd:List (Nat×List Int)}{lv:List (List Int)}(h:Red os L c b nd lv)(hb:b≤b'):Red os L c b' nd lv:={h with AE:=fun x hx=>(h.AE x hx).up hb,CY:=fun x hx=>(h.CY x hx).up hb}
theorem mZ.erase {H:Hp}{us:List V}{ls:List (List Int)}(h:mZ H us ls)(j:Nat):mZ H (us.eraseIdx j) (ls.eraseIdx j):=by
 have hl:=h.1
 refine ⟨by rw [aeR,aeR,hl],fun i u l e1 e2=> ?_⟩
 rw [aeW] at e1 e2
 by_cases z:i < j
 ·rw [if_pos z] at e1 e2
  exact h.2 _ _ _ e1 e2
 ·rw [if_neg z] at e1 e2
  exact h.2 _ _ _ e1 e2
theorem g9 {α β:Type}{P:Nat→α→β→Prop}:∀(xs:List α),(∀i x,xs[i]? =some x→∃y,P i x y)→∃ys:List β,ys.length=xs.length∧∀i x y,xs[i]? =some x→ys[i]? =some y→P i x y
 | [],_=>⟨[],rfl,fun i x y e=>by simp at e⟩
 | x::xs,h=>by
  obtain ⟨y,hy⟩:=h 0 x rfl
  obtain ⟨ys,hl,hp⟩:=g9 (P:=fun i=>P (i+1)) xs (fun i x e=>h (i+1) x (by simpa using e))
  refine ⟨y::ys,by simp [hl],fun i x' y' e1 e2=> ?_⟩
  cases i with
  | zero=>
   cases e1
   cases e2
   exact hy
  | succ i=>exact hp i x' y' (by simpa using e1) (by simpa using e2)
inductive g_ (K:Frag)(vs:List V)(H:Hp)(Q:VK)(E_:XK):Prop where
 | mk (a:Addr) (us:List V) (os:List (List Int:_)) (L m b:Nat) (_:vs=[.ref a,.int (m:Int)]) (_:aV K H a us) (_:mZ H us os) (_:(∀o∈os,o.length=L)) (_:m≤L) (_:L≤1000) (_:os.length≤1000) (_:(∀o∈os,Bd b o)) (_:bb b (min m os.length)≤29000000) (_:∀(p d a' :Addr) (kvs:List (Key×V)) (lZ :List V) (nd:List (Nat×List Int)) (lv:List (List Int)) (H' :Hp),av H H' →H d=none→H p=none→H' p=some (.tup [.ref d,.ref a'])→H' d=some (.dK kvs)→aV K H' a' lZ →kF H' kvs nd→mZ H' lZ lv→Red os L m (bb b (min m os.length)) nd lv→Q (.ref p) H'):g_ K vs H Q E_
theorem kG:aG ["lines","many","needed","left","column","at","lead","place"] ["lines","many"] (af yM):=sq
theorem Pf (D:Def K mg "reduced" yM ["lines","many"])(aX:mg "range"=none)(cZ:mg "list"=none)(WD:Fn P w K mg base (a_ P w) 1 "first_not_nought" ["lines","column"] (qP K))(Pg:Fn P w K mg base (a_ P w) 34 "cleared" ["line","lead","column"] ka):Fn P w K mg base (a_ P w) 35 "reduced" ["lines","many"] (g_ K):=by
 refine D.ok kG (fun vs H Q E h=> ?_) (fun f bD A outer s H vs Q E hr h=> ?_)
 ·obtain ⟨a,us,os,L,m,b,rfl,_⟩:=h
  rfl
 obtain ⟨a,us,os,L,m,b,rfl,hS,hL,hlen,hm,J8,ho,hB,hb,q⟩:=h
 refine ⟨_,(ae (ay (i:=2) kG.nd rfl (adH rfl) cV)
  (ae (ay (i:=3) kG.nd rfl (adH rfl) (pv 0))
  (ae (bq PassesOwn.never rfl (bE rfl aX (au (pv 1) aa)) (aH (i:=4) kG.nd rfl (aex rfl)) (ae (ay (i:=5) kG.nd rfl (adH rfl) (aC WD hr.mo pX (au (pv 3) (au (pv 4) aa))))
   (ae (bG (bf AX (pv 5) mj (bu _)) (aj r9) aY)
   (ae (ay (i:=6) kG.nd rfl (aex rfl) (aU aK (pv 3) (pv 5) (fun _ _=>rfl)))
   (ae (lR (i:=3) kG.nd rfl (adH rfl) (tn:=["line"]) (fr:=["lead","column"]) (caps:=[6,4]) rfl ⟨rfl,by decide+kernel,rfl,by decide+kernel,by decide+kernel,rfl,⟨(by first | exact adH rfl | exact aex rfl),⟨(by first | exact adH rfl | exact aex rfl),trivial⟩⟩,⟨(by first | exact adH rfl | exact aex rfl),⟨(by first | exact adH rfl | exact aex rfl),trivial⟩⟩⟩ (bR (aI iy (dI f9 (pv 3) fY (dS (pv 5))) (dI f9 (pv 3) (dS (aI bU (pv 5) ag)) fY))) (fun _ _ _ _=>(aH (i:=0) (show (["line","lead","column"]:List Str).Nodup from by decide+kernel) rfl (adH rfl))) (fun _ _ _ _=>dA) (fun _ _ _ _=>(aC Pg hr.mo (wO (by first | assumption | exact a_.sT) rfl) (au (pv 0) (au (pv 1) (au (pv 2) aa))))))
   (ae (bq PassesOwn.never rfl (bR (dY (iC rfl) rfl cZ mH (au (pv 2) aa))) (aH (i:=7) kG.nd rfl (adH rfl)) (aj (di (b6 hr) (pv 2) (pv 7) (aC Pg hr.mo pX (au (cM (b6 hr) (pv 2) (pv 7) (fun _ _=>rfl)) (au (pv 6) (au (pv 4) aa)))) rfl)))
   (aj (di (b6 hr) (pv 2) (pv 4) (pv 6) rfl))))))))
  (aj (aL (aZ (au (pv 2) (au (pv 3) aa)))))))),?_⟩
 refine fun d CZ=> ?_
 have s0:av H (upd H d (.dK [])):=aD CZ _
 refine ⟨_,rfl,_,rfl,_,rfl,by omega,by omega,?_⟩
 refine bF (lo:=0) (n:=m) (fun i σ H' =>∃(al:Addr) (m4:List V) (kvs:List (Key×V)) (nd:List (Nat×List Int)) (lv:List (List Int)) (o4 o5 o6 o7:Option V),σ=[some (.ref a),some (.int (m:Int)),some (.ref d),some (.ref al),o4,o5,o6,o7]∧av H H' ∧H' d=some (.dK kvs)∧aV K H' al m4∧mZ H' m4 lv∧kF H' kvs nd∧nd.length≤i∧Red os L i (bb b (min m os.length)) nd lv∧(∃ps qs,AB os nd lv ps qs)∧(∀x∈nd,Pr os x.2)∧∀l∈lv,Pr os l)
  ⟨a,us,[],[],os,none,none,none,none,rfl,s0,ah,s0.seq hS,hL.same s0,⟨rfl,by simp⟩,adL _,(Red.start hlen hB).up (qR _ _),⟨[],os,AB.start os⟩,(by simp),fun l hl=>.inl hl⟩ ?_ ?_
 ·rintro i σ H1 hi ⟨al,m4,kvs,nd,lv,o4,o5,o6,o7,rfl,s1,hd,ID,zC,hN,hni,R,⟨ps,qs,O⟩,pN,pL⟩
  refine ⟨_,rfl,_,rfl,al,m4,lv,i,by rw [ad9];rfl,ID,zC,fun l hl=>by rw [R.iE l hl];omega,fun j lead H2 s2 ej hj=> ?_,fun hz H2 s2=> ?_⟩
  ·have hjl:j < lv.length:=(be.mp ej).1
   have hul:=zC.1
   have cnt:=R.cnt
   have U_:=hb
   have hd2:=s2 _ _ hd
   have O4:=s2.seq ID
   have J9:=zC.same s2
   have WE:=hN.same s2
   obtain ⟨u,eu,hu⟩:=J9.at' ej
   have eK:lead∈lv:=aa_ ej
   refine ⟨_,rfl,rfl,_,rfl,?_⟩
   refine bM (fun z=>by simp at z) (fun _=> ?_)
   refine ⟨_,rfl,_,rfl,al,_,_,_,rfl,rfl,O4,bh eu,?_⟩
   refine ⟨_,rfl,_,rfl,_,rfl,al,m4,rfl,O4,fun p1 n1=> ?_⟩
   have t1:=aD n1 (.lst (fZ m4 none (some (j:Int))))
   refine ⟨_,rfl,_,rfl,_,_,rfl,rfl,_,rfl,al,m4,rfl,t1.seq O4,fun p2 n2=> ?_⟩
   have t2:=aD n2 (.lst (fZ m4 (some ((j:Int)+1)) none))
   have Ph:fZ m4 none (some (j:Int))++fZ m4 (some ((j:Int)+1)) none=m4.eraseIdx j:=by
    rw [lY (by omega),show ((j:Int)+1)=((j+1:Nat):Int) from by omega,pI (by omega),List.eraseIdx_eq_take_drop_succ]
   have WG:(fZ m4 none (some (j:Int))).length+(fZ m4 (some ((j:Int)+1)) none).length≤sizeLine:=by
    rw [← adK,Ph]
    exact adF (adF (amx ..) (show m4.length≤1000 by omega)) (by decide)
   refine ⟨p1,p2,_,_,rfl,rfl,t2 _ _ ah,ah,WG,fun p3 n3=> ?_⟩
   have t3:=aD n3 (.lst (fZ m4 none (some (j:Int))++fZ m4 (some ((j:Int)+1)) none))
   refine ⟨p3,rfl,⟨_,aV.of ah⟩,fun D nD=> ?_⟩
   have tt:=(t1.trans t2).trans t3
   have hE:=(J9.same tt).erase j
   have Va:=hu.same tt
   have er:(m4.eraseIdx j).length≤1000:=adF (amx ..) (show m4.length≤1000 by omega)
   refine iB (cap:=[some u,some (.int ((0:Int)+i))]) (K:=K) (a:=p3) (xs:=m4.eraseIdx j) (fun k v H=>∃x y p,(lv.eraseIdx j)[k]? =some x∧v=.ref p∧p≠D∧H p=some (.lst (y.map V.int))∧oj x lead y i∧Bd (2*bb b (min m os.length)+1) y∧(y=x∨LF y)) nD (adO er (by decide)) (fun H3 s3=>aV.of (s3 _ _ (by rw [ah,Ph]))) ?_ ?_ ?_
   ·rintro k v H3 H4 ys hD3 ks ⟨x,y,p,e1,e2,e3,e4,e5⟩
    exact ⟨x,y,p,e1,e2,e3,ks _ _ e3 e4,e5⟩
   ·rintro k x H3 RR ex s3 ⟨Vb,WH⟩ kk
    obtain ⟨l,el,hl⟩:=hE.at ex
    have yh:l∈lv:=aeT (aa_ el)
    have hll:=R.iE l yh
    have WI:=R.iE lead eK
    refine ⟨_,rfl,_,rfl,_,rfl,x,u,l,lead,i,bb b (min m os.length),bb b (min m os.length),by rw [ad9];rfl,hl.same s3,Va.same s3,by rw [hll,WI],by omega,by omega,hj,R.CY l yh,R.CY lead eK,U_,U_,fun v' l' H4 s4 L4 cl bd pz fr=> ?_⟩
    obtain ⟨p,e1,e2⟩:=L4
    refine kk v' H4 s4 ⟨l,l',p,el,e1,?_,e2,cl,by rw [Nat.two_mul];exact bd,pz⟩
    rcases fr with z | ⟨p',z,n⟩
    ·obtain ⟨J_,z1,z2⟩:=hl
     rw [z1,e1] at z
     cases z
     exact aq z2 nD
    ·rw [e1] at z
     cases z
     exact fun y=>by rw [y,WH] at n;cases n
   ·intro ys H3 hy gO s3 hD
    obtain ⟨vp,WA,hp⟩:=g9 (P:=fun k v y=>∃x p,(lv.eraseIdx j)[k]? =some x∧v=.ref p∧p≠D∧H3 p=some (.lst (y.map V.int))∧oj x lead y i∧Bd (2*bb b (min m os.length)+1) y∧(y=x∨LF y)) ys (fun k v e=>by
     obtain ⟨x,y,p,r⟩:=gO k v e
     exact ⟨y,x,p,r⟩)
    have hLn:mZ H3 ys vp :=⟨WA.symm,fun k v y e1 e2=>by
     obtain ⟨x,p,_,e,_,r,_⟩:=hp k v y e1 e2
     exact ⟨p,e,r⟩⟩
    have les:(m4.eraseIdx j).length=(lv.eraseIdx j).length:=hE.1
    have ML:Made os lead i (2*bb b (min m os.length)+1) (lv.eraseIdx j) vp :=⟨by omega,fun k x e=>by
     have hk:k < (lv.eraseIdx j).length:=(be.mp e).1
     have e1:ys[k]? =some (ys[k]'(by omega)):=gE (by omega)
     have e2:vp[k]? =some (vp[k]'(by omega)):=gE (by omega)
     obtain ⟨x',p,r1,_,_,_,r2,r3,_⟩:=hp k _ _ e1 e2
     rw [e] at r1
     cases r1
     exact ⟨_,e2,r2,r3⟩⟩
    have PL:∀l∈vp,Pr os l:=fun l hl=>by
     obtain ⟨k,ek⟩:=adD hl
     have hk:k < vp.length:=(be.mp ek).1
     have e1:ys[k]? =some (ys[k]'(by omega)):=gE (by omega)
     obtain ⟨x',p,r1,_,_,_,_,_,r4⟩:=hp k _ _ e1 ek
     rcases r4 with z | z
     ·rw [z]
      exact pL x' (aeT (aa_ r1))
     ·exact .inr z
    have LC:=tt.trans s3
    have WJ:=LC _ _ hd2
    have hN3:=WE.same LC
    have hu4:=Va.same s3
    refine ⟨_,rfl,d,kvs,rfl,Rd.of WJ,fun l3 n3=> ?_⟩
    have t4:=aD n3 (.lst (kvs.map fun kv=>kV kv.1))
    refine ⟨l3,rfl,⟨_,aV.of ah⟩,?_⟩
    have dl:d≠l3:=aq WJ n3
    refine cT (K:=K) (a:=l3) (xs:=kvs.map fun kv=>kV kv.1) (fun t σ H' =>∃(o7:Option V) (qS :List (Key×V)) (h_ :List (Nat×List Int)),σ=[some (.ref a),some (.int (m:Int)),some (.ref d),some (.ref D),some (.int ((0:Int)+i)),some (.int (j:Int)),some u,o7]∧av H H' ∧H' d=some (.dK qS)∧H' l3=some (.lst (kvs.map fun kv=>kV kv.1))∧H' D=some (.lst ys)∧mZ H' ys vp ∧Ln H' u lead∧kF H' qS h_ ∧h_.map (·.1)=nd.map (·.1)∧
      ∀(k:Nat) (x:Nat×List Int),nd[k]? =some x→∃y,h_[k]? =some (x.1,y)∧(t≤k→y=x.2)∧(k < t→(oj x.2 lead y i∧Bd (2*bb b (min m os.length)+1) y)∧(y=x.2∨LF y)))
     ⟨_,kvs,nd,rfl,((s1.trans s2).trans LC).trans t4,t4 _ _ WJ,ah,t4 _ _ hD,hLn.same t4,hu4.same t4,hN3.same t4,rfl,fun k x e=>⟨x.2,e,fun _=>rfl,fun z=>absurd z (aeA _)⟩⟩ (fun t σ H' _ h=>by
      obtain ⟨_,_,_,_,_,_,h,_⟩:=h
      exact aV.of h) ?_ ?_
    ·rintro t u7 σ H4 hu7 ⟨o7,qS,h_,rfl,s4,zD,hl4,Pj,WK,Vc,FK,LG,Nh⟩
     rw [ir] at hu7
     obtain ⟨kv,m5,rfl⟩:=adM.mp hu7
     have htl:t < kvs.length:=(be.mp m5).1
     have hnl:=hN.1
     have ex:nd[t]? =some (nd[t]'(by omega)):=gE (by omega)
     obtain ⟨x,hx⟩:∃x,nd[t]? =some x:=⟨_,ex⟩
     obtain ⟨kx,hxm⟩:kv.1=.inl (x.1:Int)∧x∈nd:=⟨(hN3.2 t kv x m5 hx).1,aa_ hx⟩
     obtain ⟨y,ey,y1,_⟩:=Nh t x hx
     have y2:=y1 (adL _)
     subst y2
     obtain ⟨v,ev,hv⟩:=FK.at ey
     have nk:(qS.map (·.1)).Nodup:=by
      rw [FK.keys]
      exact keys_nodup (by rw [LG];exact R.asc)
     have WL:=jg nk ev
     have hxl:=R.lh x hxm
     have WI:=R.iE lead eK
     have dg:cL H4 d (kV kv.1) (some v):=by
      rw [kx, ← WL]
      exact cL.k zD
     refine ⟨_,rfl,_,rfl,d,v,rfl,dg,_,rfl,_,rfl,v,u,x.2,lead,i,bb b (min m os.length),bb b (min m os.length),by rw [ad9];rfl,hv,Vc,by rw [hxl,WI],by omega,by omega,hj,R.AE x hxm,R.CY lead eK,U_,U_,fun v' l' H5 s5 L5 cl bd pz fr=> ?_⟩
     have LH:=s5 _ _ zD
     have l4' :=FK.1
     have WM :h_.length=nd.length:=by simpa using congrArg aeE LG
     refine ⟨_,rfl,_,rfl,d,_,rfl,h7.k LH (adO (show qS.length≤1000 by omega) (by decide)),?_⟩
     rw [kx,IC nk ev]
     have dn:d≠D:=fun z=>by rw [z,Pj] at zD;cases zD
     refine ⟨_,qS.set t (.inl (x.1:Int),v'),h_.set t (x.1,l'),rfl,fS (s4.trans s5) CZ,ah,by rw [ao (ad7 dl)];exact s5 _ _ hl4,by rw [ao (ad7 dn)];exact s5 _ _ Pj,(WK.same s5).put LH,(Vc.same s5).put LH,((FK.same s5).set L5).put LH,?_,fun k x' ek=> ?_⟩
     ·rw [List.map_set,LG]
      refine aec fun k=> ?_
      rw [ad']
      by_cases z:t=k
      ·subst z
       rw [if_pos rfl,if_pos (by simp;omega),ir,hx]
       rfl
      ·rw [if_neg z]
     ·obtain ⟨y',AD,a1,a2⟩:=Nh k x' ek
      by_cases z:t=k
      ·subst z
       rw [hx] at ek
       cases ek
       refine ⟨l',by rw [ad',if_pos rfl,if_pos (by omega)],fun w=>by omega,fun _=>⟨⟨cl,by rw [Nat.two_mul];exact bd⟩,pz⟩⟩
      ·exact ⟨y',by rw [ad',if_neg z];exact AD,fun w=>a1 (by omega),fun w=>a2 (by omega)⟩
    ·rintro σ H4 ⟨o7,qS,h_,rfl,s4,zD,hl4,Pj,WK,Vc,FK,LG,Nh⟩
     have l4' :=FK.1
     have WM :h_.length=nd.length:=by simpa using congrArg aeE LG
     have hnl:=hN.1
     rw [Wp] at Nh
     have MN:Made os lead i (2*bb b (min m os.length)+1) (nd.map (·.2)) (h_.map (·.2)):=⟨by simp [WM],fun k x e=>by
      rw [ir] at e
      obtain ⟨x0,e0,rfl⟩:=adM.mp e
      have hk:k < nd.length:=(be.mp e0).1
      obtain ⟨y,ey,_,a2⟩:=Nh k x0 e0
      exact ⟨y,by rw [ir,ey];rfl,(a2 (by omega)).1⟩⟩
     have Pk:bV qS (.inl ((0:Int)+i))=none:=jh (fun z=>by
      rw [FK.keys] at z
      obtain ⟨x',uH,e⟩:=abt.mp z
      have e1:(x'.1:Int)=0+i:=ag_ e
      have:x'.1∈nd.map (·.1):=by rw [← LG];exact abt.mpr ⟨x',uH,rfl⟩
      obtain ⟨x,hx,e2⟩:=abt.mp this
      have:=R.cols x hx
      omega)
     refine ⟨_,rfl,_,rfl,_,rfl,d,_,rfl,h7.k (k:=.inl ((0:Int)+i)) zD (adO (show qS.length≤1000 by omega) (by decide)),?_⟩
     rw [cF u Pk]
     have dn:d≠D:=fun z=>by rw [z,Pj] at zD;cases zD
     have WN:∀l∈lv.eraseIdx j,l∈lv:=fun l h=>aeT h
     have WO:∀l∈lv,l=lead∨l∈lv.eraseIdx j:=fun l h=>by
      obtain ⟨k,ek⟩:=adD h
      rcases Nat.lt_trichotomy k j with z | z | z
      ·exact .inr (aa_ (i:=k) (by rw [aeW,if_pos z];exact ek))
      ·subst z
       rw [ej] at ek
       cases ek
       exact .inl rfl
      ·exact .inr (aa_ (i:=k - 1) (by rw [aeW,if_neg (by omega),show k - 1+1=k by omega];exact ek))
     have WQ:(lv.eraseIdx j).length+1=lv.length:=by rw [aeR,if_pos hjl];omega
     have R2:=R.step eK WN WO WQ hj ML LG MN
     obtain ⟨Wx,Nf,O2⟩:=O.step R.WC ej (fun x hx=>R.zero lead eK x.1 (R.cols x hx)) hj ML.len (fun k x e=>by
      obtain ⟨y,ey,k1,_⟩:=ML.to k x e
      exact ⟨y,ey,k1⟩) WM fun k x e=>by
      obtain ⟨y,ey,k1,_⟩:=MN.to k x e
      exact ⟨y,ey,k1⟩
     have PN:∀x∈h_ ++[(i,lead)],Pr os x.2:=fun x hx=>by
      rcases adQ.mp hx with z | z
      ·obtain ⟨k,ek⟩:=adD z
       have hk:k < h_.length:=(be.mp ek).1
       obtain ⟨x0,e0⟩:∃x0,nd[k]? =some x0:=⟨_,gE (by omega)⟩
       obtain ⟨y,ey,_,a2⟩:=Nh k x0 e0
       rw [ek] at ey
       cases ey
       rcases (a2 (by omega)).2 with u | u
       ·show Pr os y
        rw [u]
        exact pN x0 (aa_ e0)
       ·exact .inr u
      ·rw [adJ.mp z]
       exact pL lead eK
     have Pl:=R2.cnt
     have R3:=R2.small O2 hB (k:=min m os.length) (by rw [adK] at Pl ⊢;simp at Pl ⊢;omega) (by omega) PN PL
     refine ⟨D,ys,_,h_ ++[(i,lead)],vp,_,_,_,_,rfl,fS s4 CZ,ah,aV.of (by rw [ao (ad7 dn)];exact Pj),WK.put zD,(by rw [ad9];exact (FK.snoc Vc).put zD),by simp;omega,R3,⟨Wx,Nf,O2⟩,PN,PL⟩
  ·refine ⟨_,rfl,rfl,_,rfl,?_⟩
   refine bM (fun _=> ?_) (fun z=>by simp at z)
   exact ⟨al,m4,kvs,nd,lv,_,_,_,_,rfl,s1.trans s2,s2 _ _ hd,s2.seq ID,zC.same s2,hN.same s2,by omega,R.skip hz,⟨ps,qs,O⟩,pN,pL⟩
 ·rintro σ H1 ⟨al,m4,kvs,nd,lv,o4,o5,o6,o7,rfl,s1,hd,ID,zC,hN,hni,R,⟨ps,qs,O⟩,pN,pL⟩
  refine ⟨_,rfl,_,rfl,(by show 2≤sizeLine;decide),fun p np=> ?_⟩
  have sp:=aD np (.tup [.ref d,.ref al])
  have cnt:=R.cnt
  exact q p d al kvs m4 nd lv _ (s1.trans sp) CZ (s1.free np) ah (sp _ _ hd) (sp.seq ID) (hN.same sp) (zC.same sp) R
theorem qT {t b:Int}{T B:Nat}(hb:b≠0)(h1:t.natAbs≤2^T)(h2:b.natAbs≤2^B):Sm T B (low t b):=⟨i9 hb,lQ hb,adF (mE hb) h1,adF (mF hb) h2⟩
theorem jk {l:List Int}{j:Nat}(h:l.length≤j):l.getD j 0=0:=by
 rw [adC,ab_ h]
 rfl
def tX (m t:Nat)(nd:List (Nat×List Int))(qs:List (Int×Int)):Prop:=qs.length=m∧(∀i,i < t→∀x,nd[i]? =some x→qs[x.1]? =some (low (x.2.getD m 0) (x.2.getD x.1 0)))∧∀j,j < m→(∀i,i < t→∀x,nd[i]? =some x→x.1≠j)→qs[j]? =some (0,1)
theorem tX.sm {os:List (List Int)}{m b:Nat}{nd:List (Nat×List Int)}{lv:List (List Int)}{qs:List (Int×Int)}(R:Red os (m+1) m b nd lv)(F:tX m nd.length nd qs):∀q∈qs,Sm b b q:=by
 intro q hq
 obtain ⟨j,hj⟩:=adD hq
 have WR:j < m:=by have:=(be.mp hj).1;rw [← F.1];exact this
 by_cases c:∃(i:Nat) (x:Nat×List Int),nd[i]? =some x∧x.1=j
 ·obtain ⟨i,x,e,rfl⟩:=c
  have hi:i < nd.length:=(be.mp e).1
  have h1:=F.2.1 i hi x e
  rw [hj] at h1
  cases h1
  have hm:=aa_ e
  exact qT (R.here x hm) (R.AE x hm m) (R.AE x hm x.1)
 ·have h1:=F.2.2 j WR (fun i _ x e z=>c ⟨i,x,e,z⟩)
  rw [hj] at h1
  cases h1
  exact ⟨by decide,by decide,aeg _,aeC⟩
theorem tX.sol {os:List (List Int)}{m b:Nat}{nd:List (Nat×List Int)}{lv:List (List Int)}{qs:List (Int×Int)}(R:Red os (m+1) m b nd lv)(F:tX m nd.length nd qs)(hz:∀l∈lv,l.getD m 0=0):∀o∈os,ev o (kz (qs.map vl))=0:=by
 have ql:=F.1
 have zl:∀j q,qs[j]? =some q→kz (qs.map vl) j=vl q:=fun j q e=>by
  have hj:j < qs.length:=(be.mp e).1
  unfold kz
  rw [if_pos (by rw [Wp];exact hj),adC,ir,e]
  rfl
 have zm:kz (qs.map vl) m= -1:=by
  unfold kz
  rw [if_neg (by rw [Wp];omega)]
 refine (R.sol _).mp ⟨fun x hx=> ?_,fun l hl=> ?_⟩
 ·obtain ⟨i,e⟩:=adD hx
  have hi:i < nd.length:=(be.mp e).1
  have hc:=R.cols x hx
  have hh:=R.here x hx
  have h1:=F.2.1 i hi x e
  have zc:=zl _ _ h1
  rw [jZ hh] at zc
  have other:∀j,j≠x.1→j≠m→((x.2.getD j 0:Int):Rat)*kz (qs.map vl) j=0:=by
   intro j n1 n2
   by_cases hj:j < m
   ·by_cases c:∃(i:Nat) (x:Nat×List Int),nd[i]? =some x∧x.1=j
    ·obtain ⟨i',y,e',rfl⟩:=c
     rw [R.off x hx y (aa_ e') (ad7 n1)]
     simp
    ·have h2:=F.2.2 j hj (fun i _ x e z=>c ⟨i,x,e,z⟩)
     rw [zl _ _ h2]
     unfold vl
     simp
     grind
   ·rw [jk (by rw [R.lh x hx];omega)]
    simp
  have sp:kz (qs.map vl)=fun i=>(if i=m then 0 else kz (qs.map vl) i)+(if i=m then -1 else 0):=by
   funext i
   by_cases z:i=m
   ·rw [if_pos z,if_pos z,z,zm]
    grind
   ·rw [if_neg z,if_neg z]
    grind
  rw [sp,ve]
  have a1:=j6 x.2 (fun i=>if i=m then 0 else kz (qs.map vl) i) x.1 (fun j hj=>by
   by_cases z:j=m
   ·simp [z]
   ·rw [if_neg z]
    exact other j hj z)
  have a2:=j6 x.2 (fun i=>if i=m then (-1:Rat) else 0) m (fun j hj=>by rw [if_neg hj];simp)
  rw [a1,a2]
  rw [if_neg (by omega),if_pos rfl,zc]
  have hh' :=cw hh
  grind
 ·refine lX l _ (fun j=> ?_)
  have:l.getD j 0=0:=by
   by_cases h1:j < m
   ·exact R.zero l hl j h1
   ·by_cases h2:j=m
    ·rw [h2]
     exact hz l hl
    ·exact jk (by rw [R.iE l hl];omega)
  rw [this]
  simp
theorem tX.put {m t b:Nat}{os:List (List Int)}{nd:List (Nat×List Int)}{lv:List (List Int)}{qs:List (Int×Int)}{x:Nat×List Int}(R:Red os (m+1) m b nd lv)(F:tX m t nd qs)(e:nd[t]? =some x):tX m (t+1) nd (qs.set x.1 (low (x.2.getD m 0) (x.2.getD x.1 0))):=by
 have ql:=F.1
 have hx:=R.cols x (aa_ e)
 have WS:∀i y,i < t→nd[i]? =some y→y.1≠x.1:=fun i y hi ey=>by
  have a:=af_.mp R.asc i t (by rw [Wp];exact (be.mp ey).1) (by rw [Wp];exact (be.mp e).1) hi
  simp only [ans] at a
  have e1:=(be.mp ey).2
  have e2:=(be.mp e).2
  rw [e1,e2] at a
  omega
 refine ⟨by simp [ql],fun i hi y ey=> ?_,fun j hj h=> ?_⟩
 ·rcases ael.mp hi with z | z
  ·rw [ad',if_neg (ad7 (WS i y z ey))]
   exact F.2.1 i z y ey
  ·subst z
   rw [e] at ey
   cases ey
   rw [ad',if_pos rfl,if_pos (by omega)]
 ·rw [ad',if_neg (h t (aef _) x e)]
  exact F.2.2 j hj (fun i hi y ey=>h i (aeG hi) y ey)
theorem vx {n j:Nat}(h:j < n):FF n (j:Int)=some j:=by
 unfold FF
 simp
 omega
theorem cf.putL {K:Frag}{H:Hp}{a d:Addr}{xs ys:List V}{o:HO}(h:cf K H a xs)(e:H d=some (.lst ys)):cf K (upd H d o) a xs:=by
 rcases h with (h | ⟨o',h⟩) | h
 ·exact .inl (.inl (by rw [ao (fun z=>by rw [z,e] at h;cases h)];exact h))
 ·exact .inl (.inr ⟨o',by rw [ao (fun z=>by rw [z,e] at h;cases h)];exact h⟩)
 ·exact .inr h
inductive iF (K:Frag)(vs:List V)(H:Hp)(Q:VK)(E_:XK):Prop where
 | mk (a:Addr) (us:List V) (os:List (List Int:_)) (m b:Nat) (_:vs=[.ref a,.int (m:Int)]) (_:aV K H a us) (_:mZ H us os) (_:(∀o∈os,o.length=m+1)) (_:m≤900) (_:os.length≤900) (_:(∀o∈os,Bd b o)) (_:bb b (min m os.length)≤29000000) (_:(∀(l:List Int) (H' :Hp),av H H' →l.length=m+1→j7 os l→(∀j,j < m→l.getD j 0=0)→l.getD m 0≠0→Q .cA H')) (_:(∀(x:Addr) (lZ :List V) (qs:List (Int×Int)) (H' :Hp),av H H' →H x=none→H' x=some (.lst lZ)→cg K H' lZ qs→qs.length=m→(∀q∈qs,Sm (bb b (min m os.length)) (bb b (min m os.length)) q)→(∀o∈os,ev o (kz (qs.map vl))=0)→Q (.ref x) H')):iF K vs H Q E_
theorem tY:aG ["lines","many","told","x","column","line"] ["lines","many"] (af yL):=sq
theorem Pm {aN:Addr}(hN:∀H:Hp,cf K H aN [.int 0,.int 1])(qU:mg "NOUGHT"=some (.ref aN))(D:Def K mg "solution_of" yL ["lines","many"])(C_:mg "any"=none)(LI:Fn P w K mg base (a_ P w) 35 "reduced" ["lines","many"] (g_ K))(vy:Fn P w K mg base (a_ P w) 33 "lowest_terms" ["top","bottom"] d5):Fn P w K mg base (a_ P w) 36 "solution_of" ["lines","many"] (iF K):=by
 refine D.ok tY (fun vs H Q E h=> ?_) (fun f bD A outer s H vs Q E hr h=> ?_)
 ·obtain ⟨a,us,os,m,b,rfl,_⟩:=h
  rfl
 obtain ⟨a,us,os,m,b,rfl,hS,hL,hlen,hm,ho,hB,hb,q1,q2⟩:=h
 refine ⟨_,(ae (ay (i:=2) tY.nd rfl (adH rfl) (aC LI hr.mo pX (au (pv 0) (au (pv 1) aa))))
  (ae (bG (mm (aT (yj rfl) rfl C_ OO (au (dX (tn:=["line"]) (fr:=["many"]) (caps:=[1]) rfl ⟨rfl,by decide+kernel,rfl,by decide+kernel,by decide+kernel,rfl,⟨(by first | exact adH rfl | exact aex rfl),trivial⟩,⟨(by first | exact adH rfl | exact aex rfl),trivial⟩⟩ (bR (aR (pv 2))) (fun _ _ _ _=>(aH (i:=0) (show (["line","many"]:List Str).Nodup from by decide+kernel) rfl (adH rfl))) (fun _ _ _ _=>dA) (fun _ _ _ _=>(wI sf (aU (sV (K:=K) rfl) (pv 0) (pv 1) (fun _ _=>rfl)) ag (bu _)))) aa))) (aj (aL mj)) aY)
  (ae (ay (i:=3) tY.nd rfl (adH rfl) (aI u6 (bO (au (ff (v:=.ref aN) rfl qU rfl) aa)) (pv 1)))
  (ae (bq PassesOwn.never rfl (mS (aR (pv 2))) (fW rfl (bo (aH (i:=4) tY.nd rfl (adH rfl)) (bo (aH (i:=5) tY.nd rfl (adH rfl)) dc))) (aj (qh (aC vy hr.mo pX (au (aU aK (pv 5) (pv 1) (fun _ _=>rfl)) (au (aU aK (pv 5) (pv 4) (fun _ _=>rfl)) aa))) (qg (pv 3) (pv 4) set_list))))
  (aj (aL (pv 3))))))),?_⟩
 refine ⟨_,rfl,_,rfl,a,us,os,m+1,m,b,rfl,hS,hL,hlen,by omega,by omega,by omega,hB,hb,fun p d a' kvs lZ nd lv H1 s1 CZ np hp hd ID LJ J8 R=> ?_⟩
 have lu:=J8.1
 have cnt:=R.cnt
 refine ⟨_,rfl,p,_,_,_,rfl,rfl,cf.of hp,iX,a',rfl,⟨_,ID⟩,fun D1 n1=> ?_⟩
 refine d0 (cap:=[some (.int (m:Int))]) (K:=K) (a:=a') (xs:=lZ) (fun k v _=>∃l,lv[k]? =some l∧v=.bl (decide (l.getD m 0≠0))) n1 (adO (show lZ.length≤1000 by omega) (by decide)) (fun H2 s2=>s2.seq ID) (fun _ _ _ _ _ _ _ h=>h) ?_ ?_
 ·intro k x H2 RR ex s2 kk
  obtain ⟨l,el,b',rfl,fL⟩:=J8.at ex
  have hll:=R.iE l (aa_ el)
  refine ⟨_,rfl,_,rfl,b',_,_,_,rfl,rfl,aV.of (s2 _ _ fL),kE (by omega),rfl,?_⟩
  refine kk _ _ (av.refl _) ⟨l,el,?_⟩
  simp
 ·intro ys H2 hy gO s2 hD
  have ey:ys=(lv.map fun l=>decide (l.getD m 0≠0)).map V.bl:=by
   refine aec fun i=> ?_
   by_cases hi:i < ys.length
   ·have e1:ys[i]? =some ys[i]:=gE hi
    obtain ⟨l,el,e⟩:=gO i _ e1
    rw [e1,e,ir,ir,el]
    rfl
   ·rw [ab_ (by omega),ab_ (by simp;omega)]
  subst ey
  refine ⟨D1,_,rfl,aV.of hD,_,rfl,?_⟩
  have FL:=s1.trans s2
  refine bM (fun c=> ?_) (fun c=> ?_)
  ·obtain ⟨b',fL,hb1⟩:=ae6.mp c
   obtain ⟨l,hl,rfl⟩:=abt.mp fL
   have hn:l.getD m 0≠0:=of_decide_eq_true hb1
   exact q1 l H2 FL (R.iE l hl) (R.jf l hl) (R.zero l hl) hn
  ·have hz:∀l∈lv,l.getD m 0=0:=fun l hl=>by
    by_cases z:l.getD m 0=0
    ·exact z
    ·exact absurd (ae6.mpr ⟨true,abt.mpr ⟨l,hl,decide_eq_true z⟩,rfl⟩) c
   refine ⟨(by show 1≤sizeLine;decide),fun p3 n3=> ?_⟩
   have s3:=aD n3 (.lst [V.ref aN])
   refine ⟨_,rfl,p3,_,_,rfl,rfl,ah,by omega,by omega,adF (show 1*(m:Int).toNat≤1000 by omega) (by decide),fun x n4=> ?_⟩
   have s4:=aD n4 (.lst (adP (m:Int).toNat [V.ref aN]).flatten)
   have s14:=(FL.trans s3).trans s4
   have nx:H x=none:=(FL.trans s3).free n4
   have er:(adP (m:Int).toNat [V.ref aN]).flatten=adP m (V.ref aN):=by simp
   have hp4:=s4 _ _ (s3 _ _ (s2 _ _ hp))
   have zD:=s4 _ _ (s3 _ _ (s2 _ _ hd))
   have FK:=((LJ.same s2).same s3).same s4
   have dx:d≠x:=aq (s3 _ _ (s2 _ _ hd)) n4
   refine ⟨_,rfl,p,_,_,_,rfl,rfl,cf.of hp4,iW,d,kvs,rfl,zD,fun o=> ?_⟩
   refine g6 (d:=d) (o:=o) (kvs:=kvs) (fun t σ H' =>∃(o4 o5:Option V) (pJ:List V) (qs:List (Int×Int)),σ=[some (.ref a),some (.int (m:Int)),some (.ref p),some (.ref x),o4,o5]∧av H H' ∧H' d=some (.du o (.dK kvs))∧H' x=some (.lst pJ)∧cg K H' pJ qs∧kF H' kvs nd∧tX m t nd qs)
    ⟨none,none,adP m (V.ref aN),adP m (0,1),rfl,fS s14 CZ,ah,by rw [ao (ad7 dx),ah,er],⟨by simp,fun i u q' e1 e2=> ?_⟩,FK.put zD,⟨by simp,fun i hi=>absurd hi (aeA _),fun j hj _=>by rw [aei,if_pos hj]⟩⟩ (fun t σ H' _ h=>by
     obtain ⟨_,_,_,_,_,_,h,_⟩:=h
     exact h) ?_ ?_
   ·rw [aei] at e1 e2
    by_cases z:i < m
    ·rw [if_pos z] at e1 e2
     cases e1
     cases e2
     exact ⟨aN,rfl,hN _⟩
    ·rw [if_neg z] at e1
     cases e1
   ·rintro t k v σ H5 p7 m5 ⟨o4,o5,pJ,qs,rfl,s5,LH,WT,IE,vA,F⟩ n7
    have ht:t < kvs.length:=(be.mp m5).1
    have hl5:=vA.1
    obtain ⟨c,ec⟩:∃c,nd[t]? =some c:=⟨_,gE (by omega)⟩
    obtain ⟨k1,k2⟩:=vA.2 t _ c m5 ec
    have WU :k=.inl (c.1:Int):=k1
    subst WU
    obtain ⟨b',eb,fL⟩:=k2
    have tZ :v=.ref b' :=eb
    subst tZ
    have LK:=aa_ ec
    have hcl:=R.lh c LK
    have UR:=R.cols c LK
    have s7:=aD n7 (.tup [kV (.inl (c.1:Int)),.ref b'])
    have Pn:=s7 _ _ fL
    refine ⟨p7,_,rfl,cf.of ah,rfl,_,_,rfl,_,_,rfl,rfl,?_⟩
    refine ⟨_,rfl,_,rfl,b',_,_,_,rfl,rfl,aV.of Pn,kE (by omega),_,rfl,_,rfl,b',_,_,_,rfl,rfl,aV.of Pn,kE (by omega),?_⟩
    refine ⟨_,_,rfl,R.here c LK,fun p8 H8 s8 e8=> ?_⟩
    have vB:=s7.trans s8
    have Po:=vB _ _ WT
    have l2:=IE.1
    have xn:∀{b0:Addr} {o0:HO},H b0=some o0→b0≠x:=fun e=>aq e nx
    have WV:=vB _ _ LH
    refine ⟨_,rfl,_,rfl,x,pJ,_,c.1,rfl,rfl,Po,vx (by rw [l2,F.1];exact UR),?_⟩
    refine ⟨_,_,pJ.set c.1 (.ref p8),qs.set c.1 (low (c.2.getD m 0) (c.2.getD c.1 0)),rfl,fS (s5.trans vB) nx,by rw [ao dx];exact WV,ah,?_,?_,F.put R ec⟩
    ·have base:cg K H8 (pJ.set c.1 (.ref p8)) (qs.set c.1 (low (c.2.getD m 0) (c.2.getD c.1 0))):=(IE.same vB).set ⟨p8,rfl,cf.of e8⟩
     refine ⟨base.1,fun i u q' e1 e2=> ?_⟩
     obtain ⟨p9,e9,h9⟩:=base.2 i u q' e1 e2
     exact ⟨p9,e9,cf.putL h9 Po⟩
    ·have base:=vA.same vB
     refine ⟨base.1,fun i kv y e1 e2=>⟨(base.2 i kv y e1 e2).1,?_⟩⟩
     obtain ⟨p9,e9,h9⟩:=LJ.2 i kv y e1 e2 |>.2
     refine ⟨p9,e9,?_⟩
     have px9:p9≠x:=fun z=>by
      have:=(s3 _ _ (s2 _ _ h9))
      rw [z,n4] at this
      cases this
     rw [ao px9]
     obtain ⟨p10,J',WW⟩:=(base.2 i kv y e1 e2).2
     rw [e9] at J'
     cases J'
     exact WW
   ·rintro σ H5 ⟨o4,o5,pJ,qs,rfl,s5,LH,WT,IE,vA,F⟩
    have hl5:=vA.1
    rw [hl5] at F
    exact ⟨_,rfl,q2 x pJ qs H5 s5 nx WT IE F.1 (F.sm R) (F.sol R hz)⟩
def iG (H:Hp)(r:Addr)(ls:List Addr)(bW:List (List V)):Prop:=H r=some (.lst (ls.map V.ref))∧ls.length=bW.length∧∀(i:Nat) (l:Addr) (vs:List V),ls[i]? =some l→bW[i]? =some vs→H l=some (.lst vs)
theorem iG.same {H H' :Hp}{r:Addr}{ls:List Addr}{bW:List (List V)}(h:iG H r ls bW)(s:av H H'):iG H' r ls bW:=⟨s _ _ h.1,h.2.1,fun i l vs e1 e2=>s _ _ (h.2.2 i l vs e1 e2)⟩
def Shape (T B m:Nat)(cE:List (List (Int×Int))):Prop:=∀qs∈cE,qs.length=m∧∀q∈qs,Sm T B q
def fE (K:Frag)(H:Hp)(bW:List (List V))(cE:List (List (Int×Int))):Prop:=bW.length=cE.length∧∀(i:Nat) (vs:List V) (qs:List (Int×Int)),bW[i]? =some vs→cE[i]? =some qs→cg K H vs qs
theorem fE.same {H H' :Hp}{bW:List (List V)}{cE:List (List (Int×Int))}(h:fE K H bW cE)(s:av H H'):fE K H' bW cE:=⟨h.1,fun i vs qs e1 e2=>(h.2 i vs qs e1 e2).same s⟩
theorem C' {α:Type}{xs:List α}{x y:α}{j:Nat}(e:(xs++[x])[j]? =some y):(j < xs.length∧xs[j]? =some y)∨(j=xs.length∧x=y):=by
 by_cases c:j < xs.length
 ·rw [adI c] at e
  exact .inl ⟨c,e⟩
 ·rw [adN (by omega)] at e
  by_cases z:j - xs.length=0
  ·rw [z] at e
   exact .inr ⟨by omega,adX e⟩
  ·rw [ab_ (by simp;omega)] at e
   cases e
theorem iG.snoc {H:Hp}{r D:Addr}{ls:List Addr}{bW:List (List V)}{us:List V}(h:iG H r ls bW)(nr:r∉ls)(hD:H D=some (.lst us))(nD:D≠r):iG (upd H r (.lst (ls.map V.ref++[.ref D]))) r (ls++[D]) (bW++[us]):=by
 obtain ⟨m1,m2,m3⟩:=h
 refine ⟨by rw [ah,adR];rfl,by simp [m2],fun j l vs e1 e2=> ?_⟩
 rcases C' e1 with ⟨c1,d1⟩ | ⟨c1,d1⟩ <;> rcases C' e2 with ⟨c2,d2⟩ | ⟨c2,d2⟩
 ·have ne:l≠r:=fun z=>nr (by rw [← z];exact aa_ d1)
  rw [ao ne]
  exact m3 j l vs d1 d2
 ·omega
 ·omega
 ·subst d1 d2
  rw [ao nD]
  exact hD
theorem iG.row {H:Hp}{r:Addr}{ls:List Addr}{bW:List (List V)}(h:iG H r ls bW){i:Nat}{vs:List V}(e:bW[i]? =some vs):∃l,ls[i]? =some l∧H l=some (.lst vs):=by
 have hi:i < bW.length:=(be.mp e).1
 have l1:=h.2.1
 have e1:ls[i]? =some (ls[i]'(by omega)):=gE (by omega)
 exact ⟨_,e1,h.2.2 i _ _ e1 e⟩
def qV (bW:List (List V))(j:Nat):List V:=bW.map fun vs=>vs.getD j .cA
def gv (bW:List (List V))(m:Nat):List (List V):=(aen m).map fun j=>qV bW j
inductive jn (vs:List V)(H:Hp)(Q:VK)(E_:XK):Prop where
 | mk (r:Addr) (ls:List Addr) (bW:List (List V:_)) (m:Int) (_:vs=[.ref r,.int m]) (_:iG H r ls bW) (_:0≤m) (_:m≤1000) (_:ls.length≤1000) (_:(∀vs∈bW,m≤(vs.length:Int))) (_:∀c cs H',av H H' →iG H' c cs (gv bW m.toNat)→Q (.ref c) H'):jn vs H Q E_
theorem DA:aG ["rows","many","columns","column"] ["rows","many"] (af yJ):=sq
theorem Ka (D:Def K mg "turned" yJ ["rows","many"])(aX:mg "range"=none):Fn P w K mg base (a_ P w) 1 "turned" ["rows","many"] jn:=by
 refine D.ok DA (fun vs H Q E h=> ?_) (fun f bD A outer s H vs Q E hr h=> ?_)
 ·obtain ⟨r,ls,bW,m,rfl,_⟩:=h
  rfl
 obtain ⟨r,ls,bW,m,rfl,M,m0,m1,hn,hv,q⟩:=h
 refine ⟨_,(ae (ay (i:=2) DA.nd rfl (adH rfl) (bO aa))
  (ae (bq PassesOwn.never rfl (bE rfl aX (au (pv 1) aa)) (aH (i:=3) DA.nd rfl (aex rfl)) (aj (bQ (kr PySem.F.plainAttrs_list PySem.F.slot_list_append PySem.F.type_list_append c6 (pv 2) (au (dX (tn:=["row"]) (fr:=["column"]) (caps:=[3]) rfl ⟨rfl,by decide+kernel,rfl,by decide+kernel,by decide+kernel,rfl,⟨(by first | exact adH rfl | exact aex rfl),trivial⟩,⟨(by first | exact adH rfl | exact aex rfl),trivial⟩⟩ (bR (pv 0)) (fun _ _ _ _=>(aH (i:=0) (show (["row","column"]:List Str).Nodup from by decide+kernel) rfl (adH rfl))) (fun _ _ _ _=>dA) (fun _ _ _ _=>(aU (sV (K:=K) rfl) (pv 0) (pv 1) (fun _ _=>rfl)))) aa)))))
  (aj (aL (pv 2))))),?_⟩
 have l1:=M.2.1
 refine ⟨(by show 0≤sizeLine;decide),fun c nc=> ?_⟩
 refine ⟨_,rfl,_,rfl,by omega,by omega,?_⟩
 refine bF (lo:=0) (n:=m.toNat) (fun i σ H' =>∃(o:Option V) (cs:List Addr),σ=[some (.ref r),some (.int m),some (.ref c),o]∧av H H' ∧iG H' c cs (gv bW i)∧c∉cs) ⟨none,[],rfl,aD nc _,⟨ah,rfl,fun i l vs e=>by simp at e⟩,by simp⟩ ?_ ?_
 ·rintro i σ H' hi ⟨o,cs,rfl,s1,C,WX⟩
  have M' :=M.same s1
  refine ⟨_,rfl,.inl ⟨rfl,_,aV.of C.1⟩,?_⟩
  refine ⟨_,rfl,r,rfl,⟨_,aV.of M'.1⟩,fun D nD=> ?_⟩
  refine d0 (cap:=[some (.int ((0:Int)+i))]) (K:=K) (a:=r) (xs:=ls.map V.ref) (fun k v _=>∃vs,bW[k]? =some vs∧v=vs.getD i .cA) nD (by rw [Wp];exact adO hn (by decide)) (fun H2 s2=>aV.of (s2 _ _ M'.1)) (fun _ _ _ _ _ _ _ h=>h) ?_ ?_
  ·intro k u H2 R hu s2 kk
   rw [ir] at hu
   obtain ⟨l,el,rfl⟩:=adM.mp hu
   have hk:k < ls.length:=(be.mp el).1
   have ev:bW[k]? =some (bW[k]'(by omega)):=gE (by omega)
   have hl:=M'.2.2 k l _ el ev
   have OM :i < (bW[k]'(by omega)).length:=by
    have:=hv _ (aa_ ev)
    omega
   have ea:fU (bW[k]'(by omega)) ((0:Int)+(i:Int))=some ((bW[k]'(by omega)).getD i .cA):=by
    rw [ad9]
    exact bh (by rw [gE OM,adC,gE OM];rfl)
   exact ⟨_,rfl,_,rfl,l,_,_,_,rfl,rfl,aV.of (s2 _ _ hl),ea,kk _ _ (av.refl _) ⟨_,ev,rfl⟩⟩
  ·intro ys H2 hy gO s2 hD
   rw [Wp] at hy
   have ey:ys=qV bW i:=by
    refine aec fun k=> ?_
    unfold qV
    by_cases hk:k < ys.length
    ·have e1:ys[k]? =some ys[k]:=gE hk
     obtain ⟨vs,ev,e2⟩:=gO k _ e1
     rw [e1,e2,ir,ev]
     rfl
    ·rw [ab_ (by omega),ab_ (by simp;omega)]
   subst ey
   have lc:cs.length=i:=by have:=C.2.1;simpa [gv] using this
   have nDc:D≠c:=fun z=>by rw [z,C.1] at nD;cases nD
   have fc:∀b o,H b=some o→b≠c:=fun b o e=>aq e nc
   refine ⟨c,_,_,rfl,rfl,s2 _ _ C.1,by rw [Wp,lc];exact adO (show i≤1000 by omega) (by decide),?_⟩
   refine ⟨_,cs++[D],rfl,fun b o e=> ?_,?_,fun z=> ?_⟩
   ·rw [ao (fc b o e)]
    exact s2 _ _ (s1 _ _ e)
   ·have e:gv bW (i+1)=gv bW i++[qV bW i]:=by simp [gv,amL]
    rw [e]
    exact (C.same s2).snoc WX hD nDc
   ·rcases adQ.mp z with y | y
    ·exact WX y
    ·exact nDc (adJ.mp y).symm
 ·rintro σ H' ⟨o,cs,rfl,s1,C,WX⟩
  exact ⟨_,rfl,q c cs H' s1 C⟩
def fF (cE:List (List (Int×Int)))(j:Nat):List (Int×Int):=cE.map fun qs=>qs.getD j (0,1)
theorem LL {cE:List (List (Int×Int))}{T B m j:Nat}(sh:Shape T B m cE)(hj:j < m):∀q∈fF cE j,Sm T B q:=fun q hq=>by
 unfold fF at hq
 obtain ⟨qs,hqs,rfl⟩:=abt.mp hq
 obtain ⟨hl,hs⟩:=sh qs hqs
 rw [adC,gE (by omega)]
 exact hs _ (aeq _)
theorem Bd.of {b:Nat}{l:List Int}(h:∀t∈l,t.natAbs≤2^b):Bd b l:=fun j=>by
 by_cases hj:j < l.length
 ·have e:l[j]? =some l[j]:=gE hj
  rw [getD_mem e]
  exact h _ (aeq hj)
 ·rw [jk (by omega)]
  exact aeg _
abbrev Wl:=List Int×Int×Addr×Addr
def Vd (T B m:Nat)(qs:List (Int×Int))(d:Int×Int)(w:Wl):Prop:=gu w.1 (qs++[d]) w.2.1∧0 < w.2.1∧w.2.1.natAbs≤2^(B*(m+1))∧∀t∈w.1,t.natAbs≤2^(T+B*(m+1))
theorem DB {AF:List (List Int)}{j n:Nat}(h:∀l∈AF,l.length=n)(hj:j < n):qV (AF.map fun l=>l.map V.int) j=(AF.map fun l=>l.getD j 0).map V.int:=by
 unfold qV
 rw [ad1,ad1]
 refine ad2 fun l hl=> ?_
 have hlen:=h l hl
 have e:l[j]? =some (l[j]'(by omega)):=gE (by omega)
 show (l.map V.int).getD j .cA=.int (l.getD j 0)
 rw [getD_mem e,adC,ir,e]
 rfl
theorem m6 (j:Nat):∀{ws:List Wl} {ss ys:List (Int×Int)} {cs:List (Int×Int)},ss.length=ws.length→ys.length=ws.length→cs.length=ws.length→
  (∀(i:Nat) (w:Wl) (s y:Int×Int),ws[i]? =some w→ss[i]? =some s→ys[i]? =some y→vl y=vl s*w.2.1)→(∀(i:Nat) (w:Wl) (c:Int×Int),ws[i]? =some w→cs[i]? =some c→((w.1.getD j 0:Int):Rat)=vl c*w.2.1)→f_ ys cs=dj (ss.map vl) (ws.map (·.1)) j
 | [],[],[],[],_,_,_,_,_=>by simp [f_,dj]
 | w::ws,s::ss,y::ys,c::cs,h1,h2,h3,h4,h5=>by
  have ih:=m6 j (ws:=ws) (ss:=ss) (ys:=ys) (cs:=cs) (by simpa using h1) (by simpa using h2) (by simpa using h3) (fun i w s y e1 e2 e3=>h4 (i+1) w s y (by simpa using e1) (by simpa using e2) (by simpa using e3)) (fun i w c e1 e2=>h5 (i+1) w c (by simpa using e1) (by simpa using e2))
  have a:=h4 0 w s y rfl rfl rfl
  have b:=h5 0 w c rfl rfl
  have ed:f_ (y::ys) (c::cs)=vl y*vl c+f_ ys cs:=by simp [f_]
  simp only [ac_,dj]
  rw [ed,ih,a,b]
  grind
 | [],_::_,_,_,h,_,_,_,_=>by simp at h
 | [],[],_::_,_,_,h,_,_,_=>by simp at h
 | [],[],[],_::_,_,_,h,_,_=>by simp at h
 | _::_,[],_,_,h,_,_,_,_=>by simp at h
 | _::_,_::_,[],_,_,h,_,_,_=>by simp at h
 | _::_,_::_,_::_,[],_,_,h,_,_=>by simp at h
def uK (m:Nat)(AF:List (List Int)):List (List Int):=(aen m).map (fun j=>(AF.map fun l=>l.getD j 0)++[0])++[(AF.map fun l=>l.getD m 0)++[1]]
theorem qW {m:Nat}{AF:List (List Int)}{o:List Int}(h:o∈uK m AF):∃k,k < m+1∧o=(AF.map fun l=>l.getD k 0)++[if k=m then 1 else 0]∧True:=by
 unfold uK at h
 rcases adQ.mp h with z | z
 ·obtain ⟨j,hj,rfl⟩:=abt.mp z
  have OX :j < m:=aed.mp hj
  exact ⟨j,by omega,by rw [if_neg (by omega)],trivial⟩
 ·exact ⟨m,by omega,by rw [if_pos rfl];exact adJ.mp z,trivial⟩
theorem LM {m k:Nat}{AF:List (List Int)}(h:k < m+1):(AF.map fun l=>l.getD k 0)++[if k=m then 1 else 0]∈uK m AF:=by
 unfold uK
 by_cases z:k=m
 ·subst z
  rw [if_pos rfl]
  simp
 ·rw [if_neg z]
  exact adQ.mpr (.inl (abt.mpr ⟨k,aed.mpr (by omega),rfl⟩))
theorem vC {m n:Nat}{l0 l1:List Int}{ws:List Wl}(hlen:∀l∈ws.map (·.1),l.length=m+1)(hn:ws.length=n)(c0:j7 (ws.map (·.1)) l0)(h0:∀j,j < m→l0.getD j 0=0)(h0m:l0.getD m 0≠0)(c1:j7 (uK m (ws.map (·.1))) l1)(l1l:l1.length=n+1)(h1:∀j,j < n→l1.getD j 0=0)(hp:∀o∈uK m (ws.map (·.1)),o.length=n+1):l1.getD n 0=0:=by
 obtain ⟨y0,ly,ey⟩:=c0
 have anV :=cw h0m
 have ly' :(y0.map fun a=>a*(1 / ((l0.getD m 0:Int):Rat))).length=(ws.map (·.1)).length:=by simp [ly]
 have all:∀o∈uK m (ws.map (·.1)),ev o (kz (y0.map fun a=>a*(1 / ((l0.getD m 0:Int):Rat))))=0:=by
  intro o ho
  obtain ⟨k,hk,rfl,_⟩:=qW ho
  rw [vf k _ (ws.map (·.1)) _ ly',mT, ← ey k]
  by_cases z:k=m
  ·subst z
   rw [if_pos rfl]
   have e' :((1:Int):Rat)=1:=by simp
   rw [e']
   grind
  ·rw [if_neg z,h0 k (by omega)]
   simp
   grind
 have e:=HQ (n:=n+1) c1 (by omega) (fun o ho=>by rw [hp o ho];exact adL _) all
 rw [j6 l1 _ n (fun j hj=>by
  by_cases z:j < n
  ·rw [h1 j z]
   simp
  ·rw [jk (by omega)]
   simp)] at e
 have zn:kz (y0.map fun a=>a*(1 / ((l0.getD m 0:Int):Rat))) n= -1:=by
  unfold kz
  rw [if_neg (by rw [ly',Wp];omega)]
 rw [zn] at e
 have:((l1.getD n 0:Int):Rat)=0:=by grind
 exact_mod_cast this
theorem zE {ts:List Int}{qs:List (Int×Int)}{d:Int×Int}{b:Int}{j:Nat}(h:gu ts (qs++[d]) b)(hj:j < qs.length):((ts.getD j 0:Int):Rat)=vl (qs.getD j (0,1))*b:=by
 have l:=h.1
 rw [adK] at l
 simp at l
 have e1:ts[j]? =some (ts[j]'(by omega)):=gE (by omega)
 have e2:qs[j]? =some qs[j]:=gE hj
 have:=h.2 j _ _ e1 (by rw [adI hj];exact e2)
 rw [getD_mem e1,adC,e2]
 exact this
theorem vD {ts:List Int}{qs:List (Int×Int)}{d:Int×Int}{b:Int}{m:Nat}(h:gu ts (qs++[d]) b)(hm:qs.length=m):((ts.getD m 0:Int):Rat)=vl d*b:=by
 have l:=h.1
 rw [adK] at l
 simp at l
 have e1:ts[m]? =some (ts[m]'(by omega)):=gE (by omega)
 have:=h.2 m _ d e1 (by rw [adN (by omega),hm];simp)
 rw [getD_mem e1]
 exact this
inductive qX (K:Frag)(vs:List V)(H:Hp)(Q:VK)(E_:XK):Prop where
 | mk (r dl:Addr) (m:Nat) (ls:List Addr) (bW:List (List V:_)) (cE:List (List (Int×Int))) (Pp:List V) (ds:List (Int×Int)) (T B Z:Nat) (_:vs=[.ref r,.ref dl,.int (m:Int)]) (_:iG H r ls bW) (_:fE K H bW cE) (_:H dl=some (.lst Pp)) (_:cg K H Pp ds) (_:ds.length=cE.length) (_:Shape T B m cE) (_:(∀d∈ds,Sm T B d)) (_:m≤100) (_:cE.length≤100) (_:T≤20000) (_:B*(m+1)≤100000) (_:B≤8000) (_:bb (T+B*(m+1)) (min (m+1) cE.length)≤Z) (_:Z≤29000000) (_:(∀(p x:Addr) (us:List V) (xs:List (Int×Int)) (H' :Hp),av H H' →H' p=some (.tup [.str "solved",.ref x])→H' x=some (.lst us)→cg K H' us xs→xs.length=m→(∀q∈xs,Sm Z Z q)→(∀(i:Nat) (qs:List (Int×Int)) (d:Int×Int),cE[i]? =some qs→ds[i]? =some d→f_ qs xs=vl d)→Q (.ref p) H')) (_:(∀(p y:Addr) (us:List V) (ys:List (Int×Int)) (H' :Hp),av H H' →H' p=some (.tup [.str "paper",.ref y])→H' y=some (.lst us)→cg K H' us ys→ys.length=cE.length→(∀q∈ys,Sm (Z+B*(m+1)) Z q)→(∀j,j < m→f_ ys (fF cE j)=0)→f_ ys ds=1→Q (.ref p) H')):qX K vs H Q E_
theorem m7:aG ["rows","due","many","wholes","lines","x","columns","papers","shares"] ["rows","due","many"] (af yI):=sq
theorem Pq (D:Def K mg "solve_rows" yI ["rows","due","many"])(iq:mg "zip"=none)(ba:mg "len"=none)(LN:Fn P w K mg base (a_ P w) 2 "whole_row" ["row"] (Iv K))(Pu:Fn P w K mg base (a_ P w) 36 "solution_of" ["lines","many"] (iF K))(LO:Fn P w K mg base (a_ P w) 1 "turned" ["rows","many"] jn)(vy:Fn P w K mg base (a_ P w) 33 "lowest_terms" ["top","bottom"] d5):
  Fn P w K mg base (a_ P w) 37 "solve_rows" ["rows","due","many"] (qX K):=by
 refine D.ok m7 (fun vs H Q E h=> ?_) (fun f bD A outer s H vs Q E hr h=> ?_)
 ·obtain ⟨r,dl,m,ls,bW,cE,Pp,ds,T,B,Z,rfl,_⟩:=h
  rfl
 obtain ⟨r,dl,m,ls,bW,cE,Pp,ds,T,B,Z,rfl,M,NN,hdl,ND,hds,sh,sd,hm,hn,hT,hB,U7,hZ,WY,q1,q2⟩:=h
 refine ⟨_,(ae (lR (i:=3) m7.nd rfl (adH rfl) (tn:=["row","number"]) (fr:=[]) (caps:=[]) rfl ⟨rfl,by decide+kernel,rfl,by decide+kernel,by decide+kernel,rfl,trivial,trivial⟩ (u_ rfl iq (au (pv 0) (au (pv 1) aa))) (fun _ _ _ _=>(qG (K:=K) (n:=2) rfl rfl (bo (aH (i:=0) (show (["row","number"]:List Str).Nodup from by decide+kernel) rfl (adH rfl)) (bo (aH (i:=1) (show (["row","number"]:List Str).Nodup from by decide+kernel) rfl (adH rfl)) dc)))) (fun _ _ _ _=>dA) (fun _ _ _ _=>(aC LN hr.mo (wO (by first | assumption | exact a_.sT) rfl) (au (aI iy (pv 0) (bO (au (pv 1) aa))) aa))))
  (ae (lR (i:=4) m7.nd rfl (adH rfl) (tn:=["whole"]) (fr:=[]) (caps:=[]) rfl ⟨rfl,by decide+kernel,rfl,by decide+kernel,by decide+kernel,rfl,trivial,trivial⟩ (bR (pv 3)) (fun _ _ _ _=>(aH (i:=0) (show (["whole"]:List Str).Nodup from by decide+kernel) rfl (adH rfl))) (fun _ _ _ _=>dA) (fun _ _ _ _=>(aU (fg (K:=K) rfl) (pv 0) ag (fun _ _=>rfl))))
  (ae (ay (i:=5) m7.nd rfl (adH rfl) (aC Pu hr.mo pX (au (pv 4) (au (pv 2) aa))))
  (ae (bG (bf GN (pv 5) mj (bu _)) (aj (aL (aZ (au d6 (au (pv 5) aa))))) aY)
  (ae (ay (i:=6) m7.nd rfl (adH rfl) (aC LO hr.mo pX (au (pv 4) (au (aI bU (pv 2) ag) aa))))
  (ae (ay (i:=7) m7.nd rfl (adH rfl) (aI iy (dX (tn:=["column"]) (fr:=[]) (caps:=[]) rfl ⟨rfl,by decide+kernel,rfl,by decide+kernel,by decide+kernel,rfl,trivial,trivial⟩ (bR (dI f9 (pv 6) fY (dS (pv 2)))) (fun _ _ _ _=>(aH (i:=0) (show (["column"]:List Str).Nodup from by decide+kernel) rfl (adH rfl))) (fun _ _ _ _=>dA) (fun _ _ _ _=>(aI iy (pv 0) (bO (au ag aa))))) (bO (au (aI iy (aU aK (pv 6) (pv 2) (fun _ _=>rfl)) (bO (au ag aa))) aa))))
  (ae (ay (i:=8) m7.nd rfl (adH rfl) (aC Pu hr.mo pX (au (pv 7) (au (aT aJ rfl ba b7 (au (pv 4) aa)) aa))))
  (aj (aL (aZ (au d6 (au (dX (tn:=["share","whole"]) (fr:=[]) (caps:=[]) rfl ⟨rfl,by decide+kernel,rfl,by decide+kernel,by decide+kernel,rfl,trivial,trivial⟩ (u_ rfl iq (au (pv 8) (au (pv 3) aa))) (fun _ _ _ _=>(qG (K:=K) (n:=2) rfl rfl (bo (aH (i:=0) (show (["share","whole"]:List Str).Nodup from by decide+kernel) rfl (adH rfl)) (bo (aH (i:=1) (show (["share","whole"]:List Str).Nodup from by decide+kernel) rfl (adH rfl)) dc)))) (fun _ _ _ _=>dA) (fun _ _ _ _=>(aC vy hr.mo (wO (by first | assumption | exact a_.sT) rfl) (au (aI fj (aU (fg (K:=K) rfl) (pv 0) ag (fun _ _=>rfl)) (aU (fg (K:=K) rfl) (pv 1) ag (fun _ _=>rfl))) (au (aU (fg (K:=K) rfl) (pv 0) ag (fun _ _=>rfl)) aa))))) aa)))))))))))),?_⟩
 have l1:=M.2.1
 have l2:=NN.1
 have l3:=ND.1
 refine ⟨_,rfl,_,rfl,r,dl,rfl,⟨_,aV.of M.1⟩,⟨_,aV.of hdl⟩,fun D1 n1=> ?_⟩
 refine yk (cap:=[]) (K:=K) (xs:=ls.map V.ref) (ys:=Pp) (fun i v H=>∃w:Wl,v=.ref w.2.2.2∧w.2.2.1≠D1∧H w.2.2.2=some (.tup [.ref w.2.2.1,.int w.2.1])∧H w.2.2.1=some (.lst (w.1.map V.int))∧∀qs d,cE[i]? =some qs→ds[i]? =some d→Vd T B m qs d w) n1 (by rw [Wp];exact adO (show ls.length≤1000 by omega) (by decide)) (by rw [Wp];omega) (fun H2 s2=>aV.of (s2 _ _ M.1)) (fun H2 s2=>aV.of (s2 _ _ hdl)) ?_ ?_ ?_
 ·rintro i v H2 H3 ys hD ks ⟨w,e1,e2,e3,e4,e5⟩
  exact ⟨w,e1,e2,ks _ _ (fun z=>by rw [z,hD] at e3;cases e3) e3,ks _ _ e2 e4,e5⟩
 ·rintro i x y H2 RR ex ey s2 ⟨Vb,WZ⟩ kk
  rw [ir] at ex
  obtain ⟨l,el,rfl⟩:=adM.mp ex
  have hi:i < ls.length:=(be.mp el).1
  obtain ⟨qs,eq⟩:∃qs,cE[i]? =some qs:=⟨_,gE (by omega)⟩
  obtain ⟨vs,ev⟩:∃vs,bW[i]? =some vs:=⟨_,gE (by omega)⟩
  have hl:=M.2.2 i l vs el ev
  have hq:=NN.2 i vs qs ev eq
  obtain ⟨d,ed,nd⟩:=ND.at ey
  obtain ⟨lq,sq⟩:=sh qs (aa_ eq)
  have lvs:=hq.1
  refine ⟨_,rfl,_,rfl,(by show 1≤sizeLine;decide),fun p1 np1=> ?_⟩
  have t1:=aD np1 (.lst [y])
  refine ⟨l,p1,vs,_,rfl,rfl,t1 _ _ (s2 _ _ hl),ah,adF (show vs.length+1≤1000 by omega) (by decide),fun p2 np2=> ?_⟩
  have t2:=aD np2 (.lst (vs++[y]))
  have Ve:=t1.trans t2
  refine ⟨p2,qs++[d],T,B,rfl,⟨_,aV.of ah,(cg.snoc ((hq.same s2).same Ve) ((nd.same s2).same Ve))⟩,fun q' i6 => ?_,hT,by rw [adK,lq];exact hB,U7,by rw [adK,lq];show m+1≤1000;omega,fun p3 Pw ts b H3 s3 nl Px Py hb Pz wh PD=> ?_⟩
  ·rcases adQ.mp i6 with z | z
   ·exact sq q' z
   ·rw [adJ.mp z]
    exact sd d (aa_ ed)
  ·refine kk _ _ (Ve.trans s3) ⟨(ts,b,Pw,p3),rfl,fun z=> ?_,Px,Py,fun Nf d' e1 e2=> ?_⟩
   ·have:=Ve _ _ WZ
    rw [show Pw =D1 from z,this] at nl
    cases nl
   ·rw [eq] at e1
    rw [ed] at e2
    cases e1
    cases e2
    rw [adK,lq] at Pz PD
    exact ⟨wh,hb,Pz,PD⟩
 ·intro zs H2 hz gO s2 PH
  rw [Wp] at hz
  obtain ⟨ws,lw,hw⟩:=g9 (P:=fun i v (w:Wl)=>v=.ref w.2.2.2∧w.2.2.1≠D1∧H2 w.2.2.2=some (.tup [.ref w.2.2.1,.int w.2.1])∧H2 w.2.2.1=some (.lst (w.1.map V.int))∧∀qs d,cE[i]? =some qs→ds[i]? =some d→Vd T B m qs d w) zs gO
  have ez:zs=ws.map (fun w=>V.ref w.2.2.2):=by
   refine aec fun i=> ?_
   rw [ir]
   by_cases hi:i < zs.length
   ·have e1:zs[i]? =some zs[i]:=gE hi
    have e2:ws[i]? =some (ws[i]'(by omega)):=gE (by omega)
    have h:=(hw i _ _ e1 e2).1
    rw [e1,e2,h]
    rfl
   ·rw [ab_ (by omega),ab_ (by omega)]
    rfl
  subst ez
  have IF:ws.length=cE.length:=by omega
  have Ni:∀(i:Nat) (w:Wl),ws[i]? =some w→H2 w.2.2.2=some (.tup [.ref w.2.2.1,.int w.2.1])∧H2 w.2.2.1=some (.lst (w.1.map V.int))∧∀qs d,cE[i]? =some qs→ds[i]? =some d→Vd T B m qs d w:=fun i w e=>(hw i _ w (by rw [ir,e];rfl) e).2.2
  have wp:∀(i:Nat) (w:Wl),ws[i]? =some w→∃qs d,cE[i]? =some qs∧ds[i]? =some d∧Vd T B m qs d w:=fun i w e=>by
   have hi:i < ws.length:=(be.mp e).1
   obtain ⟨qs,eq⟩:∃qs,cE[i]? =some qs:=⟨_,gE (by omega)⟩
   obtain ⟨d,ed⟩:∃d,ds[i]? =some d:=⟨_,gE (by omega)⟩
   exact ⟨qs,d,eq,ed,(Ni i w e).2.2 qs d eq ed⟩
  have zF:∀l∈ws.map (·.1),l.length=m+1:=fun l hl=>by
   obtain ⟨w,IG,rfl⟩:=abt.mp hl
   obtain ⟨i,e⟩:=adD IG
   obtain ⟨qs,d,eq,_,wh,_⟩:=wp i w e
   have:=wh.1
   rw [adK,(sh qs (aa_ eq)).1] at this
   exact this
  have Vf:∀l∈ws.map (·.1),Bd (T+B*(m+1)) l:=fun l hl=>by
   obtain ⟨w,IG,rfl⟩:=abt.mp hl
   obtain ⟨i,e⟩:=adD IG
   obtain ⟨qs,d,eq,_,_,_,_,h⟩:=wp i w e
   exact Bd.of h
  have PJ:(ws.map (·.1)).length=cE.length:=by rw [Wp];exact IF
  refine ⟨_,rfl,D1,rfl,⟨_,aV.of PH⟩,fun D2 n2=> ?_⟩
  refine d0 (cap:=[]) (K:=K) (a:=D1) (xs:=ws.map (fun w=>V.ref w.2.2.2)) (fun k v _=>∃w,ws[k]? =some w∧v=.ref w.2.2.1) n2 (by rw [Wp];exact adO (show ws.length≤1000 by omega) (by decide)) (fun H3 s3=>aV.of (s3 _ _ PH)) (fun _ _ _ _ _ _ _ h=>h) ?_ ?_
  ·intro k x H3 RR ex s3 kk
   rw [ir] at ex
   obtain ⟨w,ew,rfl⟩:=adM.mp ex
   exact ⟨_,rfl,w.2.2.2,_,_,_,rfl,rfl,cf.of (s3 _ _ (Ni k w ew).1),iW,kk _ _ (av.refl _) ⟨w,ew,rfl⟩⟩
  intro ys H3 hy PK s3 W5
  have ey:ys=(ws.map (fun w=>w.2.2.1)).map V.ref:=by
   refine aec fun i=> ?_
   rw [Wp] at hy
   by_cases hi:i < ys.length
   ·have e1:ys[i]? =some ys[i]:=gE hi
    obtain ⟨w,e2,e3⟩:=PK i _ e1
    rw [e1,e3,ir,ir,e2]
    rfl
   ·rw [ab_ (by omega),ab_ (by simp;omega)]
  subst ey
  have W7:mZ H3 ((ws.map (fun w=>w.2.2.1)).map V.ref) (ws.map (·.1)):=⟨by simp,fun i u l e1 e2=>by
   rw [ir,ir] at e1
   rw [ir] at e2
   cases e:ws[i]? with
   | none=>rw [e] at e2;cases e2
   | some w=>
    rw [e] at e1 e2
    cases e1
    cases e2
    exact ⟨w.2.2.1,rfl,s3 _ _ (Ni i w e).2.1⟩⟩
  have hMm:iG H3 D2 (ws.map (fun w=>w.2.2.1)) ((ws.map (·.1)).map fun l=>l.map V.int):=⟨W5,by simp,fun i l vs e1 e2=>by
   rw [ir] at e1
   rw [ir,ir] at e2
   cases e:ws[i]? with
   | none=>rw [e] at e2;cases e2
   | some w=>
    rw [e] at e1 e2
    cases e1
    cases e2
    exact s3 _ _ (Ni i w e).2.1⟩
  have mn:bb (T+B*(m+1)) (min m (ws.map (·.1)).length)≤Z:=adF (qQ _ (by rw [PJ];omega)) hZ
  have W9:=s2.trans s3
  refine ⟨_,rfl,_,rfl,D2,_,ws.map (·.1),m,T+B*(m+1),rfl,aV.of W5,W7,zF,by omega,by omega,Vf,adF mn WY,fun l0 H4 s4 l0l cm l00 l0m=> ?_,fun x lZ xs H4 s4 nx hx nxs lxs sxs sol=> ?_⟩
  ·refine ⟨_,rfl,rfl,_,rfl,?_⟩
   refine bM (fun z=>by simp at z) (fun _=> ?_)
   have M4:=hMm.same s4
   refine ⟨_,rfl,_,rfl,_,_,rfl,rfl,D2,ws.map (fun w=>w.2.2.1),_,(m:Int)+1,rfl,M4,by omega,by omega,by rw [Wp];omega,fun vs hvs=> ?_,fun c cs H5 s5 M5=> ?_⟩
   ·obtain ⟨l,hl,rfl⟩:=abt.mp hvs
    rw [Wp,zF l hl]
    omega
   have lcs:cs.length=m+1:=by
    have:=M5.2.1
    unfold gv at this
    simp at this
    omega
   have col:∀k,k < m+1→∃l,cs[k]? =some l∧H5 l=some (.lst (((ws.map (·.1)).map fun l=>l.getD k 0).map V.int)):=fun k hk=>by
    have e:(gv ((ws.map (·.1)).map fun l=>l.map V.int) ((m:Int)+1).toNat)[k]? =some (((ws.map (·.1)).map fun l=>l.getD k 0).map V.int):=by
     rw [← DB zF hk]
     unfold gv
     rw [ir,am2 (by omega)]
     rfl
    exact M5.row e
   refine ⟨_,rfl,_,rfl,_,rfl,c,_,rfl,aV.of M5.1,fun p6 n6=> ?_⟩
   have t6:=aD n6 (.lst (fZ (cs.map V.ref) none (some (m:Int))))
   refine ⟨p6,rfl,⟨_,aV.of ah⟩,fun D6 nD6=> ?_⟩
   have lcl:((ws.map (·.1)).map fun l=>l.getD 0 0).length≤100:=by simp;omega
   refine iB (cap:=[]) (K:=K) (a:=p6) (xs:=(cs.map V.ref).take m) (fun k v H=>∃p,v=.ref p∧p≠D6∧H p=some (.lst ((List.map (fun l:List Int=>l.getD k 0) (ws.map (fun w:Wl=>w.1))++[(0:Int)]).map V.int))) nD6 (adO (show ((cs.map V.ref).take m).length≤1000 by simp;omega) (by decide)) (fun H7 s7=>aV.of (s7 _ _ (by rw [ah,lY (by simp;omega)]))) ?_ ?_ ?_
   ·rintro k v H7 H8 ys hD ks ⟨p,e1,e2,e3⟩
    exact ⟨p,e1,e2,ks _ _ e2 e3⟩
   ·rintro k x H7 RR ex s7 ⟨Vb,zB⟩ kk
    have hk:k < m:=by have:=(be.mp ex).1;simp at this;omega
    obtain ⟨l,el,hl⟩:=col k (by omega)
    rw [List.getElem?_take,if_pos hk,ir,el] at ex
    cases ex
    refine ⟨_,rfl,(by show 1≤sizeLine;decide),fun pz nz=> ?_⟩
    have tz:=aD nz (.lst [.int 0])
    refine ⟨l,pz,_,_,rfl,rfl,tz _ _ (s7 _ _ (t6 _ _ hl)),ah,adF (show _≤1000 by simp;omega) (by decide),fun pn nn=> ?_⟩
    have tn:=aD nn (.lst (((ws.map (·.1)).map fun l=>l.getD k 0).map V.int++[.int 0]))
    refine kk _ _ (tz.trans tn) ⟨pn,rfl,fun z=> ?_,by rw [ah,adR];rfl⟩
    have:=tz _ _ zB
    rw [z,this] at nn
    cases nn
   intro FN H7 hy6 PM s7 hD6
   have ly6:FN.length=m:=by rw [hy6];simp;omega
   have W_:=t6.trans s7
   obtain ⟨lm,elm,Xa⟩:=col m (by omega)
   refine ⟨_,rfl,_,rfl,c,_,_,_,rfl,rfl,aV.of (W_ _ _ M5.1),bh (by rw [ir,elm];rfl),(by show 1≤sizeLine;decide),fun pz nz=> ?_⟩
   have tz:=aD nz (.lst [.int 1])
   refine ⟨lm,pz,_,_,rfl,rfl,tz _ _ (W_ _ _ Xa),ah,adF (show _≤1000 by simp;omega) (by decide),fun pn nn=> ?_⟩
   have tn:=aD nn (.lst (((ws.map (·.1)).map fun l=>l.getD m 0).map V.int++[.int 1]))
   refine ⟨(by show 1≤sizeLine;decide),fun pL nL=> ?_⟩
   have tL:=aD nL (.lst [V.ref pn])
   have tzL:=(tz.trans tn).trans tL
   refine ⟨D6,pL,FN,_,rfl,rfl,tzL _ _ hD6,ah,adF (show FN.length+1≤1000 by omega) (by decide),fun pP nP=> ?_⟩
   have tP:=aD nP (.lst (FN++[V.ref pn]))
   have s7P:=tzL.trans tP
   have hpn:=tP _ _ (tL _ _ (ah (H:=upd H7 pz (.lst [.int 1])) (a:=pn) (o:=.lst (((ws.map (·.1)).map fun l=>l.getD m 0).map V.int++[.int 1]))))
   have eP:upd (upd (upd (upd H7 pz (.lst [.int 1])) pn (.lst (((ws.map (·.1)).map fun l=>l.getD m 0).map V.int++[.int 1]))) pL (.lst [V.ref pn])) pP (.lst (FN++[V.ref pn])) pP=some (.lst (FN++[V.ref pn])):=ah
   have Xb:∀(k:Nat) (v:V),FN[k]? =some v→Ln H7 v (((ws.map (·.1)).map fun l=>l.getD k 0)++[0]):=fun k v e=>by
    obtain ⟨p,e1,_,e3⟩:=PM k v e
    exact ⟨p,e1,e3⟩
   have s5P:=W_.trans s7P
   generalize upd (upd (upd (upd H7 pz (.lst [.int 1])) pn (.lst (((ws.map (·.1)).map fun l=>l.getD m 0).map V.int++[.int 1]))) pL (.lst [V.ref pn])) pP (.lst (FN++[V.ref pn]))=H9 at*
   have Xc:mZ H9 (FN++[V.ref pn]) (uK m (ws.map (·.1))):=by
    refine ⟨by simp [uK,ly6],fun k u l e1 e2=> ?_⟩
    unfold uK at e2
    by_cases hk:k < m
    ·rw [adI (by omega)] at e1
     rw [adI (by simpa using hk),ir,am2 hk] at e2
     cases e2
     exact (Xb k u e1).same s7P
    ·rw [adN (by omega)] at e1
     rw [adN (by simp;omega)] at e2
     by_cases hkm:k=m
     ·subst hkm
      rw [show k - FN.length=0 by omega] at e1
      rw [show k - ((aen k).map fun j=>((ws.map (·.1)).map fun l=>l.getD j 0)++[0]).length=0 by simp] at e2
      cases e1
      cases e2
      exact ⟨pn,rfl,by rw [hpn,adR];rfl⟩
     ·rw [ab_ (by simp;omega)] at e1
      cases e1
   have ppl:∀o∈uK m (ws.map (·.1)),o.length=cE.length+1:=fun o ho=>by
    rcases qW ho with ⟨k,hk,e⟩
    rw [e.1]
    simp [IF]
   have ppb:∀o∈uK m (ws.map (·.1)),Bd (T+B*(m+1)) o:=fun o ho=>by
    rcases qW ho with ⟨k,hk,e,hc⟩
    rw [e]
    refine Bd.of fun t ht=> ?_
    rcases adQ.mp ht with z | z
    ·obtain ⟨l,hl,rfl⟩:=abt.mp z
     exact Vf l hl k
    ·rw [adJ.mp z]
     refine adF ?_ (aeC (n:=T+B*(m+1)))
     split <;> decide
   have Xd:(uK m (ws.map (·.1))).length=m+1:=by simp [uK]
   have Vg:bb (T+B*(m+1)) (min cE.length (uK m (ws.map (·.1))).length)≤Z:=adF (qQ _ (by rw [Xd];omega)) hZ
   have s39:=(s4.trans s5).trans s5P
   refine ⟨_,rfl,_,rfl,D2,_,rfl,.inl (aV.of (s39 _ _ W5)),pP,_,uK m (ws.map (·.1)),cE.length,T+B*(m+1),by simp [IF],aV.of eP,Xc,ppl,by omega,by omega,ppb,adF Vg WY,fun l1 Lc x9 l1l cm1 l10 l1m=> ?_,fun x2 pJ ss Lc x9 nx2 hx2 nss Nj Xe Xf=> ?_⟩
   ·exact absurd (vC zF IF cm l00 l0m cm1 l1l l10 ppl) l1m
   have csm:∀k,k < m+1→dj (ss.map vl) (ws.map (·.1)) k=if k=m then 1 else 0:=fun k hk=>by
    have e:=Xf _ (LM hk)
    rw [vf k _ (ws.map (·.1)) (ss.map vl) (by simp [IF,Nj])] at e
    by_cases z:k=m
    ·rw [if_pos z] at e ⊢
     have e' :((1:Int):Rat)=1:=by simp
     rw [e'] at e
     grind
    ·rw [if_neg z] at e ⊢
     have e' :((0:Int):Rat)=0:=by simp
     rw [e'] at e
     grind
   have LP:=s39.trans x9
   have PQ:=LP _ _ (s3 _ _ PH)
   have aog:=nss.1
   refine ⟨_,rfl,_,rfl,x2,D1,rfl,⟨_,aV.of hx2⟩,⟨_,aV.of PQ⟩,fun D9 n9=> ?_⟩
   refine sW (cap:=[]) (K:=K) (xs:=pJ) (ys:=ws.map (fun w=>V.ref w.2.2.2)) (fun k v H=>∃w q,ws[k]? =some w∧ss[k]? =some q∧Nm H v (low (q.1*w.2.1) q.2)) n9 (adO (show pJ.length≤1000 by omega) (by decide)) (by rw [Wp];omega) (fun Ld BO=>aV.of (BO _ _ hx2)) (fun Ld BO=>aV.of (BO _ _ PQ)) ?_ ?_ ?_
   ·rintro k v Ld H12 ys hD ks ⟨w,q,e1,e2,e3⟩
    exact ⟨w,q,e1,e2,e3.kept hD ks⟩
   ·intro k x y Ld RR ex ey BO kk
    obtain ⟨q,LQ,ps,rfl,hps⟩:=nss.at ex
    rw [ir] at ey
    obtain ⟨w,ew,rfl⟩:=adM.mp ey
    obtain ⟨qs,d,eqs,PU,wh,wb,Xg,_⟩:=wp k w ew
    have sq:=Xe q (aa_ LQ)
    have hw1:=BO _ _ (LP _ _ (s3 _ _ (Ni k w ew).1))
    have PV:=Ty.av.cY BO hps
    refine ⟨_,rfl,ps,_,_,_,rfl,rfl,PV,iW,_,rfl,w.2.2.2,_,_,_,rfl,rfl,cf.of hw1,iX,_,_,rfl,rfl,dJ (mK sq.top Vg) Xg (by omega),_,rfl,ps,_,_,_,rfl,rfl,PV,iX,?_⟩
    exact ⟨_,_,rfl,by have:=sq.pos;omega,fun p8 H8 s8 e8=>kk _ _ s8 ⟨w,q,ew,LQ,p8,rfl,e8⟩⟩
   intro us9 Ld h9 PX BO hD9
   refine ⟨(by show 2≤sizeLine;decide),fun p12 Xh=> ?_⟩
   have FL:=aD Xh (.tup [.str "paper",.ref D9])
   have Xi:∀(k:Nat) (w:Wl) (q:Int×Int),ws[k]? =some w→ss[k]? =some q→(aeo (fun (w:Wl) (q:Int×Int)=>low (q.1*w.2.1) q.2) ws ss)[k]? =some (low (q.1*w.2.1) q.2):=fun k w q e1 e2=>by rw [aeL,e1,e2]
   have DC:(aeo (fun (w:Wl) (q:Int×Int)=>low (q.1*w.2.1) q.2) ws ss).length=cE.length:=by simp [IF,Nj]
   have vly:∀(k:Nat) (w:Wl) (q y:Int×Int),ws[k]? =some w→ss[k]? =some q→(aeo (fun (w:Wl) (q:Int×Int)=>low (q.1*w.2.1) q.2) ws ss)[k]? =some y→vl y=vl q*w.2.1:=fun k w q y e1 e2 e3=>by
    rw [Xi k w q e1 e2] at e3
    cases e3
    have sq:=Xe q (aa_ e2)
    rw [jZ (by have:=sq.pos;omega)]
    unfold vl
    push_cast
    grind
   refine q2 p12 D9 us9 (aeo (fun (w:Wl) (q:Int×Int)=>low (q.1*w.2.1) q.2) ws ss) _ (((W9.trans LP).trans BO).trans FL) ah (FL _ _ hD9) ⟨by rw [h9,DC];omega,fun k u y e1 e2=> ?_⟩ DC (fun y hy=> ?_) (fun j hj=> ?_) ?_
   ·obtain ⟨w,q,ew,LQ,p,e,hp⟩:=PX k u e1
    rw [Xi k w q ew LQ] at e2
    cases e2
    exact ⟨p,e,cf.of (FL _ _ hp)⟩
   ·obtain ⟨k,hk⟩:=adD hy
    have hkl:k < cE.length:=by rw [← DC];exact (be.mp hk).1
    obtain ⟨w,ew⟩:∃w,ws[k]? =some w:=⟨_,gE (by omega)⟩
    obtain ⟨q,LQ⟩:∃q,ss[k]? =some q:=⟨_,gE (by omega)⟩
    rw [Xi k w q ew LQ] at hk
    cases hk
    obtain ⟨qs,d,eqs,PU,wh,wb,Xg,_⟩:=wp k w ew
    have sq:=Xe q (aa_ LQ)
    exact qT (by have:=sq.pos;omega) (qH (mK sq.top Vg) Xg) (mK sq.bot Vg)
   ·rw [m6 j (ws:=ws) (ss:=ss) (by omega) (by rw [DC,IF]) (by simp [fF,IF]) vly ?_,csm j (by omega),if_neg (by omega)]
    intro k w cq ew ec
    obtain ⟨qs,d,eqs,PU,wh,_⟩:=wp k w ew
    unfold fF at ec
    rw [ir,eqs] at ec
    cases ec
    exact zE wh (by rw [(sh qs (aa_ eqs)).1];exact hj)
   ·rw [m6 m (ws:=ws) (ss:=ss) (by omega) (by rw [DC,IF]) (by omega) vly ?_,csm m (by omega),if_pos rfl]
    intro k w cq ew ec
    obtain ⟨qs,d,eqs,PU,wh,_⟩:=wp k w ew
    rw [ec] at PU
    cases PU
    exact vD wh (sh qs (aa_ eqs)).1
  ·refine ⟨_,rfl,rfl,_,rfl,?_⟩
   refine bM (fun _=> ?_) (fun z=>by simp at z)
   refine ⟨_,rfl,(by show 2≤sizeLine;decide),fun p5 n5=> ?_⟩
   have s5:=aD n5 (.tup [.str "solved",.ref x])
   refine q1 p5 x lZ xs _ ((W9.trans s4).trans s5) ah (s5 _ _ hx) (nxs.same s5) lxs (fun q hq=>(sxs q hq).up mn mn) (fun i qs d eq ed=> ?_)
   have hi:i < cE.length:=(be.mp eq).1
   obtain ⟨w,ew⟩:∃w,ws[i]? =some w:=⟨_,gE (by omega)⟩
   obtain ⟨wh,wb,_⟩:=(Ni i w ew).2.2 qs d eq ed
   have e0:=sol w.1 (abt.mpr ⟨w,aa_ ew,rfl⟩)
   rw [tD wh (by rw [lxs,(sh qs (aa_ eq)).1])] at e0
   have wb' :=cw (b:=w.2.1) (by omega)
   grind
inductive vE (K:Frag)(f:Int×Int→Int×Int→Int×Int)(vs:List V)(H:Hp)(Q:VK)(E_:XK):Prop where
 | mk (u v:V) (x y:Int×Int) (_:vs=[u,v]) (_:kA K H u x) (_:kA K H v y) (_:O7 100000 x) (_:O7 100000 y) (_:gives H Q (f x y)):vE K f vs H Q E_
theorem PY:aG ["one","other"] ["one","other"] (af vq):=sq
theorem PZ (hM:sR CX)(D:Def K mg "difference_of" vq ["one","other"])(vy:Fn P w K mg base CX 33 "lowest_terms" ["top","bottom"] d5):Fn P w K mg base CX 34 "difference_of" ["one","other"] (vE K subQ):=by
 refine D.ok PY (fun vs H Q E h=> ?_) (fun f bD A outer s H vs Q E hr h=> ?_)
 ·obtain ⟨u,v,x,y,rfl,_⟩:=h
  rfl
 obtain ⟨u,v,x,y,rfl,⟨p1,rfl,h1⟩,⟨p2,rfl,h2⟩,k1,k2,q⟩:=h
 have px:=sS (X:=kX CX P w K mg base ["one","other"] "difference_of" (af vq) f bD A outer s H E) hM
 refine ⟨_,(aj (aL (aC vy hr.mo px (au (aI cG (aI cC (aR (pv 0)) (aR (pv 1))) (aI cC (aR (pv 1)) (aR (pv 0)))) (au (aI cC (aR (pv 0)) (aR (pv 1))) aa))))),?_⟩
 have b1:=k1.top
 have b2:=k1.bot
 have b3:=k2.top
 have b4:=k2.bot
 have c:∀{i j:Int},intBits i≤100000→intBits j≤100000→oY i j:=fun a b=>⟨adF a (by decide),adF b (by decide)⟩
 refine ⟨_,rfl,p1,_,_,_,rfl,rfl,h1,iW,_,rfl,p2,_,_,_,rfl,rfl,h2,iX,_,_,rfl,rfl,c b1 b4,?_⟩
 refine ⟨_,rfl,p2,_,_,_,rfl,rfl,h2,iW,_,rfl,p1,_,_,_,rfl,rfl,h1,iX,_,_,rfl,rfl,c b3 b2,?_⟩
 refine ⟨_,_,rfl,rfl,?_⟩
 refine ⟨_,rfl,p1,_,_,_,rfl,rfl,h1,iX,_,rfl,p2,_,_,_,rfl,rfl,h2,iX,_,_,rfl,rfl,c b2 b4,?_⟩
 exact ⟨_,_,rfl,Iu k1 k2,q⟩
inductive vF (K:Frag)(f:Rat→Rat→Rat)(vs:List V)(H:Hp)(Q:VK)(E_:XK):Prop where
 | mk (u v:V) (x y:Rat) (_:vs=[u,v]) (_:fJ K H u x) (_:fJ K H v y) (_:Sz 100000 x) (_:Sz 100000 y) (_:gives H Q (qr (f x y))):vF K f vs H Q E_
theorem DE {k:Nat}{r:Rat}(h:Sz k r):O7 k (qr r):=⟨cz r,h.top,h.bot⟩
theorem LR {k:Nat}{x:Str}{ps:List Str}(F:Fn P w K mg base CX k x ps (vE K subQ)):Fn P w K mg base CX k x ps (vF K fun a b=>a - b):=by
 obtain ⟨f,fd,G,r⟩:=F.ex
 refine ⟨f,fd,G.imp fun vs H Q E h=> ?_,r⟩
 obtain ⟨u,v,a,b,e,h1,h2,k1,k2,q⟩:=h
 refine ⟨u,v,qr a,qr b,e,h1,h2,DE k1,DE k2,?_⟩
 unfold subQ
 rw [CK]
 exact q
def DF (K:Frag)(H:Hp)(Q:VK)(p:Rat×Rat):Prop:=∀(v:V) (H' :Hp),av H H' →eY K H' v p→Q v H'
inductive vG (K:Frag)(f:Rat→Rat→Rat)(vs:List V)(H:Hp)(Q:VK)(E_:XK):Prop where
 | mk (u v:V) (x y:Rat×Rat) (_:vs=[u,v]) (_:eY K H u x) (_:eY K H v y) (_:Sz 100000 x.1) (_:Sz 100000 x.2) (_:Sz 100000 y.1) (_:Sz 100000 y.2) (_:DF K H Q (f x.1 y.1,f x.2 y.2)):vG K f vs H Q E_
theorem P0:aG ["one","other"] ["one","other"] (af vt):=sq
theorem P1 (hM:sR CX)(D:Def K mg "pair_difference" vt ["one","other"])(P2:Fn P w K mg base CX 34 "difference_of" ["one","other"] (vF K fun a b=>a - b)):Fn P w K mg base CX 35 "pair_difference" ["one","other"] (vG K fun a b=>a - b):=by
 refine D.ok P0 (fun vs H Q E h=> ?_) (fun f bD A outer s H vs Q E hr h=> ?_)
 ·obtain ⟨u,v,x,y,rfl,_⟩:=h
  rfl
 obtain ⟨u,v,x,y,rfl,⟨p1,a1,a2,rfl,h1,n1,n2⟩,⟨p2,b1,b2,rfl,h2,m1,m2⟩,k1,k2,l1,l2,q⟩:=h
 have px:=sS (X:=(kX (a_ P w) P w K mg base ["one","other"] "pair_difference" (af vt) f bD A outer s H E)) hM
 refine ⟨_,(aj (aL (aZ (au (aC P2 hr.mo px (au (aR (pv 0)) (au (aR (pv 1)) aa))) (au (aC P2 hr.mo px (au (aR (pv 0)) (au (aR (pv 1)) aa))) aa))))),?_⟩
 refine ⟨_,rfl,p1,_,_,_,rfl,rfl,h1,iW,_,rfl,p2,_,_,_,rfl,rfl,h2,iW,a1,b1,_,_,rfl,n1,m1,k1,l1,fun c1 H1 s1 e1=> ?_⟩
 refine ⟨_,rfl,p1,_,_,_,rfl,rfl,Ty.av.cY s1 h1,iX,_,rfl,p2,_,_,_,rfl,rfl,Ty.av.cY s1 h2,iX,a2,b2,_,_,rfl,n2.same s1,m2.same s1,k2,l2,fun c2 H2 s2 e2=> ?_⟩
 refine ⟨(by show 2≤sizeLine;decide),fun c3 n3=> ?_⟩
 have s3:=aD n3 (.tup [.ref c1,.ref c2])
 exact q (.ref c3) _ (fun b o z=>s3 _ _ (s2 _ _ (s1 _ _ z))) ⟨c3,_,_,rfl,cf.of ah,⟨c1,rfl,cf.of (s3 _ _ (s2 _ _ e1))⟩,⟨c2,rfl,cf.of (s3 _ _ e2)⟩⟩
inductive qY (K:Frag)(C:Addr)(vs:List V)(H:Hp)(Q:VK)(E_:XK):Prop where
 | mk (a dx:Addr) (_:vs=[.ref a]) (_:H a=some (.ins C dx [])) (_:∀(pP pW pB:Addr) (H' :Hp),bg a H H' →H pP=none→H pW=none→H pB=none→e_ K H' C a dx pP pW pB [] [] [] [] []→Q .cA H'):qY K C vs H Q E_
theorem IH {x:V}:df "pin_places" x []=([("pin_places",x)]:List (Str×V)):=rfl
theorem II {x y:V}:df "pin_ways" y [("pin_places",x)]=([("pin_places",x),("pin_ways",y)]:List (Str×V)):=by
 simp only [df]
 rw [if_neg (by decide)]
theorem IJ {x y z:V}:df "bar_ends" z [("pin_places",x),("pin_ways",y)]=([("pin_places",x),("pin_ways",y),("bar_ends",z)]:List (Str×V)):=by
 simp only [df]
 rw [if_neg (by decide),if_neg (by decide)]
theorem P4:aG ["self"] ["self"] (af ze):=sq
theorem P5 {f:Addr}{fd:FuncData}{C:Addr}(F:oi K "__init__" "Frame.__init__" ze f fd)(fc:CH K C):cH P w K mg base (a_ P w) 1 f fd ["self"] (qY K C):=by
 refine cX F P4 (fun vs H Q E h=> ?_) (fun bD A outer s H vs Q E hr h=> ?_)
 ·obtain ⟨a,dx,rfl,_⟩:=h
  rfl
 obtain ⟨a,dx,rfl,ha,q⟩:=h
 refine ⟨_,(ae (qk (pv 0) cV rfl)
  (ae (qk (pv 0) cV rfl)
  (aj (qk (pv 0) cV rfl)))),?_⟩
 intro pP nP
 have aP:a≠pP:=aq ha nP
 refine ⟨_,rfl,a,C,dx,_,rfl,(by rw [ao aP];exact ha),fc.cls,fc.pl,(by show 0 < 1000;decide),?_⟩
 rw [IH]
 generalize e1:upd (upd H pP (.dK [])) a (.ins C dx [("pin_places",.ref pP)])=H1
 have o1:H1 a=some (.ins C dx [("pin_places",.ref pP)]):=by rw [← e1,ah]
 have p1:H1 pP=some (.dK []):=by rw [← e1,ao (ad7 aP),ah]
 have k1:∀b o,b≠a→H b=some o→H1 b=some o:=fun b o n e=>by rw [← e1,ao n,ao (aq e nP)];exact e
 intro pW nW
 have aW:a≠pW:=aq o1 nW
 refine ⟨_,rfl,a,C,dx,_,rfl,(by rw [ao aW];exact o1),fc.cls,fc.wy,(by show 1 < 1000;decide),?_⟩
 rw [II]
 generalize e2:upd (upd H1 pW (.dK [])) a (.ins C dx [("pin_places",.ref pP),("pin_ways",.ref pW)])=H2
 have PW:pP≠pW:=aq p1 nW
 have o2:H2 a=some (.ins C dx [("pin_places",.ref pP),("pin_ways",.ref pW)]):=by rw [← e2,ah]
 have w2:H2 pW=some (.dK []):=by rw [← e2,ao (ad7 aW),ah]
 have k2:∀b o,b≠a→H1 b=some o→H2 b=some o:=fun b o n e=>by rw [← e2,ao n,ao (aq e nW)];exact e
 intro pB nB
 have aB:a≠pB:=aq o2 nB
 have p2:=k2 _ _ (ad7 aP) p1
 refine ⟨_,rfl,a,C,dx,_,rfl,(by rw [ao aB];exact o2),fc.cls,fc.br,(by show 2 < 1000;decide),?_⟩
 rw [IJ]
 have PB:pP≠pB:=aq p2 nB
 have WB:pW≠pB:=aq w2 nB
 have k3:∀b o,b≠a→H2 b=some o→(upd (upd H2 pB (.dK [])) a (.ins C dx [("pin_places",.ref pP),("pin_ways",.ref pW),("bar_ends",.ref pB)])) b=some o:=fun b o n e=>by rw [ao n,ao (aq e nB)];exact e
 have f1:∀b,b≠a→H1 b=none→H b=none:=fun b n e=>by
  cases z:H b with
  | none=>rfl
  | some o=>rw [k1 b o n z] at e;cases e
 have f2:∀b,b≠a→H2 b=none→H b=none:=fun b n e=>by
  cases z:H b with
  | none=>rfl
  | some o=>rw [k2 b o n (k1 b o n z)] at e;cases e
 refine q pP pW pB _ (fun b o n e=>k3 b o n (k2 b o n (k1 b o n e))) nP (f1 _ (ad7 aW) nW) (f2 _ (ad7 aB) nB) ⟨ah,k3 _ _ (ad7 aP) p2,k3 _ _ (ad7 aW) w2,?_,PW,PB,WB,.nil,.nil⟩
 rw [ao (ad7 aB),ah]
inductive kb (K:Frag)(C:Addr)(vs:List V)(H:Hp)(Q:VK)(E_:XK):Prop where
 | mk (a dx pP pW pB:Addr) (ps:List (Str×Pt)) (bs:List (Str×Str×Str)) (kP kW kB:List (Key×V)) (_:vs=[.ref a]) (_:e_ K H C a dx pP pW pB ps bs kP kW kB) (_:∀(l:Addr) (H' :Hp),av H H' →H l=none→H' l=some (.lst ((bs.map (·.1)).map V.str))→Q (.ref l) H'):kb K C vs H Q E_
theorem P6:aG ["self"] ["self"] (af zk):=sq
theorem P7 {f:Addr}{fd:FuncData}{C:Addr}(F:oi K "bars" "Frame.bars" zk f fd)(fc:CH K C)(cZ:mg "list"=none):cH P w K mg base (a_ P w) 1 f fd ["self"] (kb K C):=by
 refine cX F P6 (fun vs H Q E h=> ?_) (fun bD A outer s H vs Q E hr h=> ?_)
 ·obtain ⟨a,dx,pP,pW,pB,ps,bs,kP,kW,kB,rfl,_⟩:=h
  rfl
 obtain ⟨a,dx,pP,pW,pB,ps,bs,kP,kW,kB,rfl,R,q⟩:=h
 refine ⟨_,(aj (aL (dY (iC rfl) rfl cZ mH (au (cP (pv 0) rfl) aa)))),?_⟩
 refine ⟨_,rfl,a,C,dx,_,_,rfl,R.obj,fc.cls,fc.br,rfl,pB,kB,rfl,.inl R.br,fun l nl=> ?_⟩
 refine q l _ (aD nl _) nl ?_
 rw [ah]
 have e:kB.map (fun kv=>kV kv.1)=(bs.map (·.1)).map V.str:=by
  have z:kB.map (fun kv=>kV kv.1)=(kB.map (·.1)).map kV:=by rw [ad1];rfl
  rw [z,R.wZ,ad1]
  rfl
 rw [e]
inductive fG (K:Frag)(C:Addr)(vs:List V)(H:Hp)(Q:VK)(E_:XK):Prop where
 | mk (a dx pP pW pB:Addr) (ps:List (Str×Pt)) (bs:List (Str×Str×Str)) (kP kW kB:List (Key×V)) (_:vs=[.ref a]) (_:e_ K H C a dx pP pW pB ps bs kP kW kB) (_:∀(l:Addr) (H' :Hp),av H H' →H l=none→H' l=some (.lst ((ps.map (·.1)).map V.str))→Q (.ref l) H'):fG K C vs H Q E_
theorem P8:aG ["self"] ["self"] (af zi):=sq
theorem P9 {f:Addr}{fd:FuncData}{C:Addr}(F:oi K "pins" "Frame.pins" zi f fd)(fc:CH K C)(cZ:mg "list"=none):cH P w K mg base (a_ P w) 1 f fd ["self"] (fG K C):=by
 refine cX F P8 (fun vs H Q E h=> ?_) (fun bD A outer s H vs Q E hr h=> ?_)
 ·obtain ⟨a,dx,pP,pW,pB,ps,bs,kP,kW,kB,rfl,_⟩:=h
  rfl
 obtain ⟨a,dx,pP,pW,pB,ps,bs,kP,kW,kB,rfl,R,q⟩:=h
 refine ⟨_,(aj (aL (dY (iC rfl) rfl cZ mH (au (cP (pv 0) rfl) aa)))),?_⟩
 refine ⟨_,rfl,a,C,dx,_,_,rfl,R.obj,fc.cls,fc.pl,rfl,pP,kP,rfl,.inl R.pl,fun l nl=> ?_⟩
 refine q l _ (aD nl _) nl ?_
 rw [ah]
 have e:kP.map (fun kv=>kV kv.1)=(ps.map (·.1)).map V.str:=by
  have z:kP.map (fun kv=>kV kv.1)=(kP.map (·.1)).map kV:=by rw [ad1];rfl
  rw [z,R.w4,ad1]
  rfl
 rw [e]
inductive dD (K:Frag)(C:Addr)(vs:List V)(H:Hp)(Q:VK)(E_:XK):Prop where
 | mk (a dx pP pW pB:Addr) (ps:List (Str×Pt)) (bs:List (Str×Str×Str)) (kP kW kB:List (Key×V)) (x:Str) (_:vs=[.ref a,.str x]) (_:e_ K H C a dx pP pW pB ps bs kP kW kB) (_:x∈ps.map (·.1)) (_:Q .cA H):dD K C vs H Q E_
theorem P_:aG ["self","pin"] ["self","pin"] (af zh):=sq
theorem Qa {f:Addr}{fd:FuncData}{C:Addr}(F:oi K "check_pin" "Frame.check_pin" zh f fd)(fc:CH K C):cH P w K mg base (a_ P w) 1 f fd ["self","pin"] (dD K C):=by
 refine cX F P_ (fun vs H Q E h=> ?_) (fun bD A outer s H vs Q E hr h=> ?_)
 ·obtain ⟨a,dx,pP,pW,pB,ps,bs,kP,kW,kB,x,rfl,_⟩:=h
  rfl
 obtain ⟨a,dx,pP,pW,pB,ps,bs,kP,kW,kB,x,rfl,R,hx,q⟩:=h
 refine ⟨_,(aj (bG (jR (j3 (b6 hr) (pv 1) (cP (pv 0) rfl))) (aj (cS)) aY)),?_⟩
 refine ⟨_,rfl,_,rfl,a,C,dx,_,_,rfl,R.obj,fc.cls,fc.pl,rfl,pP,_,rfl,cL.k (k:=.inr x) R.pl,_,rfl,?_⟩
 rw [R.pin x,decide_eq_true hx]
 exact q
inductive l_ (K:Frag)(C:Addr)(vs:List V)(H:Hp)(Q:VK)(E_:XK):Prop where
 | mk (a dx pP pW pB:Addr) (ps:List (Str×Pt)) (bs:List (Str×Str×Str)) (kP kW kB:List (Key×V)) (x:Str) (p:Pt) (_:vs=[.ref a,.str x]) (_:e_ K H C a dx pP pW pB ps bs kP kW kB) (_:(ps.map (·.1)).Nodup) (_:(x,p)∈ps) (_:∀v,Spot K H v p→Q v H):l_ K C vs H Q E_
theorem Qb:aG ["self","pin"] ["self","pin"] (af zo):=sq
theorem Qc {f:Addr}{fd:FuncData}{C:Addr}(F:oi K "place" "Frame.place" zo f fd)(fc:CH K C)(MC:bK P w K mg base (a_ P w) 1 C "check_pin" ["self","pin"] (dD K C)):cH P w K mg base (a_ P w) 2 f fd ["self","pin"] (l_ K C):=by
 refine cX F Qb (fun vs H Q E h=> ?_) (fun bD A outer s H vs Q E hr h=> ?_)
 ·obtain ⟨a,dx,pP,pW,pB,ps,bs,kP,kW,kB,x,p,rfl,_⟩:=h
  rfl
 obtain ⟨a,dx,pP,pW,pB,ps,bs,kP,kW,kB,x,p,rfl,R,nd,hx,q⟩:=h
 refine ⟨_,(ae (bQ (dB (k:=1) (pv 0) hr.mo (pY P w) (au (pv 1) aa)))
  (aj (aL (cM (b6 hr) (cP (pv 0) rfl) (pv 1) (fun _ _=>rfl))))),?_⟩
 refine ⟨_,rfl,a,C,dx,_,_,_,rfl,R.obj,rfl,MC,_,rfl,a,dx,pP,pW,pB,ps,bs,kP,kW,kB,x,rfl,R,abt.mpr ⟨_,hx,rfl⟩,?_⟩
 obtain ⟨v,ev,hv⟩:=R.place nd hx
 exact ⟨_,rfl,a,C,dx,_,_,rfl,R.obj,fc.cls,fc.pl,rfl,_,rfl,pP,v,rfl,(by rw [← ev];exact cL.k (k:=.inr x) R.pl),q v hv⟩
inductive qZ (K:Frag)(C:Addr)(vs:List V)(H:Hp)(Q:VK)(E_:XK):Prop where
 | mk (a dx pP pW pB:Addr) (ps:List (Str×Pt)) (bs:List (Str×Str×Str)) (kP kW kB:List (Key×V)) (x one other:Str) (_:vs=[.ref a,.str x]) (_:e_ K H C a dx pP pW pB ps bs kP kW kB) (_:(bs.map (·.1)).Nodup) (_:(x,one,other)∈bs) (_:∀p,Rd H p (.tup [.str one,.str other])→Q (.ref p) H):qZ K C vs H Q E_
theorem Qd:aG ["self","bar"] ["self","bar"] (af zq):=sq
theorem Qe {f:Addr}{fd:FuncData}{C:Addr}(F:oi K "ends" "Frame.ends" zq f fd)(fc:CH K C):cH P w K mg base (a_ P w) 1 f fd ["self","bar"] (qZ K C):=by
 refine cX F Qd (fun vs H Q E h=> ?_) (fun bD A outer s H vs Q E hr h=> ?_)
 ·obtain ⟨a,dx,pP,pW,pB,ps,bs,kP,kW,kB,x,one,other,rfl,_⟩:=h
  rfl
 obtain ⟨a,dx,pP,pW,pB,ps,bs,kP,kW,kB,x,one,other,rfl,R,nd,hx,q⟩:=h
 refine ⟨_,(ae (bG (jR (j3 (b6 hr) (pv 1) (cP (pv 0) rfl))) (aj (cS)) aY)
  (aj (aL (cM (b6 hr) (cP (pv 0) rfl) (pv 1) (fun _ _=>rfl))))),?_⟩
 have hm:x∈bs.map (·.1):=abt.mpr ⟨_,hx,rfl⟩
 refine ⟨_,rfl,_,rfl,a,C,dx,_,_,rfl,R.obj,fc.cls,fc.br,rfl,pB,_,rfl,cL.k (k:=.inr x) R.br,_,rfl,?_⟩
 rw [R.bar x,decide_eq_true hm]
 obtain ⟨p,ev,hv⟩:=R.ends nd hx
 exact ⟨_,rfl,a,C,dx,_,_,rfl,R.obj,fc.cls,fc.br,rfl,_,rfl,pB,.ref p,rfl,(by rw [← ev];exact cL.k (k:=.inr x) R.br),q p hv⟩
inductive m8 (K:Frag)(C:Addr)(vs:List V)(H:Hp)(Q:VK)(E_:XK):Prop where
 | mk (a dx pP pW pB:Addr) (ps:List (Str×Pt)) (bs:List (Str×Str×Str)) (kP kW kB:List (Key×V)) (pw:List (Str×List (Rat×Rat))) (x:Str) (ws:List (Rat×Rat)) (_:vs=[.ref a,.str x]) (_:e_ K H C a dx pP pW pB ps bs kP kW kB) (_:uJ K H pw kW) (_:(pw.map (·.1)).Nodup) (_:(x,ws)∈pw) (_:x∈ps.map (·.1)) (_:∀(l:Addr) (us:List V) (H' :Hp),av H H' →H l=none→H' l=some (.lst us)→h8 K H' us ws→Q (.ref l) H'):m8 K C vs H Q E_
theorem Qf:aG ["self","pin"] ["self","pin"] (af zp):=sq
theorem Qg {f:Addr}{fd:FuncData}{C:Addr}(F:oi K "ways" "Frame.ways" zp f fd)(fc:CH K C)(cZ:mg "list"=none)(MC:bK P w K mg base (a_ P w) 1 C "check_pin" ["self","pin"] (dD K C)):cH P w K mg base (a_ P w) 2 f fd ["self","pin"] (m8 K C):=by
 refine cX F Qf (fun vs H Q E h=> ?_) (fun bD A outer s H vs Q E hr h=> ?_)
 ·obtain ⟨a,dx,pP,pW,pB,ps,bs,kP,kW,kB,pw,x,ws,rfl,_⟩:=h
  rfl
 obtain ⟨a,dx,pP,pW,pB,ps,bs,kP,kW,kB,pw,x,ws,rfl,R,W,nd,hx,hp,q⟩:=h
 refine ⟨_,(ae (bQ (dB (k:=1) (pv 0) hr.mo (pY P w) (au (pv 1) aa)))
  (aj (aL (dY mJ rfl cZ mH (au (cM (b6 hr) (cP (pv 0) rfl) (pv 1) (fun _ _=>rfl)) aa))))),?_⟩
 refine ⟨_,rfl,a,C,dx,_,_,_,rfl,R.obj,rfl,MC,_,rfl,a,dx,pP,pW,pB,ps,bs,kP,kW,kB,x,rfl,R,hp,?_⟩
 obtain ⟨v,ev,l,us,el,hl,pt⟩:=gc W nd hx
 have el' :v=.ref l:=el
 subst el'
 refine ⟨_,rfl,a,C,dx,_,_,rfl,R.obj,fc.cls,fc.wy,rfl,_,rfl,pW,.ref l,rfl,(by rw [← ev];exact cL.k (k:=.inr x) R.wy),?_⟩
 exact ⟨l,us,rfl,aV.of hl,fun l2 n2=>q l2 us _ (aD n2 _) n2 ah (pt.same (aD n2 _))⟩
def LS (K:Frag)(H:Hp)(Q:VK)(ws:List (Rat×Rat)):Prop:=∀(l:Addr) (us:List V) (H' :Hp),av H H' →H l=none→H' l=some (.lst us)→h8 K H' us ws→Q (.ref l) H'
theorem q0 {x:Rat}(h:(qr x).1=0):x=0:=by
 have:=dQ x
 unfold vl at this
 rw [h] at this
 have z:=tH (r:=x)
 have e:((0:Int):Rat)=0:=by rfl
 rw [e] at this
 grind
inductive q4 (K:Frag)(C:Addr)(vs:List V)(H:Hp)(Q:VK)(E_:XK):Prop where
 | mk (a dx:Addr) (ux uy:V) (x y:Rat) (_:vs=[.ref a,ux,uy]) (_:H a=some (.ins C dx [])) (_:fJ K H ux x) (_:fJ K H uy y) (_:¬ (x=0∧y=0)) (_:∀p,H p=none→Q .cA (upd (upd H p (.tup [ux,uy])) a (.ins C dx [("way",.ref p)]))):q4 K C vs H Q E_
theorem Qh:aG ["self","x","y"] ["self","x","y"] (af zu):=sq
theorem Qi {f:Addr}{fd:FuncData}{C:Addr}(F:oi K "__init__" "Roller.__init__" zu f fd)(cl:sk K C)(nw:ef K C "way"):cH P w K mg base (a_ P w) 1 f fd ["self","x","y"] (q4 K C):=by
 refine cX F Qh (fun vs H Q E h=> ?_) (fun bD A outer s H vs Q E hr h=> ?_)
 ·obtain ⟨a,dx,ux,uy,x,y,rfl,_⟩:=h
  rfl
 obtain ⟨a,dx,ux,uy,x,y,rfl,ha,⟨p1,rfl,h1⟩,⟨p2,rfl,h2⟩,nz,q⟩:=h
 have sz:(2:Nat)≤sizeLine:=by decide
 refine ⟨_,(ae (bG (PW.pt (AJ (bf de (aR (pv 1)) ag (bu _)) (wB (bf de (aR (pv 2)) ag (bu _))))) (aj (cS)) aY)
  (aj (qk (pv 0) (aZ (au (pv 1) (au (pv 2) aa))) rfl))),?_⟩
 refine ⟨_,rfl,p1,_,_,_,rfl,rfl,h1,iW,rfl,_,rfl,?_⟩
 refine bM (fun c1=> ?_) (fun c1=> ?_)
 ·have e1:(qr x).1=0:=by simpa using of_decide_eq_true c1
  refine ⟨_,rfl,p2,_,_,_,rfl,rfl,h2,iW,rfl,_,rfl,?_⟩
  refine bM (fun c2=> ?_) (fun c2=> ?_)
  ·have e2:(qr y).1=0:=by simpa using of_decide_eq_true c2
   exact absurd ⟨q0 e1,q0 e2⟩ nz
  ·exact ⟨_,rfl,_,rfl,sz,fun p hp=>⟨_,rfl,a,C,dx,[],rfl,(by rw [ao (aq ha hp)];exact ha),cl,nw,(by show 0 < 1000;decide),q p hp⟩⟩
 ·refine Oc ?_
  exact ⟨_,rfl,_,rfl,sz,fun p hp=>⟨_,rfl,a,C,dx,[],rfl,(by rw [ao (aq ha hp)];exact ha),cl,nw,(by show 0 < 1000;decide),q p hp⟩⟩
inductive jo (K:Frag)(C:Addr)(vs:List V)(H:Hp)(Q:VK)(E_:XK):Prop where
 | mk (a dx p:Addr) (w:Rat×Rat) (_:vs=[.ref a]) (_:H a=some (.ins C dx [("way",.ref p)])) (_:eY K H (.ref p) w) (_:LS K H Q [w]):jo K C vs H Q E_
theorem Qj:aG ["self"] ["self"] (af zv):=sq
theorem Qk {f:Addr}{fd:FuncData}{C:Addr}(F:oi K "ways" "Roller.ways" zv f fd)(cl:sk K C)(nw:ef K C "way"):cH P w K mg base (a_ P w) 1 f fd ["self"] (jo K C):=by
 refine cX F Qj (fun vs H Q E h=> ?_) (fun bD A outer s H vs Q E hr h=> ?_)
 ·obtain ⟨a,dx,p,w,rfl,_⟩:=h
  rfl
 obtain ⟨a,dx,p,w,rfl,ha,hw,q⟩:=h
 refine ⟨_,(aj (aL (bO (au (cP (pv 0) rfl) aa)))),?_⟩
 refine ⟨_,rfl,a,C,dx,_,.ref p,rfl,ha,cl,nw,(by simp),(by show 1≤sizeLine;decide),fun l hl=> ?_⟩
 exact q l [.ref p] _ (aD hl _) hl ah (.cons (hw.same (aD hl _)) .nil)
inductive jq (K:Frag)(vs:List V)(H:Hp)(Q:VK)(E_:XK):Prop where
 | mk (a:Addr) (_:vs=[.ref a]) (_:LS K H Q [(1,0),(0,1)]):jq K vs H Q E_
theorem q5:qr 1=(1,1):=by
 have:=mW 1
 simpa using this
theorem c_:qr 0=(0,1):=by
 have:=mW 0
 simpa using this
theorem xm {H:Hp}{p p1 p2:Addr}{a b:Rat}{x y:Int×Int}(ea:qr a=x)(eb:qr b=y)(h:H p=some (.tup [.ref p1,.ref p2]))(h1:H p1=some (.tup [.int x.1,.int x.2]))(h2:H p2=some (.tup [.int y.1,.int y.2])):eY K H (.ref p) (a,b):=
 ⟨p,.ref p1,.ref p2,rfl,cf.of h,⟨p1,rfl,by rw [ea];exact cf.of h1⟩,⟨p2,rfl,by rw [eb];exact cf.of h2⟩⟩
theorem Ql:aG ["self"] ["self"] (af zA):=sq
theorem Qm {f:Addr}{fd:FuncData}(F:oi K "ways" "Fixed.ways" zA f fd):cH P w K mg base (a_ P w) 1 f fd ["self"] (jq K):=by
 refine cX F Ql (fun vs H Q E h=> ?_) (fun bD A outer s H vs Q E hr h=> ?_)
 ·obtain ⟨a,rfl,_⟩:=h
  rfl
 obtain ⟨a,rfl,q⟩:=h
 have sz:(2:Nat)≤sizeLine:=by decide
 refine ⟨_,(aj (aL (bO (au (aZ (au (aZ (au ag (au ag aa))) (au (aZ (au ag (au ag aa))) aa))) (au (aZ (au (aZ (au ag (au ag aa))) (au (aZ (au ag (au ag aa))) aa))) aa))))),?_⟩
 refine ⟨sz,fun p1 n1=> ?_⟩
 have s1:=aD n1 (.tup [.int 1,.int 1])
 have e1:upd H p1 (.tup [.int 1,.int 1]) p1=some (.tup [.int 1,.int 1]):=ah
 generalize upd H p1 (.tup [.int 1,.int 1])=H1 at s1 e1 ⊢
 refine ⟨sz,fun p2 n2=> ?_⟩
 have s2:=aD n2 (.tup [.int 0,.int 1])
 have e2:upd H1 p2 (.tup [.int 0,.int 1]) p2=some (.tup [.int 0,.int 1]):=ah
 generalize upd H1 p2 (.tup [.int 0,.int 1])=H2 at s2 e2 ⊢
 refine ⟨sz,fun p3 n3=> ?_⟩
 have s3:=aD n3 (.tup [.ref p1,.ref p2])
 have e3:upd H2 p3 (.tup [.ref p1,.ref p2]) p3=some (.tup [.ref p1,.ref p2]):=ah
 generalize upd H2 p3 (.tup [.ref p1,.ref p2])=H3 at s3 e3 ⊢
 refine ⟨sz,fun p4 n4=> ?_⟩
 have s4:=aD n4 (.tup [.int 0,.int 1])
 have e4:upd H3 p4 (.tup [.int 0,.int 1]) p4=some (.tup [.int 0,.int 1]):=ah
 generalize upd H3 p4 (.tup [.int 0,.int 1])=H4 at s4 e4 ⊢
 refine ⟨sz,fun p5 n5=> ?_⟩
 have s5:=aD n5 (.tup [.int 1,.int 1])
 have e5:upd H4 p5 (.tup [.int 1,.int 1]) p5=some (.tup [.int 1,.int 1]):=ah
 generalize upd H4 p5 (.tup [.int 1,.int 1])=H5 at s5 e5 ⊢
 refine ⟨sz,fun p6 n6=> ?_⟩
 have s6:=aD n6 (.tup [.ref p4,.ref p5])
 have e6:upd H5 p6 (.tup [.ref p4,.ref p5]) p6=some (.tup [.ref p4,.ref p5]):=ah
 generalize upd H5 p6 (.tup [.ref p4,.ref p5])=H6 at s6 e6 ⊢
 refine ⟨sz,fun l nl=> ?_⟩
 have s7:=aD nl (.lst [.ref p3,.ref p6])
 have e7:upd H6 l (.lst [.ref p3,.ref p6]) l=some (.lst [.ref p3,.ref p6]):=ah
 generalize upd H6 l (.lst [.ref p3,.ref p6])=H7 at s7 e7 ⊢
 have s16:=s1.trans (s2.trans (s3.trans (s4.trans (s5.trans s6))))
 have w1:eY K H7 (.ref p3) (1,0):=xm q5 c_ (s7 _ _ (s6 _ _ (s5 _ _ (s4 _ _ e3)))) (s7 _ _ (s6 _ _ (s5 _ _ (s4 _ _ (s3 _ _ (s2 _ _ e1)))))) (s7 _ _ (s6 _ _ (s5 _ _ (s4 _ _ (s3 _ _ e2)))))
 have w2:eY K H7 (.ref p6) (0,1):=xm c_ q5 (s7 _ _ e6) (s7 _ _ (s6 _ _ (s5 _ _ e4))) (s7 _ _ (s6 _ _ e5))
 exact q l [.ref p3,.ref p6] H7 (s16.trans s7) (s16.free nl) e7 (.cons w1 (.cons w2 .nil))
def Kb (P:Program)(w:World)(K:Frag)(mg:Str→Option Value)(base:Heap)(H:Hp)(hv:V)(ws:List (Rat×Rat)):Prop:=(hv=.cA∧ws=[])∨∃(h Ch Qn:Addr) (Nk:List (Str×V)) (Xj:List Str) (Vh:Sp),hv=.ref h∧H h=some (.ins Ch Qn Nk)∧Nk.lookup ("ways":Str)=none∧bK P w K mg base (a_ P w) 2 Ch "ways" Xj Vh∧(∀H1,H1 h=some (.ins Ch Qn Nk)→bC H H1→∀Q',LS K H1 Q' ws→Vh [.ref h] H1 Q' E0)
inductive dE (P:Program)(w:World)(K:Frag)(mg:Str→Option Value)(base:Heap)(C:Addr)(vs:List V)(H:Hp)(Q:VK)(E_:XK):Prop where
 | mk (a dx pP pW pB:Addr) (ps:List (Str×Pt)) (bs:List (Str×Str×Str)) (kP kW kB:List (Key×V)) (pw:List (Str×List (Rat×Rat))) (x:Str) (u v hv:V) (p:Pt) (ws:List (Rat×Rat)) (_:vs=[.ref a,.str x,u,v,hv]) (_:e_ K H C a dx pP pW pB ps bs kP kW kB) (_:uJ K H pw kW) (_:pw.map (·.1)=ps.map (·.1)) (_:kA K H u p.1) (_:kA K H v p.2) (_:x∉ps.map (·.1)) (_:(∀z∈ps,z.2≠p)) (_:ps.length < 24) (_:Kb P w K mg base H hv ws) (_:∀(H' :Hp) (DG tF :List (Key×V)),(∀b o,b≠pP→b≠pW→H b=some o→H' b=some o)→e_ K H' C a dx pP pW pB (ps++[(x,p)]) bs DG tF kB→uJ K H' (pw++[(x,ws)]) tF →Q .cA H'):dE P w K mg base C vs H Q E_
theorem DH:aG ["self","name","x","y","hold","pin","spot"] ["self","name","x","y","hold"] (af k_):=sq
theorem Qo {f:Addr}{fd:FuncData}{C:Addr}(F:Ls K "put_pin" "Frame.put_pin" k_ f fd)(fc:CH K C){tkP:Tok}(LU:mg "MOST_PINS"=some (.int 24 tkP))(ba:mg "len"=none)(cZ:mg "list"=none):cH P w K mg base (a_ P w) 3 f fd ["self","name","x","y","hold"] (dE P w K mg base C):=by
 refine CD F DH (fun vs H Q E h=> ?_) (fun bD A outer s H vs Q E hr h=> ?_)
 ·obtain ⟨a,dx,pP,pW,pB,ps,bs,kP,kW,kB,pw,x,u,v,hv,p,ws,rfl,_⟩:=h
  rfl
 obtain ⟨a,dx,pP,pW,pB,ps,bs,kP,kW,kB,pw,x,u,v,hvv,p,ws,rfl,R,W,ew,hu,hv,hx,hs,hl,hH,q⟩:=h
 refine ⟨_,(ae (bG (jR (vb (b6 hr) (pv 1) (cP (pv 0) rfl))) (aj (cS)) aY)
  (ae (jb (bq PassesOwn.never rfl (mS (cP (pv 0) rfl)) (fW rfl (bo (aH (i:=5) DH.nd rfl (adH rfl)) (bo (aH (i:=6) DH.nd rfl (adH rfl)) dc))) (aj (bG (bf (HG hr.units) (pv 6) (aZ (au (pv 2) (au (pv 3) aa))) (bu _)) (aj (cS)) aY))))
  (ae (bG (bf JN (aT pC rfl ba b7 (au (cP (pv 0) rfl) aa)) (ff (v:=.int 24) rfl LU ⟨_,rfl⟩) (bu _)) (aj (cS)) aY)
  (ae (di (b6 hr) (cP (pv 0) rfl) (pv 1) (aZ (au (pv 2) (au (pv 3) aa))) rfl)
  (aj (di (b6 hr) (cP (pv 0) rfl) (pv 1) (r8 (bf AX (pv 4) mj (bu _)) (bO aa) (dY mJ rfl cZ mH (au (dh (k:=2) (pv 4) hr.mo (pY P w)) aa))) rfl)))))),?_⟩
 refine ⟨_,rfl,_,rfl,a,C,dx,_,_,rfl,R.obj,fc.cls,fc.pl,rfl,pP,_,rfl,cL.k (k:=.inr x) R.pl,_,rfl,?_⟩
 rw [R.pin x,decide_eq_false hx]
 have lk:kP.length=ps.length:=(Paired.length R.rp).symm
 refine ⟨_,rfl,a,C,dx,_,_,rfl,R.obj,fc.cls,fc.pl,rfl,pP,kP,rfl,R.pl,fun o=> ?_⟩
 have k0:bg pP H (upd H pP (.du o (.dK kP))):=fun b o' n e=>by rw [ao n];exact e
 refine g6 (d:=pP) (o:=o) (kvs:=kP) (fun t σ H' =>∃(o2 o3:Option V),σ=[some (.ref a),some (.str x),some u,some v,some hvv,o2,o3]∧bg pP H H' ∧H' pP=some (.du o (.dK kP))) ⟨none,none,rfl,k0,ah⟩ (fun t σ H' _ h=>by
   obtain ⟨_,_,_,_,h⟩:=h
   exact h) ?_ ?_
 ·rintro t k y σ H6 p7 m5 ⟨o2,o3,rfl,k6,LV⟩ n7
  obtain ⟨z,ez,hz1,O1⟩:=aF (bL R.rp) m5
  have Xk :k=.inr z.1:=hz1
  subst Xk
  have s6:bC H H6:=fun b xs r=>by
   rcases r with r | ⟨o',r⟩
   ·exact .inl (k6 _ _ (fun e=>by rw [e,R.pl] at r;cases r) r)
   ·exact .inr ⟨o',k6 _ _ (fun e=>by rw [e,R.pl] at r;cases r) r⟩
  have s7:=aD n7 (.tup [kV (.inr z.1),y])
  have s67:bC H (upd H6 p7 (.tup [kV (.inr z.1),y])):=s6.trans (.of s7)
  refine ⟨p7,_,rfl,cf.of ah,rfl,_,_,rfl,_,_,rfl,rfl,?_⟩
  refine ⟨_,rfl,_,rfl,_,rfl,(by show 2≤sizeLine;decide),fun t8 n8=> ?_⟩
  have s8:=aD n8 (.tup [u,v])
  have vB:bC H (upd (upd H6 p7 (.tup [kV (.inr z.1),y])) t8 (.tup [u,v])):=s67.trans (.of s8)
  refine ⟨dw z.2,dw p,.inl ⟨(Spot.aS O1 vB).is,(Spot.is (p:=p) ⟨t8,u,v,rfl,cf.of ah,hu.aS vB,hv.aS vB⟩)⟩,kC _ _,pD _,?_⟩
  rw [tE]
  refine ⟨_,rfl,?_⟩
  refine bM (fun c=>absurd (of_decide_eq_true c) (hs z (aa_ ez))) (fun _=> ?_)
  exact ⟨_,_,rfl,fun b o' n e=>s8 _ _ (s7 _ _ (k6 b o' n e)),s8 _ _ (s7 _ _ LV)⟩
 ·rintro σ H1 ⟨o2,o3,rfl,k1,Vi⟩
  refine ⟨pP,o,kP,Vi,fun o' u' z=>(by have z' :H pP=some (.du o' u'):=z;rw [R.pl] at z';cases z'),?_⟩
  have s2:av H (upd H1 pP (.dK kP)):=fun b o' e=>by
   by_cases n:b=pP
   ·subst n
    rw [R.pl] at e
    rw [ah]
    exact e
   ·rw [ao n]
    exact k1 b o' n e
  generalize upd H1 pP (.dK kP)=H2 at s2 ⊢
  have R2:=R.same s2
  refine ⟨_,rfl,a,C,dx,_,_,rfl,R2.obj,fc.cls,fc.pl,rfl,pP,kP,rfl,.inl R2.pl,_,_,rfl,rfl,_,rfl,?_⟩
  refine bM (fun c=> ?_) (fun _=> ?_)
  ·have c' :(24:Int)≤(kP.length:Int):=of_decide_eq_true c
   omega
  refine ⟨_,rfl,_,rfl,(by show 2≤sizeLine;decide),fun t nt=> ?_⟩
  have s3:=aD nt (.tup [u,v])
  have R3:=R2.same s3
  have Va:=(hu.same s2).same s3
  have hv3:=(hv.same s2).same s3
  refine ⟨_,rfl,a,C,dx,_,_,rfl,R3.obj,fc.cls,fc.pl,rfl,_,rfl,pP,_,rfl,h7.k (k:=.inr x) R3.pl (adO (show kP.length≤1000 by omega) (by decide)),?_⟩
  have e:putK kP (.inr x) (.ref t)=kP++[(.inr x,.ref t)]:=cF _ (bY (by rw [R.w4];exact fun z=>hx (fm.mp z)))
  rw [e]
  have R4:=R3.Lv (x:=x) (p:=p) (t:=t) ⟨t,u,v,rfl,cf.of ah,Va,hv3⟩
  have k4:∀b o,b≠pP→H b=some o→(upd (upd H2 t (.tup [u,v])) pP (.dK (kP++[(.inr x,.ref t)]))) b=some o:=fun b o n e=>by rw [ao n];exact s3 _ _ (s2 _ _ e)
  generalize upd (upd H2 t (.tup [u,v])) pP (.dK (kP++[(.inr x,.ref t)]))=H4 at R4 k4 ⊢
  have lw:kW.length=ps.length:=by
   have e1:kW.length=pw.length:=(Paired.length W).symm
   have e2:=congrArg aeE ew
   rw [Wp,Wp] at e2
   omega
  have t4:bC H H4:=fun b xs r=>by
   rcases r with r | ⟨o',r⟩
   ·exact .inl (k4 _ _ (fun e=>by rw [e,R.pl] at r;cases r) r)
   ·exact .inr ⟨o',k4 _ _ (fun e=>by rw [e,R.pl] at r;cases r) r⟩
  have W4:uJ K H4 pw kW:=Paired.bZ W fun _ _ z=>⟨z.1,by
   obtain ⟨l,us,e1,e2,e3⟩:=z.2
   exact ⟨l,us,e1,k4 _ _ (fun e=>by rw [e,R.pl] at e2;cases e2) e2,e3.aS t4⟩⟩
  refine ⟨_,rfl,rfl,_,rfl,?_⟩
  rcases hH with ⟨rfl,rfl⟩ | ⟨h,Ch,Qn,Nk,Xj,Vh,rfl,hh,hlk,MH,uI⟩
  ·refine bM (fun _=> ?_) (fun c=>absurd (by decide) c)
   refine ⟨by show 0≤sizeLine;decide,fun l2 n6=> ?_⟩
   have s6:=aD n6 (.lst [])
   have R6:=R4.same s6
   have W6:=W4.same s6
   refine ⟨_,rfl,a,C,dx,_,_,rfl,R6.obj,fc.cls,fc.wy,rfl,_,rfl,pW,_,rfl,h7.k (k:=.inr x) R6.wy (adO (show kW.length≤1000 by omega) (by decide)),?_⟩
   have ek:putK kW (.inr x) (.ref l2)=kW++[(.inr x,.ref l2)]:=cF _ (bY (by rw [W.keys,ew];exact fun z=>hx (fm.mp z)))
   rw [ek]
   have Xl:l2≠pW:=fun z=>by have h:=R6.wy;rw [← z,ah] at h;cases h
   exact q _ _ _ (fun b o n1 n2 e=>by rw [ao n2];exact s6 _ _ (k4 b o n1 e)) (R6.w6 _) (Paired.snoc (W6.dict R6.wy) ⟨rfl,l2,[],rfl,by rw [ao Xl,ah],.nil⟩)
  have h4:H4 h=some (.ins Ch Qn Nk):=k4 _ _ (fun e=>by rw [e,R.pl] at hh;cases hh) hh
  refine bM (fun c=>absurd (of_decide_eq_true c) (fun z=>nomatch z)) (fun _=> ?_)
  refine ⟨_,rfl,h,Ch,Qn,Nk,Xj,Vh,rfl,h4,hlk,MH,uI H4 h4 t4 _ fun l1 us H5 s5 n5 e5 p5=> ?_⟩
  refine ⟨l1,us,rfl,aV.of e5,fun l2 n6=> ?_⟩
  have s6:=aD n6 (.lst us)
  have R6:=(R4.same s5).same s6
  have W6:=(W4.same s5).same s6
  refine ⟨_,rfl,a,C,dx,_,_,rfl,R6.obj,fc.cls,fc.wy,rfl,_,rfl,pW,_,rfl,h7.k (k:=.inr x) R6.wy (adO (show kW.length≤1000 by omega) (by decide)),?_⟩
  have ek:putK kW (.inr x) (.ref l2)=kW++[(.inr x,.ref l2)]:=cF _ (bY (by rw [W.keys,ew];exact fun z=>hx (fm.mp z)))
  rw [ek]
  have vH:av H4 (upd H5 l2 (.lst us)):=fun b o z=>s6 _ _ (s5 _ _ z)
  refine q _ _ _ (fun b o n1 n2 e=>by rw [ao n2];exact vH _ _ (k4 b o n1 e)) (R6.w6 _) ?_
  have Xl:l2≠pW:=fun z=>by have h:=R6.wy;rw [← z,ah] at h;cases h
  exact Paired.snoc (W6.dict R6.wy) ⟨rfl,l2,us,rfl,by rw [ao Xl,ah],(p5.same s6).aS (.dict R6.wy)⟩
inductive gd (K:Frag)(C:Addr)(vs:List V)(H:Hp)(Q:VK)(E_:XK):Prop where
 | mk (a dx pP pW pB:Addr) (ps:List (Str×Pt)) (bs:List (Str×Str×Str)) (kP kW kB:List (Key×V)) (x one other:Str) (_:vs=[.ref a,.str x,.str one,.str other]) (_:e_ K H C a dx pP pW pB ps bs kP kW kB) (_:x∉bs.map (·.1)) (_:one∈ps.map (·.1)) (_:other∈ps.map (·.1)) (_:one≠other) (_:bs.length < 60) (_:Q .cA H):gd K C vs H Q E_
theorem Qp:aG ["self","name","one","other"] ["self","name","one","other"] (af zg):=sq
theorem Qq {f:Addr}{fd:FuncData}{C:Addr}(F:oi K "check_bar" "Frame.check_bar" zg f fd)(fc:CH K C){tkB:Tok}(LW:mg "MOST_BARS"=some (.int 60 tkB))(ba:mg "len"=none)
  (MC:bK P w K mg base (a_ P w) 1 C "check_pin" ["self","pin"] (dD K C)):cH P w K mg base (a_ P w) 2 f fd ["self","name","one","other"] (gd K C):=by
 refine cX F Qp (fun vs H Q E h=> ?_) (fun bD A outer s H vs Q E hr h=> ?_)
 ·obtain ⟨a,dx,pP,pW,pB,ps,bs,kP,kW,kB,x,one,other,rfl,_⟩:=h
  rfl
 obtain ⟨a,dx,pP,pW,pB,ps,bs,kP,kW,kB,x,one,other,rfl,R,hx,h1,h2,ne,hl,q⟩:=h
 refine ⟨_,(ae (bG (jR (vb (b6 hr) (pv 1) (cP (pv 0) rfl))) (aj (cS)) aY)
  (ae (bQ (dB (k:=1) (pv 0) hr.mo (pY P w) (au (pv 2) aa)))
  (ae (bQ (dB (k:=1) (pv 0) hr.mo (pY P w) (au (pv 3) aa)))
  (ae (bG (bf de (pv 2) (pv 3) (bu _)) (aj (cS)) aY)
  (aj (bG (bf JN (aT pC rfl ba b7 (au (cP (pv 0) rfl) aa)) (ff (v:=.int 60) rfl LW ⟨_,rfl⟩) (bu _)) (aj (cS)) aY)))))),?_⟩
 refine ⟨_,rfl,_,rfl,a,C,dx,_,_,rfl,R.obj,fc.cls,fc.br,rfl,pB,_,rfl,cL.k (k:=.inr x) R.br,_,rfl,?_⟩
 rw [R.bar x,decide_eq_false hx]
 refine ⟨_,rfl,a,C,dx,_,_,_,rfl,R.obj,rfl,MC,_,rfl,a,dx,pP,pW,pB,ps,bs,kP,kW,kB,one,rfl,R,h1,?_⟩
 refine ⟨_,rfl,a,C,dx,_,_,_,rfl,R.obj,rfl,MC,_,rfl,a,dx,pP,pW,pB,ps,bs,kP,kW,kB,other,rfl,R,h2,?_⟩
 refine ⟨_,rfl,_,rfl,rfl,_,rfl,?_⟩
 refine bM (fun c=>absurd (by simpa [oh] using c) ne) (fun _=> ?_)
 have lk:kB.length=bs.length:=(Paired.length R.rb).symm
 refine ⟨_,rfl,a,C,dx,_,_,rfl,R.obj,fc.cls,fc.br,rfl,pB,kB,rfl,.inl R.br,_,_,rfl,rfl,_,rfl,?_⟩
 refine bM (fun c=> ?_) (fun _=>q)
 have c' :(60:Int)≤(kB.length:Int):=of_decide_eq_true c
 omega
inductive jr (K:Frag)(C:Addr)(vs:List V)(H:Hp)(Q:VK)(E_:XK):Prop where
 | mk (a dx pP pW pB:Addr) (ps:List (Str×Pt)) (bs:List (Str×Str×Str)) (kP kW kB:List (Key×V)) (x one other:Str) (_:vs=[.ref a,.str x,.str one,.str other]) (_:e_ K H C a dx pP pW pB ps bs kP kW kB) (_:x∉bs.map (·.1)) (_:one∈ps.map (·.1)) (_:other∈ps.map (·.1)) (_:one≠other) (_:bs.length < 60) (_:∀(H' :Hp) (Xm :List (Key×V)),bg pB H H' →e_ K H' C a dx pP pW pB ps (bs++[(x,one,other)]) kP kW Xm →Q .cA H'):jr K C vs H Q E_
theorem Qr:aG ["self","name","one","other"] ["self","name","one","other"] (af zf):=sq
theorem Qs {f:Addr}{fd:FuncData}{C:Addr}(F:oi K "put_bar" "Frame.put_bar" zf f fd)(fc:CH K C)
  (MC:bK P w K mg base (a_ P w) 2 C "check_bar" ["self","name","one","other"] (gd K C)):cH P w K mg base (a_ P w) 3 f fd ["self","name","one","other"] (jr K C):=by
 refine cX F Qr (fun vs H Q E h=> ?_) (fun bD A outer s H vs Q E hr h=> ?_)
 ·obtain ⟨a,dx,pP,pW,pB,ps,bs,kP,kW,kB,x,one,other,rfl,_⟩:=h
  rfl
 obtain ⟨a,dx,pP,pW,pB,ps,bs,kP,kW,kB,x,one,other,rfl,R,hx,h1,h2,ne,hl,q⟩:=h
 refine ⟨_,(ae (bQ (dB (k:=2) (pv 0) hr.mo (pY P w) (au (pv 1) (au (pv 2) (au (pv 3) aa)))))
  (aj (di (b6 hr) (cP (pv 0) rfl) (pv 1) (aZ (au (pv 2) (au (pv 3) aa))) rfl))),?_⟩
 refine ⟨_,rfl,a,C,dx,_,_,_,rfl,R.obj,rfl,MC,_,rfl,_,rfl,_,rfl,a,dx,pP,pW,pB,ps,bs,kP,kW,kB,x,one,other,rfl,R,hx,h1,h2,ne,hl,?_⟩
 refine ⟨_,rfl,_,rfl,(by show 2≤sizeLine;decide),fun t nt=> ?_⟩
 have s:=aD nt (.tup [.str one,.str other])
 have R' :=R.same s
 have lk:kB.length=bs.length:=(Paired.length R.rb).symm
 refine ⟨_,rfl,a,C,dx,_,_,rfl,R'.obj,fc.cls,fc.br,rfl,_,rfl,pB,_,rfl,h7.k (k:=.inr x) R'.br (adO (show kB.length≤1000 by omega) (by decide)),?_⟩
 have e:putK kB (.inr x) (.ref t)=kB++[(.inr x,.ref t)]:=cF _ (bY (by rw [R.wZ];exact fun z=>hx (fm.mp z)))
 rw [e]
 refine q _ _ (fun b o n z=> ?_) (R'.Lu (.inl ah))
 rw [ao n]
 exact s _ _ z
def gP (p q:aE):Rat×Rat:=(q.sp.1 - p.sp.1,q.sp.2 - p.sp.2)
inductive DI (K:Frag)(C:Addr)(vs:List V)(H:Hp)(Q:VK)(E_:XK):Prop where
 | mk (a:Addr) (pins:List aE) (bars:List a8) (p q:aE) (_:vs=[.ref a,.str p.nm,.str q.nm]) (_:yr K H C a pins bars) (_:dy pins bars) (_:p∈pins) (_:q∈pins) (_:DF K H Q (gP p q)):DI K C vs H Q E_
theorem Kc {pins:List aE}(h:(pins.map (·.nm)).Nodup):((pins.map fun p=>(p.nm,rX p.sp)).map (·.1)).Nodup:=by
 rw [ad1]
 exact h
theorem Kd {pins:List aE}(h:(pins.map (·.nm)).Nodup):((pins.map fun p=>(p.nm,p.ws)).map (·.1)).Nodup:=by
 rw [ad1]
 exact h
theorem Qt {bars:List a8}(h:(bars.map (·.nm)).Nodup):((bars.map fun b=>(b.nm,b.one.nm,b.other.nm)).map (·.1)).Nodup:=by
 rw [ad1]
 exact h
theorem Qu:aG ["F","one","other"] ["F","one","other"] (af yB):=sq
theorem Qv {C:Addr}(D:Def K mg "arm_between" yB ["F","one","other"])(MP:bK P w K mg base (a_ P w) 2 C "place" ["self","pin"] (l_ K C))(Xn:Fn P w K mg base (a_ P w) 35 "pair_difference" ["one","other"] (vG K fun a b=>a - b)):Fn P w K mg base (a_ P w) 36 "arm_between" ["F","one","other"] (DI K C):=by
 refine D.ok Qu (fun vs H Q E h=> ?_) (fun f bD A outer s H vs Q E hr h=> ?_)
 ·obtain ⟨a,pins,bars,p,q,rfl,_⟩:=h
  rfl
 obtain ⟨a,pins,bars,p,q,rfl,R,g,hp,hq,k⟩:=h
 obtain ⟨dx,pP,pW,pB,kP,kW,kB,R,W⟩:=R.ex
 refine ⟨_,(aj (aL (aC Xn hr.mo (pY P w) (au (dB (k:=2) (pv 0) hr.mo (pY P w) (au (pv 2) aa)) (au (dB (k:=2) (pv 0) hr.mo (pY P w) (au (pv 1) aa)) aa))))),?_⟩
 refine ⟨_,rfl,a,C,dx,_,_,_,rfl,R.obj,rfl,MP,_,rfl,a,dx,pP,pW,pB,_,_,kP,kW,kB,q.nm,rX q.sp,rfl,R,Kc g.np,abt.mpr ⟨q,hq,rfl⟩,fun v1 h1=> ?_⟩
 refine ⟨_,rfl,a,C,dx,_,_,_,rfl,R.obj,rfl,MP,_,rfl,a,dx,pP,pW,pB,_,_,kP,kW,kB,p.nm,rX p.sp,rfl,R,Kc g.np,abt.mpr ⟨p,hp,rfl⟩,fun v2 h2=> ?_⟩
 have z1:=g.sz q hq
 have z2:=g.sz p hp
 exact ⟨v1,v2,q.sp,p.sp,rfl,h1,h2,z1.1.up (by decide),z1.2.1.up (by decide),z2.1.up (by decide),z2.2.1.up (by decide),k⟩
def mv (M:Str→Option (Rat×Rat))(x:Str):Rat×Rat:=(M x).getD (0,0)
def cK (F:Str→Option (Rat×Rat))(pins:List aE):List (Int×Int):=pins.flatMap fun p=>[qr (mv F p.nm).1,qr (mv F p.nm).2]
theorem gQ (F:Str→Option (Rat×Rat)):∀pins:List aE,(cK F pins).length=2*pins.length
 | []=>rfl
 | p::ps=>by
  have:=gQ F ps
  unfold cK at this ⊢
  rw [adS,adK,this]
  simp
  omega
theorem zG (F:Str→Option (Rat×Rat))(ps:List aE)(p:aE):cK F (ps++[p])=cK F ps++[qr (mv F p.nm).1,qr (mv F p.nm).2]:=by
 unfold cK
 rw [aey]
 simp
def dP (x:Str)(w:Rat×Rat):Str→Option (Rat×Rat):=fun y=>if y=x then some w else none
def cI (b:a8):Str→Option (Rat×Rat):=fun y=>if y=b.one.nm then some (gP b.one b.other) else if y=b.other.nm then some (gP b.other b.one) else none
def m9 (pins:List aE)(p:aE):List (List (Int×Int)):=p.ws.map fun w=>cK (dP p.nm w) pins
def cp (pins:List aE)(bars:List a8):List (List (Int×Int)):=(pins.flatMap fun p=>m9 pins p)++bars.map fun b=>cK (cI b) pins
structure gw (K:Frag)(H:Hp)(r:Addr)(ls:List Addr)(bW:List (List V))(cE:List (List (Int×Int))):Prop where
 iY:iG H r ls bW
 num:fE K H bW cE
 nr:r∉ls
theorem gw.same {H H' :Hp}{r:Addr}{ls:List Addr}{bW:List (List V)}{cE:List (List (Int×Int))}(h:gw K H r ls bW cE)(s:av H H'):gw K H' r ls bW cE:=⟨h.iY.same s,h.num.same s,h.nr⟩
theorem m_ {H:Hp}{bW:List (List V)}{cE:List (List (Int×Int))}{us:List V}{qs:List (Int×Int)}(h:fE K H bW cE)(n:cg K H us qs):fE K H (bW++[us]) (cE++[qs]):=by
 refine ⟨by simp [h.1],fun i u q' e1 e2=> ?_⟩
 have l:=h.1
 by_cases c:i < bW.length
 ·rw [adI c] at e1
  rw [adI (by omega)] at e2
  exact h.2 i u q' e1 e2
 ·rw [adN (by omega)] at e1 e2
  by_cases z:i - bW.length=0
  ·rw [z] at e1
   rw [show i - cE.length=0 by omega] at e2
   cases e1
   cases e2
   exact n
  ·rw [ab_ (by simp;omega)] at e1
   cases e1
theorem xo {H:Hp}{ls:List Addr}{bW:List (List V)}{l:Addr}{us:List V}(hl:ls.length=bW.length)(h:∀(i:Nat) (l:Addr) (vs:List V),ls[i]? =some l→bW[i]? =some vs→H l=some (.lst vs))(e:H l=some (.lst us)):
  ∀(i:Nat) (l' :Addr) (vs:List V),(ls++[l])[i]? =some l' →(bW++[us])[i]? =some vs→H l' =some (.lst vs):=fun i l' vs e1 e2=>by
 by_cases c:i < ls.length
 ·rw [adI c] at e1
  rw [adI (by omega)] at e2
  exact h i l' vs e1 e2
 ·rw [adN (by omega)] at e1 e2
  by_cases z:i - ls.length=0
  ·rw [z] at e1
   rw [show i - bW.length=0 by omega] at e2
   cases e1
   cases e2
   exact e
  ·rw [ab_ (by simp;omega)] at e1
   cases e1
theorem gw.push {H:Hp}{r l:Addr}{ls:List Addr}{bW:List (List V)}{cE:List (List (Int×Int))}{us:List V}{qs:List (Int×Int)}(h:gw K H r ls bW cE)(e:H l=some (.lst us))(ne:l≠r)(n:cg K H us qs):
  gw K (upd H r (.lst (ls.map V.ref++[.ref l]))) r (ls++[l]) (bW++[us]) (cE++[qs]):=by
 have st:bC H (upd H r (.lst (ls.map V.ref++[.ref l]))):=.list h.iY.1
 have hm:∀(i:Nat) (l' :Addr) (vs:List V),ls[i]? =some l' →bW[i]? =some vs→(upd H r (.lst (ls.map V.ref++[.ref l]))) l' =some (.lst vs):=fun i l' vs e1 e2=>by
  rw [ao (fun z:l' =r=>h.nr (by rw [← z];exact aa_ e1))]
  exact h.iY.2.2 i l' vs e1 e2
 refine ⟨⟨by rw [ah,adR];rfl,by simp [h.iY.2.1],xo h.iY.2.1 hm (by rw [ao ne];exact e)⟩,?_,?_⟩
 ·exact m_ ⟨h.num.1,fun i vs qs e1 e2=>(h.num.2 i vs qs e1 e2).aS st⟩ (n.aS st)
 ·intro z
  rcases adQ.mp z with z | z
  ·exact h.nr z
  ·exact ne (adJ.mp z).symm
inductive fT (K:Frag)(C:Addr)(vs:List V)(H:Hp)(Q:VK)(E_:XK):Prop where
 | mk (a d:Addr) (pins:List aE) (bars:List a8) (kvs:List (Key×V)) (F:Str→Option (Rat×Rat)) (_:vs=[.ref a,.ref d]) (_:yr K H C a pins bars) (_:pins.length≤100) (_:H d=some (.dK kvs)) (_:HW K H kvs F) (_:∀(l:Addr) (us:List V) (H' :Hp),av H H' →H l=none→H' l=some (.lst us)→cg K H' us (cK F pins)→Q (.ref l) H'):fT K C vs H Q E_
theorem fu (pins:List aE):((pins.map fun p=>(p.nm,rX p.sp)).map (·.1))=pins.map (·.nm):=by rw [ad1];rfl
theorem DJ:aG ["F","draws","row","pin"] ["F","draws"] (af yC):=sq
theorem Qw {C aM:Addr}(hM:∀H:Hp,eY K H (.ref aM) (0,0))(LX:mg "NO_MOVE"=some (.ref aM))(D:Def K mg "pair_row" yC ["F","draws"])(MP:bK P w K mg base (a_ P w) 1 C "pins" ["self"] (fG K C)):Fn P w K mg base (a_ P w) 2 "pair_row" ["F","draws"] (fT K C):=by
 refine D.ok DJ (fun vs H Q E h=> ?_) (fun f bD A outer s H vs Q E hr h=> ?_)
 ·obtain ⟨a,d,pins,bars,kvs,F,rfl,_⟩:=h
  rfl
 obtain ⟨a,d,pins,bars,kvs,F,rfl,R,lp,hd,hP,q⟩:=h
 refine ⟨_,(ae (ay (i:=2) DJ.nd rfl (adH rfl) (bO aa))
  (ae (bq PassesOwn.never rfl (bR (dh (k:=1) (pv 0) hr.mo (pY P w))) (aH (i:=3) DJ.nd rfl (adH rfl)) (aj (bQ (kr PySem.F.plainAttrs_list PySem.F.slot_list_extend PySem.F.type_list_extend HY (pv 2) (au (BW (b6 hr) (pv 1) (pv 3) (ff (v:=.ref aM) rfl LX rfl) ⟨rfl,rfl,rfl,rfl⟩) aa)))))
  (aj (aL (pv 2))))),?_⟩
 refine ⟨(by show 0≤sizeLine;decide),?_⟩
 intro l nl;generalize eX:upd _ l _=H1;have ⟨s1,el⟩:=nw nl eX;clear eX
 have R1:=R.same s1
 obtain ⟨dx,pP,pW,pB,kP,kW,kB,F1,W1⟩:=R1.ex
 refine ⟨_,rfl,a,C,dx,_,_,_,rfl,F1.obj,rfl,MP,a,dx,pP,pW,pB,_,_,kP,kW,kB,rfl,F1,fun lp H2 s2 uL oF=> ?_⟩
 rw [fu] at oF
 have rY:=s1.trans s2
 have FO:lp≠l:=fun z=>by rw [z,el] at uL;cases uL
 refine ⟨lp,rfl,⟨_,aV.of oF⟩,cT (K:=K) (a:=lp) (xs:=(pins.map (·.nm)).map V.str) (fun i σ H' =>∃(o3:Option V) (us:List V),σ=[some (.ref a),some (.ref d),some (.ref l),o3]∧av H H' ∧H' lp=some (.lst ((pins.map (·.nm)).map V.str))∧H' l=some (.lst us)∧cg K H' us (cK F (pins.take i))) ⟨none,[],rfl,rY,oF,s2 _ _ el,⟨rfl,fun i u q e=>by simp at e⟩⟩ (fun i σ H' _ h=>by
   obtain ⟨_,_,_,_,h,_⟩:=h
   exact aV.of h) ?_ ?_⟩
 ·rintro i z σ H4 hi ⟨o3,us,rfl,s4,l4,e4,n4⟩
  rw [ir,ir] at hi
  obtain ⟨x,hx,rfl⟩:=adM.mp hi
  obtain ⟨p,hp,rfl⟩:=adM.mp hx
  have il:i < pins.length:=(be.mp hp).1
  have d4:=s4 _ _ hd
  have g1:eY K H4 ((bV kvs (.inr p.nm)).getD (.ref aM)) (mv F p.nm):=(hP.same s4).Wu (hM H4)
  obtain ⟨b,u1,u2,eb,hb,h1,h2⟩:=g1
  have lu:us.length≤200:=by
   have:=n4.1
   rw [gQ,adZ] at this
   omega
  refine ⟨_,rfl,.inl ⟨rfl,_,aV.of e4⟩,_,rfl,d,rfl,.inl ⟨_,.inl d4⟩,_,rfl,_,cL.k (k:=.inr p.nm) d4,l,b,us,[u1,u2],rfl,by rw [eb],e4,hb,by simp;omega,?_⟩
  have st:bC H4 (upd H4 l (.lst (us++[u1,u2]))):=.list e4
  refine ⟨_,us++[u1,u2],rfl,fun c o z=> ?_,?_,ah,?_⟩
  ·rw [ao (aq z nl)]
   exact s4 _ _ z
  ·rw [ao FO]
   exact l4
  ·rw [take_snoc hp,zG]
   have a1:=cg.snoc (K:=K) (n4.aS st) (fJ.aS h1 st)
   have a2:=cg.snoc (K:=K) a1 (fJ.aS h2 st)
   simpa using a2
 ·rintro σ H4 ⟨o3,us,rfl,s4,l4,e4,n4⟩
  rw [Wp,Wp,aea] at n4
  exact ⟨_,rfl,q l us H4 s4 nl e4 n4⟩
inductive kc (K:Frag)(C:Addr)(vs:List V)(H:Hp)(Q:VK)(E_:XK):Prop where
 | mk (a d:Addr) (pins:List aE) (bars:List a8) (kvs:List (Key×V)) (F:Str→Option (Rat×Rat)) (_:vs=[.ref a,.ref d]) (_:yr K H C a pins bars) (_:pins.length≤100) (_:H d=some (.dK kvs)) (_:HW K H kvs F) (_:(∀kv∈kvs,∃x∈pins.map (·.nm),kv.1=.inr x)) (_:∀(l:Addr) (us:List V) (H' :Hp),av H H' →H l=none→H' l=some (.lst us)→cg K H' us (cK F pins)→Q (.ref l) H'):kc K C vs H Q E_
theorem DK:aG ["F","load","pins","pin"] ["F","load"] (af yD):=sq
theorem Qx {C:Addr}(D:Def K mg "load_row" yD ["F","load"])(MP:bK P w K mg base (a_ P w) 1 C "pins" ["self"] (fG K C))(DL:Fn P w K mg base (a_ P w) 2 "pair_row" ["F","draws"] (fT K C)):Fn P w K mg base (a_ P w) 3 "load_row" ["F","load"] (kc K C):=by
 refine D.ok DK (fun vs H Q E h=> ?_) (fun f bD A outer s H vs Q E hr h=> ?_)
 ·obtain ⟨a,d,pins,bars,kvs,F,rfl,_⟩:=h
  rfl
 obtain ⟨a,d,pins,bars,kvs,F,rfl,R,lp,hd,hP,hk,q⟩:=h
 refine ⟨_,(ae (ay (i:=2) DK.nd rfl (adH rfl) (dh (k:=1) (pv 0) hr.mo (pY P w)))
  (ae (jb (bq PassesOwn.never rfl (qK (pv 1)) (aH (i:=3) DK.nd rfl (adH rfl)) (aj (bG (bf qv (pv 3) (pv 2) rfl) (aj (cS)) aY))))
  (aj (aL (aC DL hr.mo (pY P w) (au (pv 0) (au (pv 1) aa))))))),?_⟩
 obtain ⟨dx,pP,pW,pB,kP,kW,kB,F1,W1⟩:=R.ex
 refine ⟨_,rfl,a,C,dx,_,_,_,rfl,F1.obj,rfl,MP,a,dx,pP,pW,pB,_,_,kP,kW,kB,rfl,F1,fun l H1 s1 nl el=> ?_⟩
 rw [fu] at el
 have Vi:=s1 _ _ hd
 refine ⟨_,rfl,d,kvs,rfl,Vi,fun o=> ?_⟩
 have ld:l≠d:=fun z=>by rw [z,Vi] at el;cases el
 refine mU (d:=d) (o:=o) (kvs:=kvs) (fun t σ H' =>∃(o2:Option V),σ=[some (.ref a),some (.ref d),some (.ref l),o2]∧H' =upd H1 d (.du o (.dK kvs))) ⟨none,rfl,rfl⟩ (fun t σ H' _ h=>by
   obtain ⟨_,_,rfl⟩:=h
   exact ah) ?_ ?_
 ·rintro t k y σ H6 m5 ⟨o2,rfl,rfl⟩
  obtain ⟨x,hx,ex⟩:=hk _ (aa_ m5)
  have F_ :k=.inr x:=ex
  subst F_
  refine ⟨_,rfl,_,rfl,l,_,rfl,.inl (aV.of (by rw [ao ld];exact el)),rfl,yo _,_,rfl,?_⟩
  refine bM (fun c=> ?_) (fun _=>⟨_,rfl,rfl⟩)
  have c' :(!N8 (.str x) ((pins.map (·.nm)).map V.str))=true:=c
  rw [tG,decide_eq_true hx] at c'
  cases c'
 ·rintro σ H6 ⟨o2,rfl,rfl⟩
  refine ⟨d,o,kvs,ah,fun o' u' z=>(by have z' :H d=some (.du o' u'):=z;rw [hd] at z';cases z'),?_⟩
  have s2:av H (upd (upd H1 d (.du o (.dK kvs))) d (.dK kvs)):=fun b o' e=>by
   by_cases n:b=d
   ·subst n
    rw [hd] at e
    rw [ah]
    exact e
   ·rw [ao n,ao n]
    exact s1 _ _ e
  generalize upd (upd H1 d (.du o (.dK kvs))) d (.dK kvs)=H2 at s2 ⊢
  refine ⟨_,rfl,_,rfl,a,d,pins,bars,kvs,F,rfl,R.same s2,lp,s2 _ _ hd,hP.same s2,fun l' us H3 s3 n3 e3 nm=> ?_⟩
  exact q l' us H3 (s2.trans s3) (s2.free n3) e3 nm
inductive ng (K:Frag)(C:Addr)(vs:List V)(H:Hp)(Q:VK)(E_:XK):Prop where
 | mk (a:Addr) (pins:List aE) (bars:List a8) (b:a8) (_:vs=[.ref a,.str b.one.nm,.str b.other.nm]) (_:yr K H C a pins bars) (_:dy pins bars) (_:b.one∈pins) (_:b.other∈pins) (_:b.one.nm≠b.other.nm) (_:∀(l:Addr) (us:List V) (H' :Hp),av H H' →H l=none→H' l=some (.lst us)→cg K H' us (cK (cI b) pins)→Q (.ref l) H'):ng K C vs H Q E_
theorem LY (k:Key)(v:V):b8 [] [(k,v)]=[(k,v)]:=rfl
theorem LZ {k j:Key}(v u:V)(h:k≠j):b8 [] [(k,v),(j,u)]=[(k,v),(j,u)]:=by
 show putK [(k,v)] j u=_
 rw [cF]
 ·rfl
 ·rw [bw h]
  rfl
theorem Qy:aG ["F","one","other"] ["F","one","other"] (af yE):=sq
theorem Qz {C:Addr}(D:Def K mg "bar_row" yE ["F","one","other"])(QC:Fn P w K mg base (a_ P w) 36 "arm_between" ["F","one","other"] (DI K C))(DL:Fn P w K mg base (a_ P w) 2 "pair_row" ["F","draws"] (fT K C)):Fn P w K mg base (a_ P w) 37 "bar_row" ["F","one","other"] (ng K C):=by
 refine D.ok Qy (fun vs H Q E h=> ?_) (fun f bD A outer s H vs Q E hr h=> ?_)
 ·obtain ⟨a,pins,bars,b,rfl,_⟩:=h
  rfl
 obtain ⟨a,pins,bars,b,rfl,R,g,m1,m2,ne,q⟩:=h
 refine ⟨_,(aj (aL (aC DL hr.mo pX (au (pv 0) (au (wU (mN (pv 1) (aC QC hr.mo pX (au (pv 0) (au (pv 1) (au (pv 2) aa)))) (mN (pv 2) (aC QC hr.mo pX (au (pv 0) (au (pv 2) (au (pv 1) aa)))) wQ)) rfl rfl (ant _ _) (by decide)) aa))))),?_⟩
 refine ⟨_,rfl,fun d nd=> ?_⟩
 have s1:=aD nd (.dK [])
 have e1:(upd H d (.dK [])) d=some (.dK []):=ah
 generalize upd H d (.dK [])=H1 at s1 e1 ⊢
 refine ⟨_,rfl,_,rfl,_,rfl,_,rfl,a,pins,bars,b.one,b.other,rfl,R.same s1,g,m1,m2,fun v1 H2 s2 h2=> ?_⟩
 refine ⟨_,rfl,_,rfl,_,rfl,_,rfl,a,pins,bars,b.other,b.one,rfl,(R.same s1).same s2,g,m2,m1,fun v2 H3 s3 h3=> ?_⟩
 have e3:=s3 _ _ (s2 _ _ e1)
 refine ⟨e3,[(.inr b.one.nm,v1),(.inr b.other.nm,v2)],rfl,(by show 2≤15;decide),?_⟩
 rw [LZ _ _ (fun z=>ne (aem z))]
 have st:bC H3 (upd H3 d (.dK [(.inr b.one.nm,v1),(.inr b.other.nm,v2)])):=.dict e3
 have e4:(upd H3 d (.dK [(.inr b.one.nm,v1),(.inr b.other.nm,v2)])) d=some (.dK [(.inr b.one.nm,v1),(.inr b.other.nm,v2)]):=ah
 have s4:av H (upd H3 d (.dK [(.inr b.one.nm,v1),(.inr b.other.nm,v2)])):=fun c o z=>by
  rw [ao (aq z nd)]
  exact s3 _ _ (s2 _ _ (s1 _ _ z))
 generalize upd H3 d (.dK [(.inr b.one.nm,v1),(.inr b.other.nm,v2)])=H4 at st e4 s4 ⊢
 refine ⟨a,d,pins,bars,_,cI b,rfl,R.same s4,adF g.lp (by decide),e4,fun x=> ?_,fun l us H5 s5 n5 e5 nm=>q l us H5 (s4.trans s5) (s4.free n5) e5 nm⟩
 by_cases c1:x=b.one.nm
 ·subst c1
  exact .inr ⟨v1,gP b.one b.other,bH rfl,by unfold cI;rw [if_pos rfl],(h2.same s3).aS st⟩
 ·by_cases c2:x=b.other.nm
  ·subst c2
   exact .inr ⟨v2,gP b.other b.one,by rw [bw (fun z=>c1 (aem z).symm),bH rfl],by unfold cI;rw [if_neg c1,if_pos rfl],h3.aS st⟩
  ·exact .inl ⟨by rw [bw (fun z=>c1 (aem z).symm),bw (fun z=>c2 (aem z).symm)];rfl,by unfold cI;rw [if_neg c1,if_neg c2]⟩
inductive gf (K:Frag)(C:Addr)(vs:List V)(H:Hp)(Q:VK)(E_:XK):Prop where
 | mk (a:Addr) (pins:List aE) (bars:List a8) (_:vs=[.ref a]) (_:yr K H C a pins bars) (_:dy pins bars) (_:∀(r:Addr) (ls:List Addr) (bW:List (List V)) (H' :Hp),av H H' →H r=none→gw K H' r ls bW (cp pins bars)→Q (.ref r) H'):gf K C vs H Q E_
theorem q_ (bars:List a8):((bars.map fun b=>(b.nm,b.one.nm,b.other.nm)).map (·.1))=bars.map (·.nm):=by rw [ad1];rfl
theorem js (pins:List aE)(h:∀p∈pins,p.ws.length≤2):(pins.flatMap fun p=>p.ws).length≤2*pins.length:=by
 induction pins with
 | nil=>simp
 | cons p ps ih=>
  have h1:=h p adG
  have h2:=ih fun q hq=>h q (adE _ hq)
  rw [adS,adK,ad4]
  omega
theorem nh (all pins:List aE):(pins.flatMap fun p=>m9 all p).length=(pins.flatMap fun p=>p.ws).length:=by
 induction pins with
 | nil=>rfl
 | cons p ps ih=>
  rw [adS,adS,adK,adK,ih]
  unfold m9
  rw [Wp]
theorem hG (pins:List aE)(bars:List a8):(cp pins bars).length=(pins.flatMap fun p=>p.ws).length+bars.length:=by
 unfold cp
 rw [adK,nh,Wp]
theorem pK:aG ["F","rows","pin","way","bar","two"] ["F"] (af yF):=sq
theorem QD {C:Addr}(D:Def K mg "draw_rows" yF ["F"])(MP:bK P w K mg base (a_ P w) 1 C "pins" ["self"] (fG K C))(MW:bK P w K mg base (a_ P w) 2 C "ways" ["self","pin"] (m8 K C))(MB:bK P w K mg base (a_ P w) 1 C "bars" ["self"] (kb K C))(ME:bK P w K mg base (a_ P w) 1 C "ends" ["self","bar"] (qZ K C))
  (DL:Fn P w K mg base (a_ P w) 2 "pair_row" ["F","draws"] (fT K C)) (Xo:Fn P w K mg base (a_ P w) 37 "bar_row" ["F","one","other"] (ng K C)):Fn P w K mg base (a_ P w) 38 "draw_rows" ["F"] (gf K C):=by
 refine D.ok pK (fun vs H Q E h=> ?_) (fun f bD A outer s H vs Q E hr h=> ?_)
 ·obtain ⟨a,pins,bars,rfl,_⟩:=h
  rfl
 obtain ⟨a,pins,bars,rfl,R,g,q⟩:=h
 refine ⟨_,(ae (ay (i:=1) pK.nd rfl (adH rfl) (bO aa))
  (ae (bq PassesOwn.never rfl (bR (dh (k:=1) (pv 0) hr.mo (pY P w))) (aH (i:=2) pK.nd rfl (adH rfl)) (aj (bq PassesOwn.never rfl (bR (dB (k:=2) (pv 0) hr.mo (pY P w) (au (pv 2) aa))) (aH (i:=3) pK.nd rfl (adH rfl)) (aj (bQ (kr PySem.F.plainAttrs_list PySem.F.slot_list_append PySem.F.type_list_append c6 (pv 1) (au (aC DL hr.mo (pY P w) (au (pv 0) (au (wU (mN (pv 2) (pv 3) wQ) rfl rfl (ant _ _) (by decide)) aa))) aa)))))))
  (ae (bq PassesOwn.never rfl (bR (dh (k:=1) (pv 0) hr.mo (pY P w))) (aH (i:=4) pK.nd rfl (adH rfl)) (ae (ay (i:=5) pK.nd rfl (adH rfl) (dB (k:=1) (pv 0) hr.mo (pY P w) (au (pv 4) aa)))
   (aj (bQ (kr PySem.F.plainAttrs_list PySem.F.slot_list_append PySem.F.type_list_append c6 (pv 1) (au (aC Xo hr.mo (pY P w) (au (pv 0) (au (aR (pv 5)) (au (aR (pv 5)) aa)))) aa))))))
  (aj (aL (pv 1)))))),?_⟩
 refine ⟨(by show 0≤sizeLine;decide),?_⟩
 intro r nr;generalize eX:upd _ r _=H1;have ⟨s1,er⟩:=nw nr eX;clear eX
 have big:(40:Nat)≤sizeLine:=by decide
 have wl:=js pins g.lw
 have gl:=g.lp
 have R0:gw K H1 r [] [] []:=⟨⟨er,rfl,fun i l vs e=>by simp at e⟩,⟨rfl,fun i vs qs e=>by simp at e⟩,by simp⟩
 have R1:=R.same s1
 obtain ⟨dx,pP,pW,pB,kP,kW,kB,F1,W1⟩:=R1.ex
 refine ⟨_,rfl,a,C,dx,_,_,_,rfl,F1.obj,rfl,MP,a,dx,pP,pW,pB,_,_,kP,kW,kB,rfl,F1,fun lp H2 s2 uL oF=> ?_⟩
 rw [fu] at oF
 have rY:=s1.trans s2
 have FO:lp≠r:=fun z=>by rw [z,er] at uL;cases uL
 refine ⟨lp,rfl,⟨_,aV.of oF⟩,cT (K:=K) (a:=lp) (xs:=(pins.map (·.nm)).map V.str) (fun i σ H' =>∃(o2 o3:Option V) (ls:List Addr) (bW:List (List V)),σ=[some (.ref a),some (.ref r),o2,o3,none,none]∧av H H' ∧H' lp=some (.lst ((pins.map (·.nm)).map V.str))∧gw K H' r ls bW ((pins.take i).flatMap fun p=>m9 pins p)) ⟨none,none,[],[],rfl,rY,oF,R0.same s2⟩ (fun i σ H' _ h=>by
   obtain ⟨_,_,_,_,_,_,h,_⟩:=h
   exact aV.of h) ?_ ?_⟩
 ·rintro i z σ H4 hi ⟨o2,o3,ls,bW,rfl,s4,l4,RR⟩
  rw [ir,ir] at hi
  obtain ⟨x,hx,rfl⟩:=adM.mp hi
  obtain ⟨p,hp,rfl⟩:=adM.mp hx
  have mp:p∈pins:=aa_ hp
  have R4:=R.same s4
  obtain ⟨dx,pP,pW,pB,kP,kW,kB,F4,W4⟩:=R4.ex
  have Xp:p.nm∈(pins.map fun p=>(p.nm,rX p.sp)).map (·.1):=by rw [fu];exact abt.mpr ⟨p,mp,rfl⟩
  refine ⟨_,rfl,a,C,dx,_,_,_,rfl,F4.obj,rfl,MW,_,rfl,a,dx,pP,pW,pB,_,_,kP,kW,kB,_,p.nm,p.ws,rfl,F4,W4,Kd g.np,abt.mpr ⟨p,mp,rfl⟩,Xp,fun m us H5 s5 n5 e5 p5=> ?_⟩
  have lu:us.length=p.ws.length:=Paired.length p5
  have s05:=s4.trans s5
  have mr:m≠r:=fun z=>by rw [z,RR.iY.1] at n5;cases n5
  refine ⟨m,rfl,⟨_,aV.of e5⟩,cT (K:=K) (a:=m) (xs:=us) (fun j σ H' =>∃(o3:Option V) (ls:List Addr) (bW:List (List V)),σ=[some (.ref a),some (.ref r),some (.str p.nm),o3,none,none]∧av H H' ∧H' lp=some (.lst ((pins.map (·.nm)).map V.str))∧H' m=some (.lst us)∧h8 K H' us p.ws∧gw K H' r ls bW (((pins.take i).flatMap fun p=>m9 pins p)++(p.ws.take j).map fun w=>cK (dP p.nm w) pins)) ⟨o3,ls,bW,rfl,s05,s5 _ _ l4,e5,p5,by simpa using RR.same s5⟩ (fun j σ H' _ h=>by
    obtain ⟨_,_,_,_,_,_,h,_⟩:=h
    exact aV.of h) ?_ ?_⟩
  ·rintro j u σ H6 hu ⟨o3,ls,bW,rfl,s6,l6,e6,p6,t_⟩
   obtain ⟨w,ew,hw⟩:=aF p6 hu
   have jl:=(be.mp hu).1
   refine ⟨_,rfl,.inl ⟨rfl,_,aV.of t_.iY.1⟩,_,rfl,fun d nd=> ?_⟩
   have t1:=aD nd (.dK [])
   have d1:(upd H6 d (.dK [])) d=some (.dK []):=ah
   generalize upd H6 d (.dK [])=H7 at t1 d1 ⊢
   refine ⟨_,rfl,_,rfl,d1,[(.inr p.nm,u)],rfl,(by show 1≤15;decide),?_⟩
   rw [LY]
   have st:bC H7 (upd H7 d (.dK [(.inr p.nm,u)])):=.dict d1
   have d8:(upd H7 d (.dK [(.inr p.nm,u)])) d=some (.dK [(.inr p.nm,u)]):=ah
   have t8:av H6 (upd H7 d (.dK [(.inr p.nm,u)])):=fun c o z=>by
    rw [ao (aq z nd)]
    exact t1 _ _ z
   have hw8:=(hw.same t1).aS st
   generalize upd H7 d (.dK [(.inr p.nm,u)])=H8 at d8 t8 hw8 ⊢
   have s8:=s6.trans t8
   refine ⟨a,d,pins,bars,_,dP p.nm w,rfl,R.same s8,adF g.lp (by decide),d8,fun x=> ?_,fun l lZ H9 t9 n9 e9 nm=> ?_⟩
   ·by_cases c1:x=p.nm
    ·subst c1
     exact .inr ⟨u,w,bH rfl,by unfold dP;rw [if_pos rfl],hw8⟩
    ·exact .inl ⟨by rw [bw (fun z=>c1 (aem z).symm)];rfl,by unfold dP;rw [if_neg c1]⟩
   have Xq:=t8.trans t9
   have IK:=t_.same Xq
   have lr:l≠r:=fun z=>by rw [z,t8 _ _ t_.iY.1] at n9;cases n9
   have Nj:ls.length≤18:=by
    have h1:=t_.iY.2.1
    have h2:=t_.num.1
    rw [adK,Wp,adZ,nh] at h2
    have h3:((pins.take i).flatMap fun p=>p.ws).length+p.ws.length≤(pins.flatMap fun p=>p.ws).length:=by
     have e:pins=pins.take i++p::pins.drop (i+1):=by
      have lt:=(be.mp hp).1
      have e2:=(be.mp hp).2
      rw [← e2,amH,afj]
     have e3:=congrArg (fun l:List aE=>(l.flatMap fun p=>p.ws).length) e
     simp only [aey,adS,adK] at e3
     omega
    omega
   refine ⟨r,_,_,rfl,rfl,IK.iY.1,(by rw [Wp];omega),?_⟩
   have RN:=IK.push e9 lr nm
   have tr:bC H9 (upd H9 r (.lst (ls.map V.ref++[.ref l]))):=.list IK.iY.1
   have kk:∀b o,b≠r→H6 b=some o→(upd H9 r (.lst (ls.map V.ref++[.ref l]))) b=some o:=fun b o n e=>by rw [ao n];exact Xq _ _ e
   refine ⟨_,ls++[l],bW++[lZ],rfl,fun b o e=> ?_,kk _ _ FO l6,kk _ _ mr e6,(p6.same Xq).aS tr,?_⟩
   ·exact kk _ _ (aq e nr) (s6 _ _ e)
   ·rw [take_snoc ew,adR, ← ae1]
    exact RN
  ·rintro σ H6 ⟨o3,ls,bW,rfl,s6,l6,e6,p6,t_⟩
   refine ⟨_,_,ls,bW,rfl,s6,l6,?_⟩
   rw [lu,aea] at t_
   rw [take_snoc hp,aey]
   simpa [m9] using t_
 ·rintro σ H4 ⟨o2,o3,ls,bW,rfl,s4,l4,RR⟩
  rw [Wp,Wp,aea] at RR
  have R4:=R.same s4
  obtain ⟨dx,pP,pW,pB,kP,kW,kB,F4,W4⟩:=R4.ex
  refine ⟨_,rfl,a,C,dx,_,_,_,rfl,F4.obj,rfl,MB,a,dx,pP,pW,pB,_,_,kP,kW,kB,rfl,F4,fun lb H5 s5 Vj DM=> ?_⟩
  rw [q_] at DM
  have bne:lb≠r:=fun z=>by rw [z,RR.iY.1] at Vj;cases Vj
  refine ⟨lb,rfl,⟨_,aV.of DM⟩,cT (K:=K) (a:=lb) (xs:=(bars.map (·.nm)).map V.str) (fun i σ H' =>∃(o4 o5:Option V) (ls:List Addr) (bW:List (List V)),σ=[some (.ref a),some (.ref r),o2,o3,o4,o5]∧av H H' ∧H' lb=some (.lst ((bars.map (·.nm)).map V.str))∧gw K H' r ls bW ((pins.flatMap fun p=>m9 pins p)++(bars.take i).map fun b=>cK (cI b) pins)) ⟨none,none,ls,bW,rfl,s4.trans s5,DM,by simpa using RR.same s5⟩ (fun i σ H' _ h=>by
    obtain ⟨_,_,_,_,_,_,h,_⟩:=h
    exact aV.of h) ?_ ?_⟩
  ·rintro i z σ H6 hi ⟨o4,o5,ls,bW,rfl,s6,l6,t_⟩
   rw [ir,ir] at hi
   obtain ⟨x,hx,rfl⟩:=adM.mp hi
   obtain ⟨b,hb,rfl⟩:=adM.mp hx
   have mb:b∈bars:=aa_ hb
   have il:=(be.mp hb).1
   have R6:=R.same s6
   obtain ⟨dx,pP,pW,pB,kP,kW,kB,F6,W6⟩:=R6.ex
   refine ⟨_,rfl,a,C,dx,_,_,_,rfl,F6.obj,rfl,ME,_,rfl,a,dx,pP,pW,pB,_,_,kP,kW,kB,b.nm,b.one.nm,b.other.nm,rfl,F6,Qt g.nb,abt.mpr ⟨b,mb,rfl⟩,fun p rd=> ?_⟩
   have tp:cf K H6 p [.str b.one.nm,.str b.other.nm]:=.inl rd
   obtain ⟨m1,m2,m3⟩:=g.ends b mb
   refine ⟨_,rfl,.inl ⟨rfl,_,aV.of t_.iY.1⟩,_,rfl,_,rfl,p,_,_,_,rfl,rfl,tp,iW,_,rfl,p,_,_,_,rfl,rfl,tp,iX,?_⟩
   refine ⟨a,pins,bars,b,rfl,R6,g,m1,m2,m3,fun l lZ H9 t9 n9 e9 nm=> ?_⟩
   have IK:=t_.same t9
   have lr:l≠r:=fun z=>by rw [z,t_.iY.1] at n9;cases n9
   have Nj:ls.length≤32:=by
    have h1:=t_.iY.2.1
    have h2:=t_.num.1
    rw [adK,Wp,adZ,nh] at h2
    have:=g.lb
    omega
   refine ⟨r,_,_,rfl,rfl,IK.iY.1,(by rw [Wp];omega),?_⟩
   have RN:=IK.push e9 lr nm
   have kk:∀c o,c≠r→H6 c=some o→(upd H9 r (.lst (ls.map V.ref++[.ref l]))) c=some o:=fun c o n e=>by rw [ao n];exact t9 _ _ e
   refine ⟨_,_,ls++[l],bW++[lZ],rfl,fun c o e=>kk _ _ (aq e nr) (s6 _ _ e),kk _ _ bne l6,?_⟩
   rw [take_snoc hb,adR, ← ae1]
   exact RN
  ·rintro σ H6 ⟨o4,o5,ls,bW,rfl,s6,l6,t_⟩
   rw [Wp,Wp,aea] at t_
   exact ⟨_,rfl,q r ls bW H6 s6 nr t_⟩
theorem DN {xs:List V}{i j:Nat}(h:i≤j)(hj:j≤xs.length):fZ xs (some (i:Int)) (some (j:Int))=(xs.drop i).take (j - i):=by
 unfold fZ
 rw [HT.lM,HT.lM,afo hj,afo (show i≤xs.length by omega)]
theorem gh {α β:Type}{R:α→β→Prop}:∀{l:List α} {m:List β} (n:Nat),Paired R l m→Paired R (l.drop n) (m.drop n)
 | _,_,0,h=>h
 | _,_,_+1,.nil=>.nil
 | _,_,n+1,.cons _ t=>gh n t
theorem gi {α β:Type}{R:α→β→Prop}:∀{l:List α} {m:List β} (n:Nat),Paired R l m→Paired R (l.take n) (m.take n)
 | _,_,0,_=>.nil
 | _,_,_+1,.nil=>.nil
 | _,_,n+1,.cons h t=>.cons h (gi n t)
theorem jt:∀(more kvs:List (Key×V)),((kvs++more).map (·.1)).Nodup→b8 kvs more=kvs++more
 | [],kvs,_=>by simp [b8]
 | p::r,kvs,h=>by
  have e:b8 kvs (p::r)=b8 (putK kvs p.1 p.2) r:=rfl
  have hn:p.1∉kvs.map (·.1):=fun z=>by
   rw [adR,ac_,aeS] at h
   exact h.2.2 p.1 z p.1 adG rfl
  rw [e,cF _ (bY hn),jt r (kvs++[(p.1,p.2)]) (by rw [ae1];exact h),ae1]
  rfl
theorem xp {R:V→Rat→Prop}:∀{bars:List a8} {ys:List V} {rs:List Rat},(bars.map (·.nm)).Nodup→bars.length=rs.length→Paired R ys rs→
  ∃T:Str→Rat,bars.map (fun b=>T b.nm)=rs∧(((bars.map fun b=>(aee b.nm:Key)).zip ys).map (·.1))=bars.map (fun b=>(aee b.nm:Key))∧∀b∈bars,∃v,bV ((bars.map fun b=>(aee b.nm:Key)).zip ys) (.inr b.nm)=some v∧R v (T b.nm)
 | [],_,[],_,_,.nil=>⟨fun _=>0,rfl,rfl,by simp⟩
 | _::_,[],_,_,hl,.nil=>by simp at hl
 | b::bs,y::ys,r::rs,nd,hl,.cons h t=>by
  rw [ac_,ad8] at nd
  obtain ⟨T,h1,h2,h3⟩:=xp nd.2 (by simpa using hl) t
  have ne:∀c∈bs,c.nm≠b.nm:=fun c hc z=>nd.1 (z▸abt.mpr ⟨c,hc,rfl⟩)
  obtain ⟨T',t1,t2⟩:∃T' :Str→Rat,T' b.nm=r∧∀x,x≠b.nm→T' x=T x:=⟨fun x=>if x=b.nm then r else T x,if_pos rfl,fun x h=>if_neg h⟩
  refine ⟨T',?_,?_,fun c hc=> ?_⟩
  ·have em:bs.map (fun c=>T' c.nm)=rs:=by
    rw [← h1]
    exact ad2 fun c hc=>t2 _ (ne c hc)
   rw [ac_,t1,em]
  ·rw [ac_,am8,ac_,h2]
  ·rw [ac_,am8]
   rcases adY.mp hc with e | hc
   ·subst e
    exact ⟨y,bH rfl,by rw [t1];exact h⟩
   ·obtain ⟨v,e1,e2⟩:=h3 c hc
    refine ⟨v,?_,by rw [t2 _ (ne c hc)];exact e2⟩
    rw [bw (fun z=>ne c hc (aem z).symm)]
    exact e1
def aQ (pins:List aE):Nat:=(pins.flatMap fun p=>p.ws).length
theorem nj (ps:List aE)(p:aE):aQ (ps++[p])=aQ ps+p.ws.length:=by
 unfold aQ
 rw [aey,adK]
 simp
theorem vI {pins:List aE}{i:Nat}{p:aE}(h:pins[i]? =some p):aQ (pins.take i)+p.ws.length≤aQ pins:=by
 have e:pins=pins.take i++p::pins.drop (i+1):=by
  have lt:=(be.mp h).1
  have e2:=(be.mp h).2
  rw [← e2,amH,afj]
 have e3:=congrArg (fun l:List aE=>(l.flatMap fun p=>p.ws).length) e
 simp only [aey,adS,adK] at e3
 unfold aQ
 omega
structure PPR (K:Frag)(H H' :Hp)(pins:List aE)(bars:List a8)(dT dU:Addr)(kT kU:List (Key×V))(T:Str→Rat)(U:Str→List Rat)(L:Str→Addr):Prop where
 nT:H dT=none
 nU:H dU=none
 ne:dT≠dU
 hT:H' dT=some (.dK kT)
 hU:H' dU=some (.dK kU)
 zH:kT.map (·.1)=bars.map (fun b=>(aee b.nm:Key))
 zI:kU.map (·.1)=pins.map (fun p=>(aee p.nm:Key))
 tT:∀b∈bars,∃v,bV kT (.inr b.nm)=some v∧fJ K H' v (T b.nm)
 tU:∀p∈pins,∃vs,bV kU (.inr p.nm)=some (.ref (L p.nm))∧H (L p.nm)=none∧H' (L p.nm)=some (.lst vs)∧Paired (fJ K H') vs (U p.nm)
 lU:∀p∈pins,(U p.nm).length=p.ws.length
 inj:∀p∈pins,∀q∈pins,L p.nm=L q.nm→p.nm=q.nm
inductive IL (K:Frag)(C:Addr)(vs:List V)(H:Hp)(Q:VK)(E_:XK):Prop where
 | mk (a nl:Addr) (pins:List aE) (bars:List a8) (us:List V) (rs:List Rat) (_:vs=[.ref a,.ref nl]) (_:yr K H C a pins bars) (_:dy pins bars) (_:H nl=some (.lst us)) (_:Paired (fJ K H) us rs) (_:rs.length=aQ pins+bars.length) (_:∀(T:Str→Rat) (U:Str→List Rat) (L:Str→Addr) (p dT dU:Addr) (kT kU:List (Key×V)) (H' :Hp),av H H' →rs=(pins.flatMap fun p=>U p.nm)++bars.map (fun b=>T b.nm)→H' p=some (.tup [.ref dT,.ref dU])→PPR K H H' pins bars dT dU kT kU T U L→Q (.ref p) H'):IL K C vs H Q E_
theorem vJ {ps:List aE}{U W:Str→List Rat}(h:∀p∈ps,U p.nm=W p.nm):(ps.flatMap fun p=>U p.nm)=ps.flatMap fun p=>W p.nm:=by
 induction ps with
 | nil=>rfl
 | cons p ps ih=>
  rw [adS,adS,h p adG,ih fun q hq=>h q (adE _ hq)]
theorem nq:aG ["F","numbers","pushes","at","pin","behind","pulls"] ["F","numbers"] (af yG):=sq
theorem QE {C:Addr}(D:Def K mg "pulls_and_pushes" yG ["F","numbers"])(ba:mg "len"=none)(vK:mg "dict"=none)(iq:mg "zip"=none)(MP:bK P w K mg base (a_ P w) 1 C "pins" ["self"] (fG K C))(MW:bK P w K mg base (a_ P w) 2 C "ways" ["self","pin"] (m8 K C))(MB:bK P w K mg base (a_ P w) 1 C "bars" ["self"] (kb K C)):
  Fn P w K mg base (a_ P w) 3 "pulls_and_pushes" ["F","numbers"] (IL K C):=by
 refine D.ok nq (fun vs H Q E h=> ?_) (fun f bD A outer s H vs Q E hr h=> ?_)
 ·obtain ⟨a,nl,pins,bars,us,rs,rfl,_⟩:=h
  rfl
 obtain ⟨a,nl,pins,bars,us,rs,rfl,R,g,hn,hu,hl,q⟩:=h
 have lu:us.length=rs.length:=Paired.length hu
 have wl:aQ pins≤2*pins.length:=js pins g.lw
 have gl:=g.lp
 have gb:=g.lb
 refine ⟨_,(ae (ay (i:=2) nq.nd rfl (adH rfl) cV)
  (ae (ay (i:=3) nq.nd rfl (adH rfl) ag)
  (ae (bq PassesOwn.never rfl (bR (dh (k:=1) (pv 0) hr.mo (pY P w))) (aH (i:=4) nq.nd rfl (adH rfl)) (ae (ay (i:=5) nq.nd rfl (adH rfl) (aI bU (pv 3) (aT aJ rfl ba b7 (au (dB (k:=2) (pv 0) hr.mo (pY P w) (au (pv 4) aa)) aa))))
   (ae (di (b6 hr) (pv 2) (pv 4) (dI f9 (pv 1) (dS (pv 3)) (dS (pv 5))) rfl)
   (aj (ay (i:=3) nq.nd rfl (adH rfl) (pv 5))))))
  (ae (ay (i:=6) nq.nd rfl (adH rfl) (CP rfl rfl vK rfl iq (au (dh (k:=1) (pv 0) hr.mo (pY P w)) (au (dI f9 (pv 1) (dS (pv 3)) fY) aa))))
  (aj (aL (aZ (au (pv 6) (au (pv 2) aa))))))))),?_⟩
 intro dU nU
 have s1:=aD nU (.dK [])
 have e1:(upd H dU (.dK [])) dU=some (.dK []):=ah
 generalize upd H dU (.dK [])=H1 at s1 e1 ⊢
 have R1:=R.same s1
 obtain ⟨dx,pP,pW,pB,kP,kW,kB,F1,W1⟩:=R1.ex
 refine ⟨_,rfl,a,C,dx,_,_,_,rfl,F1.obj,rfl,MP,a,dx,pP,pW,pB,_,_,kP,kW,kB,rfl,F1,fun lp H2 s2 uL oF=> ?_⟩
 rw [fu] at oF
 have rY:=s1.trans s2
 have FO:lp≠dU:=fun z=>by rw [z,e1] at uL;cases uL
 refine ⟨lp,rfl,⟨_,aV.of oF⟩,cT (K:=K) (a:=lp) (xs:=(pins.map (·.nm)).map V.str) (fun i σ H' =>∃(o4 o5:Option V) (kU:List (Key×V)) (U:Str→List Rat) (L:Str→Addr),σ=[some (.ref a),some (.ref nl),some (.ref dU),some (.int (aQ (pins.take i):Int)),o4,o5,none]∧av H H' ∧H' lp=some (.lst ((pins.map (·.nm)).map V.str))∧H' dU=some (.dK kU)∧kU.map (·.1)=(pins.take i).map (fun p=>(aee p.nm:Key))∧((pins.take i).flatMap fun p=>U p.nm)=rs.take (aQ (pins.take i))∧
   (∀p∈pins.take i,∃vs,bV kU (.inr p.nm)=some (.ref (L p.nm))∧H (L p.nm)=none∧H' (L p.nm)=some (.lst vs)∧Paired (fJ K H') vs (U p.nm))∧(∀p∈pins.take i,(U p.nm).length=p.ws.length)∧(∀p∈pins.take i,∀q∈pins.take i,L p.nm=L q.nm→p.nm=q.nm))
   ⟨none,none,[],fun _=>[],fun _=>0,rfl,rY,oF,s2 _ _ e1,rfl,rfl,by simp,by simp,by simp⟩ (fun i σ H' _ h=>by
   obtain ⟨_,_,_,_,_,_,_,h,_⟩:=h
   exact aV.of h) ?_ ?_⟩
 ·rintro i z σ H4 hi ⟨o4,o5,kU,U,L,rfl,s4,l4,e4,ks,fl,tU,lU,inj⟩
  rw [ir,ir] at hi
  obtain ⟨x,hx,rfl⟩:=adM.mp hi
  obtain ⟨p,hp,rfl⟩:=adM.mp hx
  have mp:p∈pins:=aa_ hp
  have il:i < pins.length:=(be.mp hp).1
  have R4:=R.same s4
  obtain ⟨dx,pP,pW,pB,kP,kW,kB,F4,W4⟩:=R4.ex
  have Xp:p.nm∈(pins.map fun p=>(p.nm,rX p.sp)).map (·.1):=by rw [fu];exact abt.mpr ⟨p,mp,rfl⟩
  refine ⟨_,rfl,_,rfl,a,C,dx,_,_,_,rfl,F4.obj,rfl,MW,_,rfl,a,dx,pP,pW,pB,_,_,kP,kW,kB,_,p.nm,p.ws,rfl,F4,W4,Kd g.np,abt.mpr ⟨p,mp,rfl⟩,Xp,fun m vs H5 s5 n5 e5 p5=> ?_⟩
  have lv:vs.length=p.ws.length:=Paired.length p5
  refine ⟨m,_,rfl,.inl (aV.of e5),_,_,rfl,rfl,?_⟩
  have tk:=take_snoc hp
  have wn:aQ (pins.take (i+1))=aQ (pins.take i)+p.ws.length:=by rw [tk,nj]
  have wt:=vI hp
  have eb:(aQ (pins.take i):Int)+((vs.length:Nat):Int)=((aQ (pins.take (i+1)):Nat):Int):=by rw [wn,lv];omega
  have IM:=s4.trans s5
  have IE:=IM _ _ hn
  dsimp only
  rw [eb]
  refine ⟨_,rfl,_,rfl,_,rfl,_,rfl,_,rfl,nl,_,rfl,aV.of IE,?_⟩
  rw [DN (by omega) (by omega)]
  intro m2 n6;generalize eX:upd _ m2 _=H6;have ⟨s6,e6⟩:=nw n6 eX;clear eX
  have QF:=s6 _ _ (s5 _ _ e4)
  have lk:kU.length≤9:=by
   have z:=congrArg aeE ks
   rw [Wp,Wp,adZ] at z
   omega
  refine ⟨_,rfl,_,rfl,dU,_,rfl,h7.k (k:=.inr p.nm) QF (adO (show kU.length≤1000 by omega) (by decide)),?_⟩
  have fresh:(aee p.nm:Key)∉kU.map (·.1):=by
   rw [ks]
   intro z
   obtain ⟨b',fL,tZ⟩:=abt.mp z
   exact eI (nm:=aE.nm) g.np hp fL (aem tZ)
  have pk:putK kU (.inr p.nm) (.ref m2)=kU++[(.inr p.nm,.ref m2)]:=cF _ (bY fresh)
  have t6:bC H6 (upd H6 dU (.dK (putK kU (.inr p.nm) (.ref m2)))):=.dict QF
  have vH:=s5.trans s6
  have md:m2≠dU:=fun z=>by rw [z,s5 _ _ e4] at n6;cases n6
  have kk:∀b o,b≠dU→H4 b=some o→(upd H6 dU (.dK (putK kU (.inr p.nm) (.ref m2)))) b=some o:=fun b o n e=>by rw [ao n];exact vH _ _ e
  have ne:∀p' ∈pins.take i,p'.nm≠p.nm:=fun p' ju =>eI (nm:=aE.nm) g.np hp ju
  have ra :∀p' ∈pins.take (i+1),p' ∈pins.take i∨p' =p:=fun p' ju =>by
   rw [tk] at ju
   rcases adQ.mp ju with h | h
   ·exact .inl h
   ·exact .inr (adJ.mp h)
  have hold:∀p' ∈pins.take i,∃o,H4 (L p'.nm)=some o:=fun p' ju =>by
   obtain ⟨vs,_,_,h,_⟩:=tU p' ju
   exact ⟨_,h⟩
  obtain ⟨U',Xr,Xs⟩:∃U' :Str→List Rat,U' p.nm=(rs.drop (aQ (pins.take i))).take p.ws.length∧∀x,x≠p.nm→U' x=U x:=⟨fun x=>if x=p.nm then (rs.drop (aQ (pins.take i))).take p.ws.length else U x,if_pos rfl,fun x h=>if_neg h⟩
  obtain ⟨L',J8,J9⟩:∃L' :Str→Addr,L' p.nm=m2∧∀x,x≠p.nm→L' x=L x:=⟨fun x=>if x=p.nm then m2 else L x,if_pos rfl,fun x h=>if_neg h⟩
  refine ⟨_,rfl,_,_,putK kU (.inr p.nm) (.ref m2),U',L',rfl,fun b o e=> ?_,kk _ _ FO l4,ah,?_,?_,fun p' ju => ?_,fun p' ju => ?_,fun p' ju q' i6 => ?_⟩
  ·rw [ao (aq e nU)]
   exact vH _ _ (s4 _ _ e)
  ·rw [pk,adR,ks,tk,adR]
   rfl
  ·rw [tk,aey,nj]
   rw [vJ (U:=U') (W:=U) fun p' ju =>Xs _ (ne p' ju),fl]
   simp only [adS,anu,afn,Xr]
   rw [List.take_add]
  ·rw [mL]
   rcases ra p' ju with h | h
   ·rw [if_neg (fun z=>ne p' h (aem z)),J9 _ (ne p' h),Xs _ (ne p' h)]
    obtain ⟨fV,h1,h2,h3,h4⟩:=tU p' h
    exact ⟨fV,h1,h2,kk _ _ (fun z=>by rw [z,e4] at h3;cases h3) h3,Paired.bZ h4 fun _ _ z=>(z.same vH).aS t6⟩
   ·subst h
    rw [if_pos rfl,J8,Xr]
    refine ⟨_,rfl,(s4.trans s5).free n6,by rw [ao md];exact e6,?_⟩
    have a1:=gi (aQ (pins.take (i+1)) - aQ (pins.take i)) (gh (aQ (pins.take i)) hu)
    have a2:aQ (pins.take (i+1)) - aQ (pins.take i)=p'.ws.length:=by omega
    rw [a2] at a1 ⊢
    exact Paired.bZ a1 fun _ _ z=>((z.same s4).same vH).aS t6
  ·rcases ra p' ju with h | h
   ·rw [Xs _ (ne p' h)]
    exact lU p' h
   ·subst h
    rw [Xr,adZ,amv]
    omega
  ·rcases ra p' ju with h | h <;> rcases ra q' i6 with h' | h'
   ·rw [J9 _ (ne p' h),J9 _ (ne q' h')]
    exact inj p' h q' h'
   ·subst h'
    rw [J9 _ (ne p' h),J8]
    intro z
    obtain ⟨o,ho⟩:=hold p' h
    rw [z,s5.free n6] at ho
    cases ho
   ·subst h
    rw [J9 _ (ne q' h'),J8]
    intro z
    obtain ⟨o,ho⟩:=hold q' h'
    rw [← z,s5.free n6] at ho
    cases ho
   ·intro _
    rw [h,h']
 ·rintro σ H4 ⟨o4,o5,kU,U,L,rfl,s4,l4,e4,ks,fl,tU,lU,inj⟩
  rw [Wp,Wp,aea] at ks fl tU lU inj
  have R4:=R.same s4
  obtain ⟨dx,pP,pW,pB,kP,kW,kB,F4,W4⟩:=R4.ex
  refine ⟨_,rfl,a,C,dx,_,_,_,rfl,F4.obj,rfl,MB,a,dx,pP,pW,pB,_,_,kP,kW,kB,rfl,F4,fun lb H5 s5 Vj DM=> ?_⟩
  rw [q_] at DM
  have IM:=s4.trans s5
  refine ⟨_,rfl,_,rfl,_,rfl,nl,_,rfl,aV.of (IM _ _ hn),?_⟩
  have hw:aQ pins≤us.length:=by omega
  rw [Wp,Wp,aea,pI hw]
  intro m2 n6;generalize eX:upd _ m2 _=H6;have ⟨s6,e6⟩:=nw n6 eX;clear eX
  have hp6:Paired (fJ K H6) (us.drop (aQ pins)) (rs.drop (aQ pins)):=Paired.bZ (gh (aQ pins) hu) fun _ _ z=>(z.same IM).same s6
  obtain ⟨T,h1,h2,h3⟩:=xp (R:=fJ K H6) g.nb (by rw [amv];omega) hp6
  have eks:(bars.map (·.nm)).map V.str=(bars.map fun b=>(aee b.nm:Key)).map kV:=by
   rw [ad1,ad1]
   rfl
  rw [eks] at DM
  refine ⟨lb,m2,bars.map fun b=>(aee b.nm:Key),us.drop (aQ pins),rfl,s6 _ _ DM,e6,by rw [Wp];omega,fun dT H7 s7 n7 e7=> ?_⟩
  have ndk:(bars.map fun b=>(aee b.nm:Key)).Nodup:=by
   have:=yt g.nb
   rw [ad1] at this
   exact this
  rw [jt _ [] (by rw [ae',h2];exact ndk),ae'] at e7
  refine ⟨_,rfl,_,rfl,(by show 2≤sizeLine;decide),?_⟩
  intro pt n8;generalize eX:upd _ pt _=H8;have ⟨s8,e8⟩:=nw n8 eX;clear eX
  have Vk:=(s5.trans s6).trans (s7.trans s8)
  have QG:=s4.trans Vk
  have er:rs=(pins.flatMap fun p=>U p.nm)++bars.map (fun b=>T b.nm):=by rw [fl,h1,afj]
  refine q T U L pt dT dU _ kU H8 QG er e8 ⟨(IM.trans s6).free n7,nU,(fun z=>by rw [z,s6 _ _ (s5 _ _ e4)] at n7;cases n7),s8 _ _ e7,Vk _ _ e4,h2,ks,fun b hb=> ?_,fun p hp=> ?_,lU,inj⟩
  ·obtain ⟨v,e1,e2⟩:=h3 b hb
   exact ⟨v,e1,(e2.same s7).same s8⟩
  ·obtain ⟨fV,a1,a2,a3,a4⟩:=tU p hp
   exact ⟨fV,a1,a2,Vk _ _ a3,Paired.bZ a4 fun _ _ z=>z.same Vk⟩
inductive nA (K:Frag)(C:Addr)(vs:List V)(H:Hp)(Q:VK)(E_:XK):Prop where
 | mk (a nl:Addr) (pins:List aE) (bars:List a8) (us:List V) (rs:List Rat) (_:vs=[.ref a,.ref nl]) (_:yr K H C a pins bars) (_:dy pins bars) (_:H nl=some (.lst us)) (_:Paired (fJ K H) us rs) (_:rs.length=2*pins.length) (_:∀(M:Str→Rat×Rat) (d:Addr) (kM:List (Key×V)) (H' :Hp),av H H' →rs=(pins.flatMap fun p=>[(M p.nm).1,(M p.nm).2])→H d=none→H' d=some (.dK kM)→kM.map (·.1)=pins.map (fun p=>(aee p.nm:Key))→(∀p∈pins,∃t v1 v2,bV kM (.inr p.nm)=some (.ref t)∧H' t=some (.tup [v1,v2])∧fJ K H' v1 (M p.nm).1∧fJ K H' v2 (M p.nm).2)→Q (.ref d) H'):nA K C vs H Q E_
theorem ua {ps:List aE}{U W:Str→Rat×Rat}(h:∀p∈ps,U p.nm=W p.nm):(ps.flatMap fun p=>[(U p.nm).1,(U p.nm).2])=ps.flatMap fun p=>[(W p.nm).1,(W p.nm).2]:=by
 induction ps with
 | nil=>rfl
 | cons p ps ih=>
  rw [adS,adS,h p adG,ih fun q hq=>h q (adE _ hq)]
theorem xq:aG ["F","numbers","motion","at","pin"] ["F","numbers"] (af yH):=sq
theorem QH {C:Addr}(D:Def K mg "motion_from" yH ["F","numbers"])(c8:mg "enumerate"=none)(MP:bK P w K mg base (a_ P w) 1 C "pins" ["self"] (fG K C)):
  Fn P w K mg base (a_ P w) 2 "motion_from" ["F","numbers"] (nA K C):=by
 refine D.ok xq (fun vs H Q E h=> ?_) (fun f bD A outer s H vs Q E hr h=> ?_)
 ·obtain ⟨a,nl,pins,bars,us,rs,rfl,_⟩:=h
  rfl
 obtain ⟨a,nl,pins,bars,us,rs,rfl,R,g,hn,hu,hl,q⟩:=h
 have lu:us.length=rs.length:=Paired.length hu
 have gl:=g.lp
 refine ⟨_,(ae (ay (i:=2) xq.nd rfl (adH rfl) cV)
  (ae (bq PassesOwn.never rfl (wW rfl c8 (au (dh (k:=1) (pv 0) hr.mo (pY P w)) aa)) (fW rfl (bo (aH (i:=3) xq.nd rfl (adH rfl)) (bo (aH (i:=4) xq.nd rfl (adH rfl)) dc))) (aj (di (b6 hr) (pv 2) (pv 4) (aZ (au (aU aK (pv 1) (aI cC ag (pv 3)) (fun _ _=>rfl)) (au (aU aK (pv 1) (aI bU (aI cC ag (pv 3)) ag) (fun _ _=>rfl)) aa))) rfl)))
  (aj (aL (pv 2))))),?_⟩
 intro d nd
 have s1:=aD nd (.dK [])
 have e1:(upd H d (.dK [])) d=some (.dK []):=ah
 generalize upd H d (.dK [])=H1 at s1 e1 ⊢
 have R1:=R.same s1
 obtain ⟨dx,pP,pW,pB,kP,kW,kB,F1,W1⟩:=R1.ex
 refine ⟨_,rfl,a,C,dx,_,_,_,rfl,F1.obj,rfl,MP,a,dx,pP,pW,pB,_,_,kP,kW,kB,rfl,F1,fun lp H2 s2 uL oF=> ?_⟩
 rw [fu] at oF
 have rY:=s1.trans s2
 have FO:lp≠d:=fun z=>by rw [z,e1] at uL;cases uL
 refine ⟨lp,rfl,⟨_,aV.of oF⟩,tw (K:=K) (a:=lp) (xs:=(pins.map (·.nm)).map V.str) (fun i σ H' =>∃(o3 o4:Option V) (kM:List (Key×V)) (M:Str→Rat×Rat),σ=[some (.ref a),some (.ref nl),some (.ref d),o3,o4]∧av H H' ∧H' lp=some (.lst ((pins.map (·.nm)).map V.str))∧H' d=some (.dK kM)∧kM.map (·.1)=(pins.take i).map (fun p=>(aee p.nm:Key))∧((pins.take i).flatMap fun p=>[(M p.nm).1,(M p.nm).2])=rs.take (2*i)∧
   (∀p∈pins.take i,∃t v1 v2,bV kM (.inr p.nm)=some (.ref t)∧H' t=some (.tup [v1,v2])∧fJ K H' v1 (M p.nm).1∧fJ K H' v2 (M p.nm).2))
   ⟨none,none,[],fun _=>(0,0),rfl,rY,oF,s2 _ _ e1,rfl,rfl,by simp⟩ (fun i σ H' _ h=>by
   obtain ⟨_,_,_,_,_,_,h,_⟩:=h
   exact aV.of h) ?_ ?_⟩
 ·rintro i z σ H4 p9 hi ⟨o3,o4,kM,M,rfl,s4,l4,e4,ks,fl,tM⟩ n9
  rw [ir,ir] at hi
  obtain ⟨x,hx,rfl⟩:=adM.mp hi
  obtain ⟨p,hp,rfl⟩:=adM.mp hx
  have il:i < pins.length:=(be.mp hp).1
  have t9:=aD n9 (.tup [.int (i:Int),.str p.nm])
  have e9:(upd H4 p9 (.tup [.int (i:Int),.str p.nm])) p9=some (.tup [.int (i:Int),.str p.nm]):=ah
  generalize upd H4 p9 (.tup [.int (i:Int),.str p.nm])=H5 at t9 e9 ⊢
  refine ⟨p9,_,rfl,cf.of e9,rfl,_,_,rfl,_,_,rfl,rfl,?_⟩
  have IM:=s4.trans t9
  have IE:=IM _ _ hn
  have l1:2*i < us.length:=by omega
  have l2:2*i+1 < us.length:=by omega
  have c2:oY 2 (i:Int):=⟨by decide+kernel,adF (intBits_le_64 (by omega) (by omega)) (by decide)⟩
  have a1:fU us (2*(i:Int))=some us[2*i]:=by
   have:=bh (xs:=us) (j:=2*i) (gE l1)
   rw [show ((2*i:Nat):Int)=2*(i:Int) by omega] at this
   exact this
  have a2:fU us (2*(i:Int)+1)=some us[2*i+1]:=by
   have:=bh (xs:=us) (j:=2*i+1) (gE l2)
   rw [show ((2*i+1:Nat):Int)=2*(i:Int)+1 by omega] at this
   exact this
  refine ⟨_,rfl,_,rfl,_,_,rfl,rfl,c2,nl,_,_,_,rfl,rfl,aV.of IE,a1,?_⟩
  refine ⟨_,rfl,_,rfl,_,_,rfl,rfl,c2,_,_,rfl,rfl,nl,_,_,_,rfl,rfl,aV.of IE,a2,(by show 2≤sizeLine;decide),?_⟩
  intro t n6;generalize eX:upd _ t _=H6;have ⟨s6,e6⟩:=nw n6 eX;clear eX
  have QF:=s6 _ _ (t9 _ _ e4)
  have lk:kM.length≤9:=by
   have z:=congrArg aeE ks
   rw [Wp,Wp,adZ] at z
   omega
  refine ⟨_,rfl,_,rfl,d,_,rfl,h7.k (k:=.inr p.nm) QF (adO (show kM.length≤1000 by omega) (by decide)),?_⟩
  have fresh:(aee p.nm:Key)∉kM.map (·.1):=by
   rw [ks]
   intro z
   obtain ⟨b',fL,tZ⟩:=abt.mp z
   exact eI (nm:=aE.nm) g.np hp fL (aem tZ)
  have pk:putK kM (.inr p.nm) (.ref t)=kM++[(.inr p.nm,.ref t)]:=cF _ (bY fresh)
  have t6:bC H6 (upd H6 d (.dK (putK kM (.inr p.nm) (.ref t)))):=.dict QF
  have vH:=t9.trans s6
  have td:t≠d:=fun z=>by rw [z,t9 _ _ e4] at n6;cases n6
  have kk:∀b o,b≠d→H4 b=some o→(upd H6 d (.dK (putK kM (.inr p.nm) (.ref t)))) b=some o:=fun b o n e=>by rw [ao n];exact vH _ _ e
  have ne:∀p' ∈pins.take i,p'.nm≠p.nm:=fun p' ju =>eI (nm:=aE.nm) g.np hp ju
  have tk:=take_snoc hp
  obtain ⟨r1,er1,hr1⟩:=aF hu (gE l1)
  obtain ⟨r2,er2,hr2⟩:=aF hu (gE l2)
  obtain ⟨M',hM1,hM2⟩:∃M' :Str→Rat×Rat,M' p.nm=(r1,r2)∧∀x,x≠p.nm→M' x=M x:=⟨fun x=>if x=p.nm then (r1,r2) else M x,if_pos rfl,fun x h=>if_neg h⟩
  refine ⟨_,_,putK kM (.inr p.nm) (.ref t),M',rfl,fun b o e=> ?_,kk _ _ FO l4,ah,?_,?_,fun p' ju => ?_⟩
  ·rw [ao (aq e nd)]
   exact vH _ _ (s4 _ _ e)
  ·rw [pk,adR,ks,tk,adR]
   rfl
  ·rw [tk,aey,ua (U:=M') (W:=M) fun p' ju =>hM2 _ (ne p' ju),fl]
   simp only [adS,anu,afn,hM1]
   rw [show 2*(i+1)=2*i+1+1 by omega,ae4,ae4,er1,er2]
   simp
  ·rw [mL]
   rw [tk] at ju
   rcases adQ.mp ju with h | h
   ·rw [if_neg (fun z=>ne p' h (aem z)),hM2 _ (ne p' h)]
    obtain ⟨t',v1,v2,h1,h2,h3,h4⟩:=tM p' h
    exact ⟨t',v1,v2,h1,kk _ _ (fun z=>by rw [z,e4] at h2;cases h2) h2,(h3.same vH).aS t6,(h4.same vH).aS t6⟩
   ·rw [adJ.mp h,if_pos rfl,hM1]
    exact ⟨t,_,_,rfl,by rw [ao td];exact e6,((hr1.same IM).same s6).aS t6,((hr2.same IM).same s6).aS t6⟩
 ·rintro σ H4 ⟨o3,o4,kM,M,rfl,s4,l4,e4,ks,fl,tM⟩
  rw [Wp,Wp] at ks fl tM
  rw [aea] at ks fl tM
  rw [← hl,aea] at fl
  exact ⟨_,rfl,q M d kM H4 s4 fl.symm nd e4 ks tM⟩
def dt (a b:Rat×Rat):Rat:=a.1*b.1+a.2*b.2
def sP (as bs:List Rat):Rat:=(aeo (·*·) as bs).sum
theorem dk (bs:List Rat):sP [] bs=0:=by simp [sP]
theorem bT (a b:Rat)(as bs:List Rat):sP (a::as) (b::bs)=a*b+sP as bs:=by simp [sP]
theorem gR:∀{a c:List Rat} (b d:List Rat),a.length=c.length→sP (a++b) (c++d)=sP a c+sP b d
 | [],[],b,d,_=>by
  rw [ae',ae',dk]
  grind
 | x::a,y::c,b,d,h=>by
  rw [ae5,ae5,bT,bT,gR b d (by simpa using h)]
  grind
 | [],_::_,_,_,h=>by simp at h
 | _::_,[],_,_,h=>by simp at h
theorem ma:∀(ys cs:List (Int×Int)),f_ ys cs=sP (ys.map vl) (cs.map vl)
 | [],_=>by simp [f_,sP]
 | _::_,[]=>by simp [f_,sP]
 | y::ys,c::cs=>by rw [yb,ac_,ac_,bT,ma ys cs]
theorem xr (F:Str→Option (Rat×Rat))(M:Str→Rat×Rat):∀pins:List aE,sP ((cK F pins).map vl) (pins.flatMap fun p=>[(M p.nm).1,(M p.nm).2])=(pins.map fun p=>dt (mv F p.nm) (M p.nm)).sum
 | []=>by simp [cK,sP]
 | p::ps=>by
  have ih:=xr F M ps
  unfold cK at ih ⊢
  rw [adS,adS,adR,gR _ _ (by simp),ih]
  simp only [ac_,aeb,dQ,bT,dk,ad3]
  unfold dt
  grind
theorem IP {pins:List aE}(nd:(pins.map (·.nm)).Nodup){p:aE}(hp:p∈pins){f:Str→Rat}(h:∀q∈pins,q.nm≠p.nm→f q.nm=0):(pins.map fun q=>f q.nm).sum=f p.nm:=by
 induction pins with
 | nil=>simp at hp
 | cons q ps ih=>
  rw [ac_,ad8] at nd
  rw [ac_,ad3]
  have zero:∀(l:List aE),(∀r∈l,f r.nm=0)→(l.map fun q=>f q.nm).sum=0:=fun l hl=>by
   induction l with
   | nil=>simp
   | cons r l ihl=>
    rw [ac_,ad3,hl r adG,ihl fun s hs=>hl s (adE _ hs)]
    grind
  by_cases e:q.nm=p.nm
  ·rw [e,zero ps fun r hr=>h r (adE _ hr) fun z=>nd.1 (by rw [e, ← z];exact abt.mpr ⟨r,hr,rfl⟩)]
   grind
  ·rw [h q adG e]
   have ju :p∈ps:=by
    rcases adY.mp hp with z | z
    ·exact absurd (by rw [z]) e
    ·exact z
   rw [ih nd.2 ju fun r hr=>h r (adE _ hr)]
   grind
theorem iH (x:Str)(w:Rat×Rat)(y:Str):mv (dP x w) y=if y=x then w else (0,0):=by
 unfold mv dP
 by_cases e:y=x
 ·rw [if_pos e,if_pos e]
  rfl
 ·rw [if_neg e,if_neg e]
  rfl
theorem jw (m:Rat×Rat):dt (0,0) m=0:=by
 unfold dt
 grind
theorem rf {pins:List aE}(nd:(pins.map (·.nm)).Nodup){p:aE}(hp:p∈pins)(w:Rat×Rat)(M:Str→Rat×Rat):(pins.map fun q=>dt (mv (dP p.nm w) q.nm) (M q.nm)).sum=dt w (M p.nm):=by
 rw [IP nd hp (f:=fun x=>dt (mv (dP p.nm w) x) (M x)) fun q _ e=>by rw [iH,if_neg e];exact jw _]
 rw [iH,if_pos rfl]
theorem sum_add (f g:aE→Rat):∀l:List aE,(l.map fun q=>f q+g q).sum=(l.map f).sum+(l.map g).sum
 | []=>by
  simp only [aeb,aeJ]
  grind
 | p::l=>by
  rw [ac_,ad3,sum_add f g l,ac_,ac_,ad3,ad3]
  grind
def zJ (M:Str→Rat×Rat)(b:a8):Rat:=dt (gP b.one b.other) ((M b.other.nm).1 - (M b.one.nm).1,(M b.other.nm).2 - (M b.one.nm).2)
theorem L6 (b:a8)(h:b.one.nm≠b.other.nm)(x:Str)(m:Rat×Rat):dt (mv (cI b) x) m=dt (mv (dP b.one.nm (gP b.one b.other)) x) m+dt (mv (dP b.other.nm (gP b.other b.one)) x) m:=by
 rw [iH,iH]
 unfold mv cI
 by_cases c1:x=b.one.nm
 ·rw [if_pos c1,if_pos c1,if_neg (fun z=>h (c1.symm.trans z)),jw]
  show dt (gP b.one b.other) m=_
  grind
 ·rw [if_neg c1,if_neg c1,jw]
  by_cases c2:x=b.other.nm
  ·rw [if_pos c2,if_pos c2]
   show dt (gP b.other b.one) m=_
   grind
  ·rw [if_neg c2,if_neg c2,jw]
   show dt (0,0) m=_
   rw [jw]
   grind
theorem xt {pins:List aE}(nd:(pins.map (·.nm)).Nodup)(b:a8)(h1:b.one∈pins)(h2:b.other∈pins)(h:b.one.nm≠b.other.nm)(M:Str→Rat×Rat):(pins.map fun q=>dt (mv (cI b) q.nm) (M q.nm)).sum= -(zJ M b):=by
 have e:(pins.map fun q=>dt (mv (cI b) q.nm) (M q.nm))=pins.map fun q=>dt (mv (dP b.one.nm (gP b.one b.other)) q.nm) (M q.nm)+dt (mv (dP b.other.nm (gP b.other b.one)) q.nm) (M q.nm):=ad2 fun q _=>L6 b h _ _
 rw [e,sum_add,rf nd h1,rf nd h2]
 unfold zJ dt gP
 grind
structure DO (pins:List aE)(bars:List a8)(M:Str→Rat×Rat):Prop where
 Xt:∀p∈pins,∀w∈p.ws,dt w (M p.nm)=0
 bars:∀b∈bars,zJ M b=0
def ub (pins:List aE)(L:Str→Option (Rat×Rat))(M:Str→Rat×Rat):Rat:=(pins.map fun p=>dt (mv L p.nm) (M p.nm)).sum
def b9 (bars:List a8)(T:Str→Rat)(U:Str→List Rat)(p:aE)(c:Rat×Rat→Rat):Rat:=sP (U p.nm) (p.ws.map c)+(bars.map fun b=>T b.nm*c (mv (cI b) p.nm)).sum
def iI (pins:List aE)(bars:List a8)(T:Str→Rat)(U:Str→List Rat)(L:Str→Option (Rat×Rat)):Prop:=∀p∈pins,b9 bars T U p (·.1)+(mv L p.nm).1=0∧b9 bars T U p (·.2)+(mv L p.nm).2=0
theorem me:∀(as:List Rat) {α:Type} (l:List α),sP as (l.map fun _=>(0:Rat))=0
 | [],_,_=>dk _
 | _::_,_,[]=>by simp [sP]
 | a::as,_,x::l=>by
  rw [ac_,bT,me as l]
  grind
theorem xu {U:Str→List Rat}{c:Rat×Rat→Rat}(c0:c (0,0)=0)(p:aE):∀(ps:List aE),(ps.map (·.nm)).Nodup→(∀q∈ps,(U q.nm).length=q.ws.length)→(∀q∈ps,q.nm=p.nm→q=p)→
  sP (ps.flatMap fun q=>U q.nm) (ps.flatMap fun q=>q.ws.map fun w=>c (mv (dP q.nm w) p.nm))=if p.nm∈ps.map (·.nm) then sP (U p.nm) (p.ws.map c) else 0
 | [],_,_,_=>by simp [sP]
 | q::ps,nd,hl,inj=>by
  rw [ac_,ad8] at nd
  have ih:=xu c0 p ps nd.2 (fun r hr=>hl r (adE _ hr)) fun r hr=>inj r (adE _ hr)
  rw [adS,adS,gR _ _ (by rw [hl q adG,Wp]),ih,ac_]
  by_cases e:q.nm=p.nm
  ·have eq:q=p:=inj q adG e
   subst eq
   have ec:(q.ws.map fun w=>c (mv (dP q.nm w) q.nm))=q.ws.map c:=ad2 fun w _=>by rw [iH,if_pos rfl]
   rw [if_neg nd.1,if_pos adG,ec]
   grind
  ·have ec:(q.ws.map fun w=>c (mv (dP q.nm w) p.nm))=q.ws.map fun _=>(0:Rat):=ad2 fun w _=>by rw [iH,if_neg (fun z=>e z.symm)];exact c0
   rw [ec,me]
   by_cases hm:p.nm∈ps.map (·.nm)
   ·rw [if_pos hm,if_pos (adE _ hm)]
    grind
   ·rw [if_neg hm,if_neg (fun z=>by
     rcases adY.mp z with z | z
     ·exact e z.symm
     ·exact hm z)]
    grind
theorem DP {α:Type}(f g:α→Rat):∀l:List α,sP (l.map f) (l.map g)=(l.map fun x=>f x*g x).sum
 | []=>by simp [sP]
 | x::l=>by rw [ac_,ac_,bT,DP f g l,ac_,ad3]
theorem xw {pins:List aE}{bars:List a8}{T:Str→Rat}{U:Str→List Rat}{L:Str→Option (Rat×Rat)}{c:Rat×Rat→Rat}(c0:c (0,0)=0)(nd:(pins.map (·.nm)).Nodup)(hl:∀q∈pins,(U q.nm).length=q.ws.length){p:aE}(hp:p∈pins)(y:Rat):
  sP ((pins.flatMap fun q=>U q.nm)++bars.map (fun b=>T b.nm)++[y]) (((pins.flatMap fun q=>q.ws.map fun w=>c (mv (dP q.nm w) p.nm))++bars.map fun b=>c (mv (cI b) p.nm))++[c (mv L p.nm)])=b9 bars T U p c+y*c (mv L p.nm):=by
 have l1:(pins.flatMap fun q=>U q.nm).length=(pins.flatMap fun q=>q.ws.map fun w=>c (mv (dP q.nm w) p.nm)).length:=by
  clear hp nd
  induction pins with
  | nil=>rfl
  | cons q ps ih=>rw [adS,adS,adK,adK,ih fun r hr=>hl r (adE _ hr),hl q adG,Wp]
 rw [gR _ _ (by rw [adK,adK,l1,Wp,Wp]),gR _ _ l1,xu c0 p pins nd hl fun q hq e=>Lz (nm:=aE.nm) nd hq hp e,if_pos (abt.mpr ⟨p,hp,rfl⟩),DP,bT,dk]
 unfold b9
 grind
theorem gj (F:Str→Option (Rat×Rat)):∀{pins:List aE} {k:Nat} {p:aE},pins[k]? =some p→vl ((cK F pins).getD (2*k) (0,1))=(mv F p.nm).1∧vl ((cK F pins).getD (2*k+1) (0,1))=(mv F p.nm).2
 | q::ps,0,p,h=>by
  cases h
  unfold cK
  rw [adS]
  exact ⟨dQ _,dQ _⟩
 | q::ps,k+1,p,h=>by
  have ih:=gj F (pins:=ps) (k:=k) (p:=p) (by simpa using h)
  unfold cK at ih ⊢
  rw [adS]
  exact ih
theorem pM (pins:List aE)(bars:List a8)(L:Str→Option (Rat×Rat)){k:Nat}{p:aE}(h:pins[k]? =some p)(j:Nat)(c:Rat×Rat→Rat)(hj:∀F,vl ((cK F pins).getD j (0,1))=c (mv F p.nm)):
  (fF (cp pins bars++[cK L pins]) j).map vl=((pins.flatMap fun q=>q.ws.map fun w=>c (mv (dP q.nm w) p.nm))++bars.map fun b=>c (mv (cI b) p.nm))++[c (mv L p.nm)]:=by
 have flat:∀ps:List aE,((ps.flatMap fun q=>m9 pins q).map fun qs=>vl (qs.getD j (0,1)))=ps.flatMap fun q=>q.ws.map fun w=>c (mv (dP q.nm w) p.nm):=fun ps=>by
  induction ps with
  | nil=>rfl
  | cons q ps ih=>
   rw [adS,adS,adR,ih]
   congr 1
   unfold m9
   rw [ad1]
   exact ad2 fun w _=>hj _
 unfold fF cp
 rw [ad1,adR,adR,ac_,aeb]
 congr 1
 ·congr 1
  ·exact flat pins
  ·rw [ad1]
   exact ad2 fun b _=>hj _
 ·rw [← hj]
  rfl
theorem dF {k:Nat}(h:1≤k):Sz k 0:=by
 have:=vi (i:=0) (k:=k) (by simpa using anE k) h
 simpa using this
structure Zb (n:Nat)(r:Rat):Prop where
 top:(qr r).1.natAbs≤2^n
 bot:(qr r).2.natAbs≤2^n
theorem Ke {T B:Nat}{q:Int×Int}(h:Sm T B q):q=qr (vl q):=pE h.pos h.low
theorem Kf {k:Nat}{r:Rat}(h:Sz k r)(h2:k≤50):Sm 50 50 (qr r):=
 ⟨cz r,mV r,aeD (adU (intBits_le_iff.mp h.top) (adV (by decide) h2)),aeD (adU (intBits_le_iff.mp h.bot) (adV (by decide) h2))⟩
theorem xx {F:Str→Option (Rat×Rat)}(h:∀x,Sz 50 (mv F x).1∧Sz 50 (mv F x).2)(pins:List aE):∀q∈cK F pins,Sm 50 50 q:=fun q hq=>by
 unfold cK at hq
 obtain ⟨p,_,hq⟩:=aer.mp hq
 have z:=h p.nm
 rcases adY.mp hq with e | hq
 ·rw [e]
  exact Kf z.1 (adL _)
 ·rw [adJ.mp hq]
  exact Kf z.2 (adL _)
theorem L7 {x:Str}{w:Rat×Rat}(h:Sz 50 w.1∧Sz 50 w.2)(y:Str):Sz 50 (mv (dP x w) y).1∧Sz 50 (mv (dP x w) y).2:=by
 rw [iH]
 by_cases c:y=x
 ·rw [if_pos c]
  exact h
 ·rw [if_neg c]
  exact ⟨dF (by decide),dF (by decide)⟩
theorem DQ {pins:List aE}{bars:List a8}(g:dy pins bars){b:a8}(hb:b∈bars)(y:Str):Sz 50 (mv (cI b) y).1∧Sz 50 (mv (cI b) y).2:=by
 obtain ⟨m1,m2,_⟩:=g.ends b hb
 have z1:=g.sz _ m1
 have z2:=g.sz _ m2
 unfold mv cI
 by_cases c1:y=b.one.nm
 ·rw [if_pos c1]
  exact ⟨(z2.1.sub z1.1).up (by decide),(z2.2.1.sub z1.2.1).up (by decide)⟩
 ·rw [if_neg c1]
  by_cases c2:y=b.other.nm
  ·rw [if_pos c2]
   exact ⟨(z1.1.sub z2.1).up (by decide),(z1.2.1.sub z2.2.1).up (by decide)⟩
  ·rw [if_neg c2]
   exact ⟨dF (by decide),dF (by decide)⟩
theorem gk {pins:List aE}{bars:List a8}(g:dy pins bars):∀qs∈cp pins bars,qs.length=2*pins.length∧∀q∈qs,Sm 50 50 q:=fun qs hq=>by
 unfold cp at hq
 rcases adQ.mp hq with h | h
 ·obtain ⟨p,hp,h⟩:=aer.mp h
  unfold m9 at h
  obtain ⟨w,hw,rfl⟩:=abt.mp h
  have z:=(g.sz p hp).2.2 w hw
  exact ⟨gQ _ _,xx (L7 ⟨z.1.up (by decide),z.2.up (by decide)⟩) pins⟩
 ·obtain ⟨b,hb,rfl⟩:=abt.mp h
  exact ⟨gQ _ _,xx (DQ g hb) pins⟩
theorem jx {H:Hp}{T B:Nat}:∀{us:List V} {qs:List (Int×Int)},cg K H us qs→(∀q∈qs,Sm T B q)→Paired (fJ K H) us (qs.map vl)
 | [],[],_,_=>.nil
 | u::us,q::qs,h,hs=>by
  refine .cons ?_ (jx ⟨by simpa using h.1,fun i u q e1 e2=>h.2 (i+1) u q (by simpa using e1) (by simpa using e2)⟩ fun r hr=>hs r (adE _ hr))
  have n:=h.2 0 u q rfl rfl
  show kA K H u (qr (vl q))
  rw [← Ke (hs q adG)]
  exact n
 | [],_::_,h,_=>(nomatch h.1)
 | _::_,[],h,_=>(nomatch h.1)
structure MoR (K:Frag)(H H' :Hp)(pins:List aE)(d:Addr)(kM:List (Key×V))(M:Str→Rat×Rat):Prop where
 nM:H d=none
 hM:H' d=some (.dK kM)
 keys:kM.map (·.1)=pins.map (fun p=>(aee p.nm:Key))
 tM:∀p∈pins,∃t v1 v2,bV kM (.inr p.nm)=some (.ref t)∧H' t=some (.tup [v1,v2])∧fJ K H' v1 (M p.nm).1∧fJ K H' v2 (M p.nm).2
theorem DR {m n:Nat}{q:Int×Int}{T B:Nat}(h:Sm T B q)(h1:T≤n)(h2:B≤n):Zb n (vl q):=by
 have e:=Ke h
 refine ⟨?_,?_⟩
 ·rw [← e]
  exact adF h.top (adV (by decide) h1)
 ·rw [← e]
  exact adF h.bot (adV (by decide) h2)
def zL (n:Nat):Nat:=bb (1000+1000*(2*n+1)) (2*n+1)+1000*(2*n+1)
theorem DS {n:Nat}(h:n≤9):bb (1000+1000*(2*n+1)) (2*n+1)≤29000000:=by
 unfold bb
 have:=aep (show 2*n+1+1≤20 by omega) (show 1000+1000*(2*n+1)+11≤20011 by omega)
 omega
theorem QI {n:Nat}(h:n≤9):bb (1000+1000*(2*n+1)) (2*n+1)≤400220:=by
 unfold bb
 exact adF (aep (show 2*n+1+1≤20 by omega) (show 1000+1000*(2*n+1)+11≤20011 by omega)) (by decide)
theorem zL9 {n:Nat}(h:n≤9):zL n≤500000:=by
 have h1:=QI h
 unfold zL
 generalize bb (1000+1000*(2*n+1)) (2*n+1)=x at h1
 omega
def mvL (M:Str→Option (Rat×Rat)):Prop:=∀x,Sz 1000 (mv M x).1∧Sz 1000 (mv M x).2
theorem Xu {T B T' B' :Nat}{q:Int×Int}(h:Sm T B q)(h1:T≤T')(h2:B≤B'):Sm T' B' q:=⟨h.pos,h.low,adF h.top (adV (by decide) h1),adF h.bot (adV (by decide) h2)⟩
theorem DT {r:Rat}(h:Sz 1000 r):Sm 1000 1000 (qr r):=
 ⟨cz r,mV r,aeD (intBits_le_iff.mp h.top),aeD (intBits_le_iff.mp h.bot)⟩
theorem DU {F:Str→Option (Rat×Rat)}(h:∀x,Sz 1000 (mv F x).1∧Sz 1000 (mv F x).2)(pins:List aE):∀q∈cK F pins,Sm 1000 1000 q:=fun q hq=>by
 unfold cK at hq
 obtain ⟨p,_,hq⟩:=aer.mp hq
 have z:=h p.nm
 rcases adY.mp hq with e | hq
 ·rw [e]
  exact DT z.1
 ·rw [adJ.mp hq]
  exact DT z.2
inductive vL (K:Frag)(C:Addr)(vs:List V)(H:Hp)(Q:VK)(E_:XK):Prop where
 | mk (a d:Addr) (pins:List aE) (bars:List a8) (kvs:List (Key×V)) (L:Str→Option (Rat×Rat)) (_:vs=[.ref a,.ref d]) (_:yr K H C a pins bars) (_:dy pins bars) (_:pins.length≤9) (_:H d=some (.dK kvs)) (_:HW K H kvs L) (_:mvL L) (_:(∀kv∈kvs,∃x∈pins.map (·.nm),kv.1=.inr x)) (_:(∀(M:Str→Rat×Rat) (p dM:Addr) (kM:List (Key×V)) (H' :Hp),av H H' →H' p=some (.tup [.str "moves",.ref dM])→MoR K H H' pins dM kM M→DO pins bars M→ub pins L M=1→(∀p∈pins,Zb (zL pins.length) (M p.nm).1∧Zb (zL pins.length) (M p.nm).2)→Q (.ref p) H')) (_:(∀(T:Str→Rat) (U:Str→List Rat) (Lx:Str→Addr) (p dT dU:Addr) (kT kU:List (Key×V)) (H' :Hp),av H H' →H' p=some (.tup [.str "rest",.ref dT,.ref dU])→PPR K H H' pins bars dT dU kT kU T U Lx→iI pins bars T U L→(∀b∈bars,Zb (zL pins.length) (T b.nm))→(∀p∈pins,∀u∈U p.nm,Zb (zL pins.length) u)→Q (.ref p) H')):vL K C vs H Q E_
theorem pO:aG ["F","load","drawn","rows","due","told","forces"] ["F","load"] (af yQ):=sq
theorem QJ {C aN aO:Addr}(hN:∀H:Hp,cf K H aN [.int 0,.int 1])(qU:mg "NOUGHT"=some (.ref aN))(hO:∀H:Hp,cf K H aO [.int 1,.int 1])(zK:mg "ONE"=some (.ref aO))(D:Def K mg "rest_of" yQ ["F","load"])(ba:mg "len"=none)(MP:bK P w K mg base (a_ P w) 1 C "pins" ["self"] (fG K C))
  (L8:Fn P w K mg base (a_ P w) 38 "draw_rows" ["F"] (gf K C)) (Xv:Fn P w K mg base (a_ P w) 3 "load_row" ["F","load"] (kc K C)) (Xw:Fn P w K mg base (a_ P w) 37 "solve_rows" ["rows","due","many"] (qX K)) (Xx:Fn P w K mg base (a_ P w) 2 "motion_from" ["F","numbers"] (nA K C)) (L9:Fn P w K mg base (a_ P w) 3 "pulls_and_pushes" ["F","numbers"] (IL K C)):
  Fn P w K mg base (a_ P w) 39 "rest_of" ["F","load"] (vL K C):=by
 refine D.ok pO (fun vs H Q E h=> ?_) (fun f bD A outer s H vs Q E hr h=> ?_)
 ·obtain ⟨a,d,pins,bars,kvs,L,rfl,_⟩:=h
  rfl
 obtain ⟨a,d,pins,bars,kvs,L,rfl,R,g,lp5,hd,hP,zl,hk,q1,q2⟩:=h
 have gl:=g.lp
 have gb:=g.lb
 have big:(100:Nat)≤sizeLine:=by decide
 have wl:aQ pins≤2*pins.length:=js pins g.lw
 have ql:=hG pins bars
 have Xd:pins.length≤100:=by omega
 refine ⟨_,(ae (ay (i:=2) pO.nd rfl (adH rfl) (aC L8 hr.mo (pY P w) (au (pv 0) aa)))
  (ae (ay (i:=3) pO.nd rfl (adH rfl) (aI iy (pv 2) (bO (au (aC Xv hr.mo (pY P w) (au (pv 0) (au (pv 1) aa))) aa))))
  (ae (ay (i:=4) pO.nd rfl (adH rfl) (aI iy (aI u6 (bO (au (ff (v:=.ref aN) rfl qU rfl) aa)) (aT aJ rfl ba b7 (au (pv 2) aa))) (bO (au (ff (v:=.ref aO) rfl zK rfl) aa))))
  (ae (ay (i:=5) pO.nd rfl (adH rfl) (aC Xw hr.mo (pY P w) (au (pv 3) (au (pv 4) (au (aI cC ag (aT aJ rfl ba b7 (au (dh (k:=1) (pv 0) hr.mo (pY P w)) aa))) aa)))))
  (ae (bG (bf de (aR (pv 5)) d6 (bu _)) (aj (aL (aZ (au d6 (au (aC Xx hr.mo (pY P w) (au (pv 0) (au (aR (pv 5)) aa))) aa))))) aY)
  (ae (ay (i:=6) pO.nd rfl (adH rfl) (aC L9 hr.mo (pY P w) (au (pv 0) (au (dI f9 (aR (pv 5)) fY (dS (aT aJ rfl ba b7 (au (pv 2) aa)))) aa))))
  (aj (aL (aZ (au d6 (au (aR (pv 6)) (au (aR (pv 6)) aa)))))))))))),?_⟩
 refine ⟨_,rfl,a,pins,bars,rfl,R,g,fun r ls bW H1 s1 nr RR=> ?_⟩
 refine ⟨_,rfl,_,rfl,_,rfl,a,d,pins,bars,kvs,L,rfl,R.same s1,Xd,s1 _ _ hd,hP.same s1,hk,fun l us H2 s2 nl el nm=>⟨(by show 1≤sizeLine;decide),?_⟩⟩
 intro l1 n3;generalize eX:upd _ l1 _=H3;have ⟨s3,e3⟩:=nw n3 eX;clear eX
 have QK:=RR.same (s2.trans s3)
 have IQ:ls.length=(cp pins bars).length:=by rw [RR.iY.2.1,RR.num.1]
 have lq:(cp pins bars).length≤32:=by
  have:(cp pins bars).length=aQ pins+bars.length:=ql
  omega
 refine ⟨r,l1,_,_,rfl,rfl,QK.iY.1,e3,(by rw [Wp];show ls.length+1≤sizeLine;omega),?_⟩
 intro r2 n4;generalize eX:upd _ r2 _=H4;have ⟨s4,e4⟩:=nw n4 eX;clear eX
 have QL:=s3.trans s4
 refine ⟨(by show 1≤sizeLine;decide),?_⟩
 intro l5 n5;generalize eX:upd _ l5 _=H5;have ⟨s5,e5⟩:=nw n5 eX;clear eX
 have Vl:=(QK.same s4).same s5
 refine ⟨_,rfl,r,_,rfl,.inl (aV.of Vl.iY.1),l5,_,_,rfl,rfl,e5,by omega,(by rw [Wp];omega),(by rw [Wp];simp;omega),?_⟩
 intro l6 n6;generalize eX:upd _ l6 _=H6;have ⟨s6,e6⟩:=nw n6 eX;clear eX
 refine ⟨(by show 1≤sizeLine;decide),?_⟩
 intro l7 n7;generalize eX:upd _ l7 _=H7;have ⟨s7,e7⟩:=nw n7 eX;clear eX
 have Xy:(adP (((ls.map V.ref).length:Nat):Int).toNat [V.ref aN]).flatten=adP ls.length (V.ref aN):=by simp
 rw [Xy] at e6
 refine ⟨l6,l7,_,_,rfl,rfl,s7 _ _ e6,e7,(by rw [aeB];show ls.length+1≤sizeLine;omega),?_⟩
 intro l8 n8;generalize eX:upd _ l8 _=H8;have ⟨s8,e8⟩:=nw n8 eX;clear eX
 have Nl:=(s5.trans s6).trans (s7.trans s8)
 have s28:=QL.trans Nl
 have s18:=s2.trans s28
 have QG:=s1.trans s18
 have R8:=R.same QG
 obtain ⟨dx,pP,pW,pB,kP,kW,kB,F8,W8⟩:=R8.ex
 have c2:oY 2 ((pins.length:Nat):Int):=⟨by decide+kernel,adF (intBits_le_64 (by omega) (by omega)) (by decide)⟩
 refine ⟨_,rfl,_,rfl,_,rfl,a,C,dx,_,_,_,rfl,F8.obj,rfl,MP,a,dx,pP,pW,pB,_,_,kP,kW,kB,rfl,F8,fun lp H9 s9 uL oF=> ?_⟩
 rw [fu] at oF
 refine ⟨lp,_,rfl,.inl (aV.of oF),_,_,rfl,rfl,(by rw [Wp,Wp];exact c2),?_⟩
 have s89:=s8.trans s9
 have IK:gw K H9 r2 (ls++[l]) (bW++[us]) (cp pins bars++[cK L pins]):=by
  have Nn:=s28.trans s9
  have RRx:=(RR.same s2).same Nn
  refine ⟨⟨?_,by simp [RR.iY.2.1],xo RR.iY.2.1 RRx.iY.2.2 (Nn _ _ el)⟩,m_ RRx.num (nm.same Nn),fun z=> ?_⟩
  ·rw [(Nl.trans s9) _ _ e4,adR]
   rfl
  ·rcases adQ.mp z with z | z
   ·obtain ⟨i,ei⟩:=adD z
    have hi:=(be.mp ei).1
    have:=QK.iY.2.2 i r2 _ ei (gE (by rw [← RR.iY.2.1];exact hi))
    rw [this] at n4
    cases n4
   ·rw [adJ.mp z,s3 _ _ el] at n4
    cases n4
 have em:(2:Int)*((((pins.map (·.nm)).map V.str).length:Nat):Int)=((2*pins.length:Nat):Int):=by rw [Wp,Wp];omega
 have QM:cg K H9 (adP ls.length (V.ref aN)++[V.ref aO]) (adP ls.length (0,1)++[(1,1)]):=by
  refine cg.snoc ⟨by simp,fun i u q e1 e2=> ?_⟩ ⟨aO,rfl,hO _⟩
  rw [aei] at e1 e2
  split at e1
  ·rename_i c
   rw [if_pos c] at e2
   cases e1
   cases e2
   exact ⟨aN,rfl,hN _⟩
  ·cases e1
 have sh:Shape 1000 1000 (2*pins.length) (cp pins bars++[cK L pins]):=fun qs hq=>by
  rcases adQ.mp hq with h | h
  ·exact ⟨(gk g qs h).1,fun q hq=>Xu ((gk g qs h).2 q hq) (by decide) (by decide)⟩
  ·rw [adJ.mp h]
   exact ⟨gQ _ _,DU (fun x=>⟨(zl x).1,(zl x).2⟩) pins⟩
 have L_:Sm 1000 1000 ((0,1):Int×Int):=⟨by decide,by decide,by decide+kernel,by decide+kernel⟩
 have BO:Sm 1000 1000 ((1,1):Int×Int):=⟨by decide,by decide,by decide+kernel,by decide+kernel⟩
 have e89:=s9 _ _ e8
 refine ⟨r2,l8,2*pins.length,ls++[l],bW++[us],cp pins bars++[cK L pins],_,adP ls.length (0,1)++[(1,1)],1000,1000,bb (1000+1000*(2*pins.length+1)) (2*pins.length+1),(by rw [← em];rfl),IK.iY,IK.num,e89,QM,by simp [IQ],sh,fun q hq=> ?_,by omega,by simp;omega,by decide,by omega,by decide,qQ _ (Nat.min_le_left _ _),DS lp5,?_,?_⟩
 ·rcases adQ.mp hq with h | h
  ·rw [(List.mem_replicate.mp h).2]
   exact L_
  ·rw [adJ.mp h]
   exact BO
 ·intro p x lZ xs HA sA ep ex nx lx zx hx
  refine ⟨_,rfl,p,_,_,_,rfl,rfl,cf.of ep,rfl,rfl,_,rfl,?_⟩
  refine bM (fun _=> ?_) (fun c=>absurd (by simp [oh]) c)
  have QN:=(QG.trans s9).trans sA
  have J_ :=jx nx zx
  refine ⟨_,rfl,_,rfl,p,_,_,_,rfl,rfl,cf.of ep,rfl,a,x,pins,bars,lZ,xs.map vl,rfl,R.same QN,g,ex,J_,by rw [Wp];exact lx,fun M dM kM HB sB eM nM hM ks tM=>⟨(by show 2≤sizeLine;decide),?_⟩⟩
  intro pt nC;generalize eX:upd _ pt _=HC;have ⟨sC,eC⟩:=nw nC eX;clear eX
  have sBC:=QN.trans (sB.trans sC)
  have row:∀(i:Nat) (F:Str→Option (Rat×Rat)) (dd:Int×Int),(cp pins bars++[cK L pins])[i]? =some (cK F pins)→(adP ls.length ((0,1):Int×Int)++[(1,1)])[i]? =some dd→(pins.map fun p=>dt (mv F p.nm) (M p.nm)).sum=vl dd:=fun i F dd h1 h2=>by
   have:=hx i _ dd h1 h2
   rw [ma,eM,xr] at this
   exact this
  have v0:vl ((0,1):Int×Int)=0:=by decide+kernel
  have v1:vl ((1,1):Int×Int)=1:=by decide+kernel
  have draw:∀F,cK F pins∈cp pins bars→(pins.map fun p=>dt (mv F p.nm) (M p.nm)).sum=0:=fun F hF=>by
   obtain ⟨i,ei⟩:=adD hF
   have hi:=(be.mp ei).1
   rw [← v0]
   refine row i F (0,1) (by rw [adI hi];exact ei) ?_
   rw [adI (by rw [aeB,IQ];exact hi),aei,if_pos (by rw [IQ];exact hi)]
  refine q1 M pt dM kM HC sBC eC ⟨(QN).free nM,sC _ _ hM,ks,fun p hp=> ?_⟩ ⟨fun p hp w hw=> ?_,fun b hb=> ?_⟩ ?_ fun p hp=> ?_
  ·obtain ⟨t,v1,v2,h1,h2,h3,h4⟩:=tM p hp
   exact ⟨t,v1,v2,h1,sC _ _ h2,h3.same sC,h4.same sC⟩
  ·rw [← rf g.np hp w M]
   refine draw _ ?_
   unfold cp m9
   exact ad_ _ (aer.mpr ⟨p,hp,abt.mpr ⟨w,hw,rfl⟩⟩)
  ·obtain ⟨m1,m2,m3⟩:=g.ends b hb
   have:=draw (cI b) (by unfold cp;exact ad6 _ (abt.mpr ⟨b,hb,rfl⟩))
   rw [xt g.np b m1 m2 m3] at this
   grind
  ·unfold ub
   rw [← v1]
   refine row (cp pins bars).length L (1,1) (by simp) ?_
   rw [← IQ]
   simp
  ·have mem:∀r∈xs.map vl,Zb (zL pins.length) r:=fun r hr=>by
    obtain ⟨q,hq,rfl⟩:=abt.mp hr
    exact DR (m:=0) (zx q hq) (amy _ _) (amy _ _)
   rw [eM] at mem
   exact ⟨mem _ (aer.mpr ⟨p,hp,adG⟩),mem _ (aer.mpr ⟨p,hp,adE _ adG⟩)⟩
 ·intro p y lZ ys HA sA ep ey ny ly zy zB hy1
  refine ⟨_,rfl,p,_,_,_,rfl,rfl,cf.of ep,rfl,rfl,_,rfl,?_⟩
  refine bM (fun c=>absurd c (by simp [oh];decide+kernel)) (fun _=> ?_)
  have QN:=(QG.trans s9).trans sA
  have e0A:=(s18.trans s9).trans sA
  have py:=jx ny zy
  have lys:ys.length=ls.length+1:=by rw [ly,IQ];simp
  have lus:lZ.length=ls.length+1:=by rw [ny.1,lys]
  have rA:HA r=some (.lst (ls.map V.ref)):=e0A _ _ RR.iY.1
  refine ⟨_,rfl,_,rfl,p,_,_,_,rfl,rfl,cf.of ep,rfl,_,rfl,r,_,rfl,.inl (aV.of rA),_,rfl,y,_,rfl,aV.of ey,?_⟩
  rw [Wp,lY (show ls.length≤lZ.length by omega)]
  intro l9 nB;generalize eX:upd _ l9 _=HB;have ⟨sB,eB⟩:=nw nB eX;clear eX
  have pyB:Paired (fJ K HB) (lZ.take ls.length) ((ys.map vl).take ls.length):=Paired.bZ (gi ls.length py) fun _ _ z=>z.same sB
  have QO:=QN.trans sB
  refine ⟨a,l9,pins,bars,_,_,rfl,R.same QO,g,eB,pyB,?_,fun T U Lx pf dT dU kT kU HC sC er epf PR=> ?_⟩
  ·rw [adZ,Wp,lys,IQ,ql]
   unfold aQ
   omega
  refine ⟨_,rfl,pf,_,_,_,rfl,rfl,cf.of epf,rfl,_,rfl,pf,_,_,_,rfl,rfl,cf.of epf,rfl,(by show 3≤sizeLine;decide),?_⟩
  intro pt nD;generalize eX:upd _ pt _=HD;have ⟨sD,eD⟩:=nw nD eX;clear eX
  have sx:=QO.trans (sC.trans sD)
  obtain ⟨yl,eyl⟩:∃yl,(ys.map vl)=(ys.map vl).take ls.length++[yl]:=by
   have hl:ls.length < (ys.map vl).length:=by rw [Wp];omega
   refine ⟨(ys.map vl)[ls.length],?_⟩
   have:=ae4 (l:=ys.map vl) (i:=ls.length)
   rw [gE hl,aeI (by rw [Wp];omega)] at this
   exact this
  have v0:vl ((0,1):Int×Int)=0:=by decide+kernel
  have v1:vl ((1,1):Int×Int)=1:=by decide+kernel
  have ly1:yl=1:=by
   rw [ma,eyl,adR,gR _ _ (by rw [adZ,Wp,Wp,aeB];omega),List.map_replicate,v0] at hy1
   have ez:adP ls.length (0:Rat)=(adP ls.length ()).map fun _=>(0:Rat):=by simp
   rw [ez,me,ac_,aeb,bT,dk,v1] at hy1
   grind
  have rest:iI pins bars T U L:=fun p hp=>by
   obtain ⟨k,ek⟩:=adD hp
   have hk:=(be.mp ek).1
   have one:∀(j:Nat) (c:Rat×Rat→Rat),j < 2*pins.length→c (0,0)=0→(∀F,vl ((cK F pins).getD j (0,1))=c (mv F p.nm))→b9 bars T U p c+c (mv L p.nm)=0:=fun j c hj c0 hc=>by
    have:=zB j hj
    rw [ma,pM pins bars L ek j c hc,eyl,er,ly1,xw c0 g.np PR.lU hp] at this
    grind
   exact ⟨one (2*k) (·.1) (by omega) rfl fun F=>(gj F ek).1,one (2*k+1) (·.2) (by omega) rfl fun F=>(gj F ek).2⟩
  have mem:∀r∈(ys.map vl).take ls.length,Zb (zL pins.length) r:=fun r hr=>by
   obtain ⟨q,hq,rfl⟩:=abt.mp (amZ hr)
   exact DR (m:=0) (zy q hq) (by unfold zL;omega) (amy _ _)
  rw [er] at mem
  refine q2 T U Lx pt dT dU kT kU HD sx eD ⟨QO.free PR.nT,QO.free PR.nU,PR.ne,sD _ _ PR.hT,sD _ _ PR.hU,PR.zH,PR.zI,fun b hb=> ?_,fun p hp=> ?_,PR.lU,PR.inj⟩ rest (fun b hb=>mem _ (ad6 _ (abt.mpr ⟨b,hb,rfl⟩))) fun p hp u hu=>mem _ (ad_ _ (aer.mpr ⟨p,hp,hu⟩))
  ·obtain ⟨v,h1,h2⟩:=PR.tT b hb
   exact ⟨v,h1,h2.same sD⟩
  ·obtain ⟨vs,h1,h2,h3,h4⟩:=PR.tU p hp
   exact ⟨vs,h1,QO.free h2,sD _ _ h3,Paired.bZ h4 fun _ _ z=>z.same sD⟩
theorem dH {α:Type}{l:List α}(h:l.Nodup){i j:Nat}{x:α}(hi:l[i]? =some x)(hj:l[j]? =some x):i=j:=by
 obtain ⟨i1,i2⟩:=be.mp hi
 obtain ⟨j1,j2⟩:=be.mp hj
 exact (anm h).mp (i2.trans j2.symm)
theorem kd {α:Type}{R:V→α→Prop}:∀{us:List V} {zs:List α},us.length=zs.length→(∀(i:Nat) (u:V),us[i]? =some u→∃z,zs[i]? =some z∧R u z)→Paired R us zs
 | [],[],_,_=>.nil
 | u::us,z::zs,l,h=>by
  obtain ⟨z',e,hz⟩:=h 0 u rfl
  cases e
  exact .cons hz (kd (by simpa using l) fun i u e=>h (i+1) u (by simpa using e))
theorem nE {α β:Type}(f:α→β→Rat)(bs:List β):∀as:List α,(as.map fun a=>(bs.map fun b=>f a b).sum).sum=(bs.map fun b=>(as.map fun a=>f a b).sum).sum
 | []=>by
  induction bs with
  | nil=>rfl
  | cons b bs ih=>
   rw [ac_,ad3, ← ih]
   simp only [aeb,aeJ]
   grind
 | a::as=>by
  rw [ac_,ad3,nE f bs as]
  clear nE
  induction bs with
  | nil=>
   simp only [aeb,aeJ]
   grind
  | cons b bs ih=>
   simp only [ac_,ad3] at ih ⊢
   grind
theorem rg {α:Type}(t:Rat)(f:α→Rat):∀l:List α,(l.map fun a=>t*f a).sum=t*(l.map f).sum
 | []=>by
  simp only [aeb,aeJ]
  grind
 | a::l=>by
  rw [ac_,ad3,ac_,ad3,rg t f l]
  grind
theorem sum_neg {α:Type}(f:α→Rat):∀l:List α,(l.map fun a=> -(f a)).sum= -(l.map f).sum
 | []=>by
  simp only [aeb,aeJ]
  grind
 | a::l=>by
  rw [ac_,ad3,ac_,ad3,sum_neg f l]
  grind
theorem Kg (m:Rat×Rat):∀(us:List Rat) (ws:List (Rat×Rat)),sP us (ws.map (·.1))*m.1+sP us (ws.map (·.2))*m.2=sP us (ws.map fun w=>dt w m)
 | [],_=>by
  simp only [dk]
  grind
 | _::_,[]=>by
  simp [sP]
  grind
 | u::us,w::ws=>by
  have ih:=Kg m us ws
  simp only [ac_,bT]
  unfold dt at ih ⊢
  grind
theorem xy (T:Str→Rat)(p:aE)(m:Rat×Rat):∀bars:List a8,(bars.map fun b=>T b.nm*(mv (cI b) p.nm).1).sum*m.1+(bars.map fun b=>T b.nm*(mv (cI b) p.nm).2).sum*m.2=(bars.map fun b=>T b.nm*dt (mv (cI b) p.nm) m).sum
 | []=>by
  simp only [aeb,aeJ]
  grind
 | b::bars=>by
  have ih:=xy T p m bars
  simp only [ac_,ad3]
  unfold dt at ih ⊢
  grind
theorem IS {ws:List (Rat×Rat)}{m:Rat×Rat}(us:List Rat)(h:∀w∈ws,dt w m=0):sP us (ws.map fun w=>dt w m)=0:=by
 have:(ws.map fun w=>dt w m)=ws.map fun _=>(0:Rat):=ad2 h
 rw [this]
 exact me us ws
theorem Xz {pins:List aE}{bars:List a8}(g:dy pins bars){T:Str→Rat}{U:Str→List Rat}{L:Str→Option (Rat×Rat)}(h:iI pins bars T U L){M:Str→Rat×Rat}(hw:∀p∈pins,∀w∈p.ws,dt w (M p.nm)=0):ub pins L M=(bars.map fun b=>T b.nm*zJ M b).sum:=by
 have e1:∀p∈pins,dt (mv L p.nm) (M p.nm)= -((bars.map fun b=>T b.nm*dt (mv (cI b) p.nm) (M p.nm)).sum):=fun p hp=>by
  obtain ⟨r1,r2⟩:=h p hp
  unfold b9 at r1 r2
  have a:=Kg (M p.nm) (U p.nm) p.ws
  rw [IS _ (hw p hp)] at a
  have b:=xy T p (M p.nm) bars
  rw [← b]
  unfold dt
  grind
 unfold ub
 rw [ad2 e1,sum_neg,nE (fun (p:aE) (b:a8)=>T b.nm*dt (mv (cI b) p.nm) (M p.nm)) bars pins]
 have e2:∀b∈bars,(pins.map fun p=>T b.nm*dt (mv (cI b) p.nm) (M p.nm)).sum= -(T b.nm*zJ M b):=fun b hb=>by
  obtain ⟨m1,m2,m3⟩:=g.ends b hb
  rw [rg (T b.nm) (fun p:aE=>dt (mv (cI b) p.nm) (M p.nm)) pins,xt g.np b m1 m2 m3]
  grind
 rw [ad2 e2,sum_neg]
 grind
theorem DV {pins:List aE}{bars:List a8}(g:dy pins bars){T:Str→Rat}{U:Str→List Rat}{L:Str→Option (Rat×Rat)}(h:iI pins bars T U L){M:Str→Rat×Rat}(mo:DO pins bars M)(w:ub pins L M=1):False:=by
 have e:=Xz g h mo.Xt
 have:(bars.map fun b=>T b.nm*zJ M b)=bars.map fun b=>0*T b.nm:=ad2 fun b hb=>by
  rw [mo.bars b hb]
  grind
 rw [this,rg 0 (fun b:a8=>T b.nm)] at e
 grind
def dR (c m t:Nat)(nd:List (Nat×List Int))(qs:List (Int×Int)):Prop:=qs.length=m∧qs[c]? =some (1,1)∧(∀i,i < t→∀x,nd[i]? =some x→qs[x.1]? =some (low (-(x.2.getD c 0)) (x.2.getD x.1 0)))∧∀j,j < m→j≠c→(∀i,i < t→∀x,nd[i]? =some x→x.1≠j)→qs[j]? =some (0,1)
theorem dR.put {L c m t b:Nat}{os:List (List Int)}{nd:List (Nat×List Int)}{lv:List (List Int)}{qs:List (Int×Int)}{x:Nat×List Int}(R:Red os L m b nd lv)(F:dR c m t nd qs)(hc:∀y∈nd,y.1≠c)(e:nd[t]? =some x):dR c m (t+1) nd (qs.set x.1 (low (-(x.2.getD c 0)) (x.2.getD x.1 0))):=by
 have ql:=F.1
 have hx:=R.cols x (aa_ e)
 have xc:=hc x (aa_ e)
 have WS:∀i y,i < t→nd[i]? =some y→y.1≠x.1:=fun i y hi ey=>by
  have a:=af_.mp R.asc i t (by rw [Wp];exact (be.mp ey).1) (by rw [Wp];exact (be.mp e).1) hi
  simp only [ans] at a
  have e1:=(be.mp ey).2
  have e2:=(be.mp e).2
  rw [e1,e2] at a
  omega
 refine ⟨by simp [ql],by rw [ad',if_neg xc];exact F.2.1,fun i hi y ey=> ?_,fun j hj jc h=> ?_⟩
 ·rcases ael.mp hi with z | z
  ·rw [ad',if_neg (ad7 (WS i y z ey))]
   exact F.2.2.1 i z y ey
  ·subst z
   rw [e] at ey
   cases ey
   rw [ad',if_pos rfl,if_pos (by omega)]
 ·rw [ad',if_neg (h t (aef _) x e)]
  exact F.2.2.2 j hj jc (fun i hi y ey=>h i (aeG hi) y ey)
theorem Ln.ks {H H' :Hp}{v:V}{l:List Int}{d:Addr}{kvs:List (Key×V)}(h:Ln H v l)(r:Rd H d (.dK kvs))(k:bg d H H'):Ln H' v l:=by
 obtain ⟨p,e,z⟩:=h
 refine ⟨p,e,k p _ (fun y=> ?_) z⟩
 rw [y] at z
 rcases r with r | ⟨o,r⟩ <;> (rw [r] at z;cases z)
theorem kF.ks {H H' :Hp}{kvs Pe:List (Key×V)}{nd:List (Nat×List Int)}{d:Addr}(h:kF H kvs nd)(r:Rd H d (.dK Pe))(k:bg d H H'):kF H' kvs nd:=⟨h.1,fun i kv x e1 e2=>⟨(h.2 i kv x e1 e2).1,(h.2 i kv x e1 e2).2.ks r k⟩⟩
theorem bg.step {d:Addr}{H H' H2:Hp}(k:bg d H H')(s:av H' H2):bg d H H2:=fun b o n e=>s _ _ (k b o n e)
theorem bg.put {d x:Addr}{H H' :Hp}{o:HO}(k:bg d H H')(n:H x=none):bg d H (upd H' x o):=fun b o' nb e=>by
 rw [ao (fun z=>by rw [z,n] at e;cases e)]
 exact k b o' nb e
inductive rh (K:Frag)(vs:List V)(H:Hp)(Q:VK)(E_:XK):Prop where
 | mk (d:Addr) (c m L b:Nat) (kvs:List (Key×V)) (nd:List (Nat×List Int)) (os lv:List (List Int:_)) (_:vs=[.ref d,.int (c:Int),.int (m:Int)]) (_:Rd H d (.dK kvs)) (_:kF H kvs nd) (_:Red os L m b nd lv) (_:m≤L) (_:m≤900) (_:c < m) (_:(∀y∈nd,y.1≠c)) (_:∀(x:Addr) (us:List V) (qs:List (Int×Int)) (o:Obj) (H' :Hp),bg d H H' →H' d=some (.du o (.dK kvs))→H x=none→H' x=some (.lst us)→cg K H' us qs→dR c m nd.length nd qs→Q (.ref x) H'):rh K vs H Q E_
theorem dG:aG ["needed","column","many","numbers","place","line"] ["needed","column","many"] (af cN):=sq
theorem oG {aN aO:Addr}(hN:∀H:Hp,cf K H aN [.int 0,.int 1])(qU:mg "NOUGHT"=some (.ref aN))(hO:∀H:Hp,cf K H aO [.int 1,.int 1])(zK:mg "ONE"=some (.ref aO))(D:Def K mg "spare_list" cN ["needed","column","many"])(vy:Fn P w K mg base (a_ P w) 33 "lowest_terms" ["top","bottom"] d5):Fn P w K mg base (a_ P w) 34 "spare_list" ["needed","column","many"] (rh K):=by
 refine D.ok dG (fun vs H Q E h=> ?_) (fun f bD A outer s H vs Q E hr h=> ?_)
 ·obtain ⟨d,c,m,L,b,kvs,nd,os,lv,rfl,_⟩:=h
  rfl
 obtain ⟨d,c,m,L,b,kvs,nd,os,lv,rfl,rd,LJ,R,hmL,hm,hc,hnc,q⟩:=h
 refine ⟨_,(ae (ay (i:=3) dG.nd rfl (adH rfl) (aI u6 (bO (au (ff (v:=.ref aN) rfl qU rfl) aa)) (pv 2)))
  (ae (qh (ff (v:=.ref aO) rfl zK rfl) (qg (pv 3) (pv 1) set_list))
  (ae (bq PassesOwn.never rfl (ym (pv 0)) (fW rfl (bo (aH (i:=4) dG.nd rfl (adH rfl)) (bo (aH (i:=5) dG.nd rfl (adH rfl)) dc))) (aj (qh (aC vy hr.mo pX (au (JM AV (aU aK (pv 5) (pv 1) (fun _ _=>rfl))) (au (aU aK (pv 5) (pv 4) (fun _ _=>rfl)) aa))) (qg (pv 3) (pv 4) set_list))))
  (aj (aL (pv 3)))))),?_⟩
 refine ⟨(by show 1≤sizeLine;decide),fun p3 n3=> ?_⟩
 have s3:=aD n3 (.lst [V.ref aN])
 refine ⟨_,rfl,p3,_,_,rfl,rfl,ah,by omega,by omega,adF (show 1*(m:Int).toNat≤1000 by omega) (by decide),fun x n4=> ?_⟩
 have er:(adP (m:Int).toNat [V.ref aN]).flatten=adP m (V.ref aN):=by simp
 rw [er]
 have s4:=aD n4 (.lst (adP m (V.ref aN)))
 have nx:H x=none:=s3.free n4
 have xd:d≠x:=by
  rcases rd with r | ⟨o,r⟩
  ·exact aq r nx
  ·exact aq r nx
 refine ⟨_,rfl,_,rfl,x,_,_,c,rfl,rfl,ah,by rw [aeB];exact vx hc,?_⟩
 have s5:av H (upd (upd (upd H p3 (.lst [V.ref aN])) x (.lst (adP m (V.ref aN)))) x (.lst ((adP m (V.ref aN)).set c (V.ref aO)))):=fS (s3.trans s4) nx
 have FP:Rd (upd (upd (upd H p3 (.lst [V.ref aN])) x (.lst (adP m (V.ref aN)))) x (.lst ((adP m (V.ref aN)).set c (V.ref aO)))) d (.dK kvs):=by
  rcases rd with r | ⟨o,r⟩
  ·exact .inl (s5 _ _ r)
  ·exact .inr ⟨o,s5 _ _ r⟩
 have x5:upd (upd (upd H p3 (.lst [V.ref aN])) x (.lst (adP m (V.ref aN)))) x (.lst ((adP m (V.ref aN)).set c (V.ref aO))) x=some (.lst ((adP m (V.ref aN)).set c (V.ref aO))):=ah
 generalize upd (upd (upd H p3 (.lst [V.ref aN])) x (.lst (adP m (V.ref aN)))) x (.lst ((adP m (V.ref aN)).set c (V.ref aO)))=H5 at*
 have vA:=LJ.same s5
 refine ⟨_,rfl,d,kvs,rfl,FP,fun o=> ?_⟩
 have k5:bg d H (upd H5 d (.du o (.dK kvs))):=fun b o' n e=>by rw [ao n];exact s5 _ _ e
 have k55:bg d H5 (upd H5 d (.du o (.dK kvs))):=fun b o' n e=>by rw [ao n];exact e
 refine g6 (d:=d) (o:=o) (kvs:=kvs) (fun t σ H' =>∃(o4 o5:Option V) (pJ:List V) (qs:List (Int×Int)),σ=[some (.ref d),some (.int (c:Int)),some (.int (m:Int)),some (.ref x),o4,o5]∧bg d H H' ∧H' d=some (.du o (.dK kvs))∧H' x=some (.lst pJ)∧cg K H' pJ qs∧kF H' kvs nd∧dR c m t nd qs)
  ⟨none,none,(adP m (V.ref aN)).set c (V.ref aO),(adP m (0,1)).set c (1,1),rfl,k5,ah,by rw [ao (ad7 xd)];exact x5,cg.set ⟨by simp,fun i u q' e1 e2=> ?_⟩ ⟨aO,rfl,hO _⟩,vA.ks FP k55,⟨by simp,by rw [ad',if_pos rfl,if_pos (by simpa using hc)],fun i hi=>absurd hi (aeA _),fun j hj jc _=>by rw [ad',if_neg (ad7 jc),aei,if_pos hj]⟩⟩ (fun t σ H' _ h=>by
   obtain ⟨_,_,_,_,_,_,h,_⟩:=h
   exact h) ?_ ?_
 ·rw [aei] at e1 e2
  by_cases z:i < m
  ·rw [if_pos z] at e1 e2
   cases e1
   cases e2
   exact ⟨aN,rfl,hN _⟩
  ·rw [if_neg z] at e1
   cases e1
 ·rintro t k v σ H6 p7 m5 ⟨o4,o5,pJ,qs,rfl,k6,LV,QP,Np,QQ,F⟩ n7
  have ht:t < kvs.length:=(be.mp m5).1
  have hl6:=QQ.1
  obtain ⟨y,ey⟩:∃y,nd[t]? =some y:=⟨_,gE (by omega)⟩
  obtain ⟨k1,k2⟩:=QQ.2 t _ y m5 ey
  have WU :k=.inl (y.1:Int):=k1
  subst WU
  obtain ⟨b',eb,fL⟩:=k2
  have tZ :v=.ref b' :=eb
  subst tZ
  have XA:=aa_ ey
  have hyl:=R.lh y XA
  have hyc:=R.cols y XA
  have s7:=aD n7 (.tup [kV (.inl (y.1:Int)),.ref b'])
  have Pn:=s7 _ _ fL
  refine ⟨p7,_,rfl,cf.of ah,rfl,_,_,rfl,_,_,rfl,rfl,?_⟩
  refine ⟨_,rfl,_,rfl,b',_,_,_,rfl,rfl,aV.of Pn,kE (by omega),_,rfl,_,rfl,_,rfl,b',_,_,_,rfl,rfl,aV.of Pn,kE (by omega),?_⟩
  refine ⟨_,_,rfl,R.here y XA,fun p8 H8 s8 e8=> ?_⟩
  have vB:=s7.trans s8
  have Po:=vB _ _ QP
  have l2:=Np.1
  have WV:=vB _ _ LV
  refine ⟨_,rfl,_,rfl,x,pJ,_,y.1,rfl,rfl,Po,vx (by rw [l2,F.1];exact hyc),?_⟩
  refine ⟨_,_,pJ.set y.1 (.ref p8),qs.set y.1 (low (-(y.2.getD c 0)) (y.2.getD y.1 0)),rfl,bg.put (bg.step k6 vB) nx,by rw [ao xd];exact WV,ah,?_,?_,F.put R hnc ey⟩
  ·have base:cg K H8 (pJ.set y.1 (.ref p8)) (qs.set y.1 (low (-(y.2.getD c 0)) (y.2.getD y.1 0))):=(Np.same vB).set ⟨p8,rfl,cf.of e8⟩
   refine ⟨base.1,fun i u q' e1 e2=> ?_⟩
   obtain ⟨p9,e9,h9⟩:=base.2 i u q' e1 e2
   exact ⟨p9,e9,cf.putL h9 Po⟩
  ·have base:=QQ.same vB
   refine ⟨base.1,fun i kv y' e1 e2=>⟨(base.2 i kv y' e1 e2).1,?_⟩⟩
   obtain ⟨p9,e9,h9⟩:=(LJ.2 i kv y' e1 e2).2
   refine ⟨p9,e9,?_⟩
   rw [ao (fun z=>by rw [z,nx] at h9;cases h9)]
   obtain ⟨p10,J',WW⟩:=(base.2 i kv y' e1 e2).2
   rw [e9] at J'
   cases J'
   exact WW
 ·rintro σ H6 ⟨o4,o5,pJ,qs,rfl,k6,LV,QP,Np,QQ,F⟩
  have hl6:=QQ.1
  rw [hl6] at F
  exact ⟨_,rfl,q x pJ qs o H6 k6 LV nx QP Np F⟩
theorem cf.ks {K:Frag}{H H' :Hp}{a d:Addr}{xs:List V}{kvs:List (Key×V)}(h:cf K H a xs)(r:Rd H d (.dK kvs))(k:bg d H H'):cf K H' a xs:=by
 have ne:∀{u:HO},H a=some u→(∀o,u≠.du o (.dK kvs))→u≠.dK kvs→a≠d:=fun {u} e n1 n2 z=>by
  rw [z] at e
  rcases r with r | ⟨o,r⟩
  ·rw [r] at e
   cases e
   exact n2 rfl
  ·rw [r] at e
   cases e
   exact n1 o rfl
 rcases h with (h | ⟨o,h⟩) | h
 ·exact .inl (.inl (k _ _ (ne h (fun o z=>nomatch z) (fun z=>nomatch z)) h))
 ·exact .inl (.inr ⟨o,k _ _ (ne h (fun o z=>by cases z) (fun z=>nomatch z)) h⟩)
 ·exact .inr h
theorem cg.ks {K:Frag}{H H' :Hp}{us:List V}{qs:List (Int×Int)}{d:Addr}{kvs:List (Key×V)}(h:cg K H us qs)(r:Rd H d (.dK kvs))(k:bg d H H'):cg K H' us qs:=⟨h.1,fun i u q e1 e2=>by
 obtain ⟨p,e,z⟩:=h.2 i u q e1 e2
 exact ⟨p,e,cf.ks z r k⟩⟩
def xA (K:Frag)(H:Hp)(kvs:List (Key×V))(ss:List (Nat×List (Int×Int))):Prop:=kvs.length=ss.length∧∀(i:Nat) (kv:Key×V) (x:Nat×List (Int×Int)),kvs[i]? =some kv→ss[i]? =some x→kv.1=.inl (x.1:Int)∧∃p us,kv.2=.ref p∧H p=some (.lst us)∧cg K H us x.2
theorem xA.same {H H' :Hp}{kvs:List (Key×V)}{ss:List (Nat×List (Int×Int))}(h:xA K H kvs ss)(s:av H H'):xA K H' kvs ss:=⟨h.1,fun i kv x e1 e2=>by
 obtain ⟨a,p,us,b,c,d⟩:=h.2 i kv x e1 e2
 exact ⟨a,p,us,b,s _ _ c,d.same s⟩⟩
theorem xA.ks {H H' :Hp}{kvs Pe:List (Key×V)}{ss:List (Nat×List (Int×Int))}{d:Addr}(h:xA K H kvs ss)(r:Rd H d (.dK Pe))(k:bg d H H'):xA K H' kvs ss:=⟨h.1,fun i kv x e1 e2=>by
 obtain ⟨a,p,us,b,c,d'⟩:=h.2 i kv x e1 e2
 refine ⟨a,p,us,b,k _ _ (fun z=> ?_) c,cg.ks d' r k⟩
 rw [z] at c
 rcases r with r | ⟨o,r⟩ <;> (rw [r] at c;cases c)⟩
theorem xA.snoc {H:Hp}{kvs:List (Key×V)}{ss:List (Nat×List (Int×Int))}(h:xA K H kvs ss){c:Nat}{p:Addr}{us:List V}{qs:List (Int×Int)}(hp:H p=some (.lst us))(hn:cg K H us qs):xA K H (kvs++[(.inl (c:Int),.ref p)]) (ss++[(c,qs)]):=by
 have hl:=h.1
 refine ⟨by simp [hl],fun j kv x e1 e2=> ?_⟩
 by_cases z:j < kvs.length
 ·rw [adI z] at e1
  rw [adI (by omega)] at e2
  exact h.2 j kv x e1 e2
 ·rw [adN (by omega)] at e1 e2
  rw [← hl] at e2
  by_cases y:j - kvs.length=0
  ·rw [y] at e1 e2
   cases e1
   cases e2
   exact ⟨rfl,p,us,rfl,hp,hn⟩
  ·rw [ab_ (by simp;omega)] at e1
   cases e1
theorem xA.keys {H:Hp}{kvs:List (Key×V)}{ss:List (Nat×List (Int×Int))}(h:xA K H kvs ss):kvs.map (·.1)=ss.map (fun x=>(afq (x.1:Int):Key)):=by
 refine aec fun i=> ?_
 have hl:=h.1
 rw [ir,ir]
 by_cases hi:i < ss.length
 ·have e:ss[i]? =some ss[i]:=gE hi
  have e2:kvs[i]? =some (kvs[i]'(by omega)):=gE (by omega)
  rw [e,e2]
  simp only [aeM]
  rw [(h.2 i _ _ e2 e).1]
 ·rw [ab_ (by omega),ab_ (by omega)]
  rfl
def XB (T B m:Nat)(qs:List (Int×Int))(w:Wl):Prop:=gu w.1 qs w.2.1∧0 < w.2.1∧w.2.1.natAbs≤2^(B*m)∧∀t∈w.1,t.natAbs≤2^(T+B*m)
def uc (T B m:Nat)(cE:List (List (Int×Int)))(os:List (List Int)):Prop:=os.length=cE.length∧∀(i:Nat) (o:List Int) (qs:List (Int×Int)),os[i]? =some o→cE[i]? =some qs→∃b:Int,0 < b∧gu o qs b
def free (nd:List (Nat×List Int))(j:Nat):Bool:=nd.all fun y=>decide (y.1≠j)
theorem eO {nd:List (Nat×List Int)}{j:Nat}:free nd j=true ↔ ∀y∈nd,y.1≠j:=by
 unfold free
 rw [anr]
 exact ⟨fun h y hy=>of_decide_eq_true (h y hy),fun h y hy=>decide_eq_true (h y hy)⟩
inductive nF (K:Frag)(vs:List V)(H:Hp)(Q:VK)(E_:XK):Prop where
 | mk (r:Addr) (m:Nat) (ls:List Addr) (bW:List (List V:_)) (cE:List (List (Int×Int))) (T B Z:Nat) (_:vs=[.ref r,.int (m:Int)]) (_:iG H r ls bW) (_:fE K H bW cE) (_:Shape T B m cE) (_:m≤100) (_:cE.length≤100) (_:T≤20000) (_:B*m≤8000) (_:B≤8000) (_:bb (T+B*m) (min m cE.length)≤Z) (_:Z≤29000000) (_:∀(sd:Addr) (kvs:List (Key×V)) (ss:List (Nat×List (Int×Int))) (os lv:List (List Int)) (nd:List (Nat×List Int)) (H' :Hp),av H H' →H sd=none→H' sd=some (.dK kvs)→xA K H' kvs ss→uc T B m cE os→Red os m m Z nd lv→ss.map (·.1)=(aen m).filter (free nd)→(∀x∈ss,dR x.1 m nd.length nd x.2)→Q (.ref sd) H'):nF K vs H Q E_
theorem cO:aG ["rows","many","needed","spare","column"] ["rows","many"] (af cj):=sq
theorem ke (D:Def K mg "spare_columns" cj ["rows","many"])(aX:mg "range"=none)(LN:Fn P w K mg base (a_ P w) 2 "whole_row" ["row"] (Iv K))(LI:Fn P w K mg base (a_ P w) 35 "reduced" ["lines","many"] (g_ K))(rj:Fn P w K mg base (a_ P w) 34 "spare_list" ["needed","column","many"] (rh K)):Fn P w K mg base (a_ P w) 36 "spare_columns" ["rows","many"] (nF K):=by
 refine D.ok cO (fun vs H Q E h=> ?_) (fun f bD A outer s H vs Q E hr h=> ?_)
 ·obtain ⟨r,m,ls,bW,cE,T,B,Z,rfl,_⟩:=h
  rfl
 obtain ⟨r,m,ls,bW,cE,T,B,Z,rfl,M,NN,sh,hm,hn,hT,hB,U7,hZ,WY,q⟩:=h
 refine ⟨_,(ae (ay (i:=2) cO.nd rfl (adH rfl) (aR (aC LI hr.mo pX (au (dX (tn:=["row"]) (fr:=[]) (caps:=[]) rfl ⟨rfl,by decide+kernel,rfl,by decide+kernel,by decide+kernel,rfl,trivial,trivial⟩ (bR (pv 0)) (fun _ _ _ _=>(aH (i:=0) (show (["row"]:List Str).Nodup from by decide+kernel) rfl (adH rfl))) (fun _ _ _ _=>dA) (fun _ _ _ _=>(aU (fg (K:=K) rfl) (aC LN hr.mo (wO (by first | assumption | exact a_.sT) rfl) (au (pv 0) aa)) ag (fun _ _=>rfl)))) (au (pv 1) aa)))))
  (ae (ay (i:=3) cO.nd rfl (adH rfl) cV)
  (ae (bq PassesOwn.never rfl (bE rfl aX (au (pv 1) aa)) (aH (i:=4) cO.nd rfl (adH rfl)) (aj (bG (jR (j3 (b6 hr) (pv 4) (pv 2))) (aj (di (b6 hr) (pv 3) (pv 4) (aC rj hr.mo pX (au (pv 2) (au (pv 4) (au (pv 1) aa)))) rfl)) aY)))
  (aj (aL (pv 3)))))),?_⟩
 have l1:=M.2.1
 have l2:=NN.1
 refine ⟨_,rfl,r,rfl,⟨_,aV.of M.1⟩,fun D1 n1=> ?_⟩
 refine iB (cap:=[]) (K:=K) (a:=r) (xs:=ls.map V.ref) (fun i v H=>∃w:Wl,v=.ref w.2.2.1∧w.2.2.1≠D1∧H w.2.2.1=some (.lst (w.1.map V.int))∧∀qs,cE[i]? =some qs→XB T B m qs w) n1 (by rw [Wp];exact adO (show ls.length≤1000 by omega) (by decide)) (fun H2 s2=>aV.of (s2 _ _ M.1)) ?_ ?_ ?_
 ·rintro i v H2 H3 ys hD ks ⟨w,e1,e2,e3,e4⟩
  exact ⟨w,e1,e2,ks _ _ e2 e3,e4⟩
 ·rintro i x H2 RR ex s2 ⟨Vb,WZ⟩ kk
  rw [ir] at ex
  obtain ⟨l,el,rfl⟩:=adM.mp ex
  have hi:i < ls.length:=(be.mp el).1
  obtain ⟨qs,eq⟩:∃qs,cE[i]? =some qs:=⟨_,gE (by omega)⟩
  obtain ⟨vs,ev⟩:∃vs,bW[i]? =some vs:=⟨_,gE (by omega)⟩
  have hl:=M.2.2 i l vs el ev
  have hq:=NN.2 i vs qs ev eq
  obtain ⟨lq,sq⟩:=sh qs (aa_ eq)
  refine ⟨_,rfl,l,qs,T,B,rfl,⟨_,aV.of (s2 _ _ hl),hq.same s2⟩,sq,hT,by rw [lq];omega,U7,by omega,fun p3 Pw ts b H3 s3 nl Px Py hb Pz wh PD=> ?_⟩
  rw [lq] at Pz PD
  refine ⟨p3,_,_,_,rfl,rfl,cf.of Px,iW,kk _ _ s3 ⟨(ts,b,Pw,p3),rfl,fun z=> ?_,Py,fun Nf e1=> ?_⟩⟩
  ·rw [show Pw =D1 from z,WZ] at nl
   cases nl
  ·rw [eq] at e1
   cases e1
   exact ⟨wh,hb,Pz,PD⟩
 intro zs H2 hz gO s2 PH
 rw [Wp] at hz
 obtain ⟨ws,lw,hw⟩:=g9 (P:=fun i v (w:Wl)=>v=.ref w.2.2.1∧w.2.2.1≠D1∧H2 w.2.2.1=some (.lst (w.1.map V.int))∧∀qs,cE[i]? =some qs→XB T B m qs w) zs gO
 have wp:∀(i:Nat) (w:Wl),ws[i]? =some w→∃v qs,zs[i]? =some v∧cE[i]? =some qs∧v=.ref w.2.2.1∧H2 w.2.2.1=some (.lst (w.1.map V.int))∧XB T B m qs w:=fun i w e=>by
  have hi:i < ws.length:=(be.mp e).1
  obtain ⟨v,ev⟩:∃v,zs[i]? =some v:=⟨_,gE (by omega)⟩
  obtain ⟨qs,eq⟩:∃qs,cE[i]? =some qs:=⟨_,gE (by omega)⟩
  obtain ⟨h1,_,h3,h4⟩:=hw i v w ev e
  exact ⟨v,qs,ev,eq,h1,h3,h4 qs eq⟩
 have W7:mZ H2 zs (ws.map (·.1)):=⟨by simp [lw],fun i u l e1 e2=>by
  rw [ir] at e2
  obtain ⟨w,ew,rfl⟩:=adM.mp e2
  obtain ⟨v,qs,ev,_,e,h,_⟩:=wp i w ew
  rw [e1] at ev
  cases ev
  exact ⟨_,e,h⟩⟩
 have zF:∀l∈ws.map (·.1),l.length=m:=fun l hl=>by
  obtain ⟨w,IG,rfl⟩:=abt.mp hl
  obtain ⟨i,e⟩:=adD IG
  obtain ⟨v,qs,_,eq,_,_,wh,_⟩:=wp i w e
  rw [wh.1,(sh qs (aa_ eq)).1]
 have Vf:∀l∈ws.map (·.1),Bd (T+B*m) l:=fun l hl=>by
  obtain ⟨w,IG,rfl⟩:=abt.mp hl
  obtain ⟨i,e⟩:=adD IG
  obtain ⟨v,qs,_,eq,_,_,_,_,_,h⟩:=wp i w e
  exact Bd.of h
 have PJ:(ws.map (·.1)).length=cE.length:=by rw [Wp];omega
 have XC:uc T B m cE (ws.map (·.1)):=⟨PJ,fun i o qs e1 e2=>by
  rw [ir] at e1
  obtain ⟨w,ew,rfl⟩:=adM.mp e1
  obtain ⟨v,Nf,_,eq,_,_,wh,wb,_⟩:=wp i w ew
  rw [e2] at eq
  cases eq
  exact ⟨_,wb,wh⟩⟩
 refine ⟨_,rfl,D1,zs,ws.map (·.1),m,m,T+B*m,rfl,aV.of PH,W7,zF,adL _,by omega,by omega,Vf,by rw [PJ];omega,fun p d a' kvs lZ nd lv H3 s3 CZ np hp hd ID LJ J8 R=> ?_⟩
 rw [PJ] at R
 have RZ:=R.up hZ
 refine ⟨p,_,_,_,rfl,rfl,cf.of hp,iW,?_⟩
 refine fun sd Nq=> ?_
 have t4:=aD Nq (.dK [])
 have vM:=(s2.trans s3).trans t4
 have Hd:H d=none:=s2.free CZ
 have Nr:H sd=none:=(s2.trans s3).free Nq
 have ds:d≠sd:=aq hd Nq
 refine ⟨_,rfl,_,rfl,by omega,by omega,?_⟩
 refine bF (lo:=0) (n:=m) (fun i σ H' =>∃(o4:Option V) (pQ:List (Key×V)) (ss:List (Nat×List (Int×Int))),σ=[some (.ref r),some (.int (m:Int)),some (.ref d),some (.ref sd),o4]∧av H H' ∧Rd H' d (.dK kvs)∧H' sd=some (.dK pQ)∧kF H' kvs nd∧xA K H' pQ ss∧ss.map (·.1)=(aen i).filter (free nd)∧∀x∈ss,dR x.1 m nd.length nd x.2)
  ⟨none,[],[],rfl,vM,.inl (t4 _ _ hd),ah,LJ.same t4,⟨rfl,fun i kv x e=>by simp at e⟩,by simp,fun x h=>nomatch h⟩ ?_ ?_
 ·rintro i σ H5 hi ⟨o4,pQ,ss,rfl,s5,FP,Kh,vA,Nt,Nu,Vm⟩
  have nk:(kvs.map (·.1)).Nodup:=by
   rw [vA.keys]
   exact keys_nodup R.asc
  by_cases fr:free nd i=true
  ·have Vn :=eO.mp fr
   have Pk:bV kvs (.inl ((0:Int)+i))=none:=jh (fun z=>by
    rw [vA.keys] at z
    obtain ⟨x',uH,e⟩:=abt.mp z
    have e1:(x'.1:Int)=0+i:=ag_ e
    exact Vn x' uH (by omega))
   refine ⟨_,rfl,_,rfl,d,none,rfl,.inl ⟨kvs,.inl ((0:Int)+i),FP,rfl,Pk.symm⟩,_,rfl,?_⟩
   refine bM (fun _=> ?_) (fun c=>absurd rfl c)
   refine ⟨_,rfl,_,rfl,_,rfl,d,i,m,m,Z,kvs,nd,ws.map (·.1),lv,by rw [ad9];rfl,FP,vA,RZ,adL _,by omega,hi,Vn,fun x us qs o H6 k6 LV nx QP Np F=> ?_⟩
   have Ma:H6 sd=some (.dK pQ):=k6 _ _ (ad7 ds) Kh
   have lsk:=Nt.1
   have Nj:ss.length≤m:=by
    have:=congrArg aeE Nu
    rw [Wp] at this
    have h2:=ae0 (free nd) (aen i)
    rw [aj_] at h2
    omega
   refine ⟨_,rfl,_,rfl,sd,_,rfl,h7.k (k:=.inl ((0:Int)+i)) Ma (adO (show pQ.length≤1000 by omega) (by decide)),?_⟩
   have XD:bV pQ (.inl ((0:Int)+i))=none:=jh (fun z=>by
    rw [Nt.keys] at z
    obtain ⟨x',uH,e⟩:=abt.mp z
    have e1:(x'.1:Int)=0+i:=ag_ e
    have:x'.1∈(aen i).filter (free nd):=by rw [← Nu];exact abt.mpr ⟨x',uH,rfl⟩
    have:=aed.mp (aez.mp this).1
    omega)
   rw [cF _ XD,ad9]
   have s6:av H H6:=fun b o' e=>k6 _ _ (aq e Hd) (s5 _ _ e)
   have ksd:bg sd H6 (upd H6 sd (.dK (pQ++[(.inl (i:Int),.ref x)]))):=fun b o' n e=>by rw [ao n];exact e
   refine ⟨_,_,ss++[(i,qs)],rfl,fS s6 Nr,.inr ⟨o,by rw [ao ds];exact LV⟩,ah,(vA.ks FP k6).ks (.inl Ma) ksd,((Nt.ks FP k6).snoc QP Np).ks (.inl Ma) ksd,?_,fun x' uH => ?_⟩
   ·rw [adR,Nu,amL,am9]
    simp [fr]
   ·rcases adQ.mp uH with z | z
    ·exact Vm x' z
    ·rw [adJ.mp z]
     exact F
  ·have nf:∃y∈nd,y.1=i:=by
    apply aej
    intro z
    exact fr (eO.mpr fun y hy e=>z ⟨y,hy,e⟩)
   obtain ⟨y,hy,ey⟩:=nf
   obtain ⟨t,et⟩:=adD hy
   obtain ⟨v,ev,_⟩:=vA.at et
   have WL:=jg nk ev
   refine ⟨_,rfl,_,rfl,d,some v,rfl,.inl ⟨kvs,.inl ((0:Int)+i),FP,rfl,by rw [ad9, ← ey];exact WL.symm⟩,_,rfl,?_⟩
   refine bM (fun c=>nomatch c) (fun _=> ?_)
   refine ⟨_,_,ss,rfl,s5,FP,Kh,vA,Nt,?_,Vm⟩
   rw [Nu,amL,am9]
   simp [fr]
 ·rintro σ H5 ⟨o4,pQ,ss,rfl,s5,FP,Kh,vA,Nt,Nu,Vm⟩
  exact ⟨_,rfl,q sd pQ ss _ lv nd H5 s5 Nr Kh Nt XC RZ Nu Vm⟩
def fsum (l:List Nat)(f:Nat→Rat):Rat:=(l.map f).sum
theorem ck (a:Nat)(l:List Nat)(f:Nat→Rat):fsum (a::l) f=f a+fsum l f:=by simp [fsum]
theorem kH (p:Nat→Bool)(f:Nat→Rat):∀l:List Nat,fsum l f=fsum (l.filter p) f+fsum (l.filter fun i=> !p i) f
 | []=>by simp [fsum];grind
 | a::l=>by
  have ih:=kH p f l
  cases h:p a
  ·rw [amz (by simp [h]),amA (by simp [h]),ck,ck,ih]
   grind
  ·rw [amA h,amz (by simp [h]),ck,ck,ih]
   grind
theorem pR (f:Nat→Rat):∀l:List Nat,(∀i∈l,f i=0)→fsum l f=0
 | [],_=>rfl
 | a::l,h=>by
  rw [ck,h a adG,pR f l (fun i hi=>h i (adE _ hi))]
  grind
theorem nG (f:Nat→Rat)(j:Nat):∀l:List Nat,l.Nodup→j∈l→(∀i∈l,i≠j→f i=0)→fsum l f=f j
 | [],_,h,_=>nomatch h
 | a::l,n,h,z=>by
  rw [ad8] at n
  rw [ck]
  by_cases e:a=j
  ·subst e
   rw [pR f l (fun i hi=>z i (adE _ hi) (fun y=>n.1 (by rw [← y];exact hi)))]
   grind
  ·have hj:j∈l:=by
    rcases adY.mp h with y | y
    ·exact absurd y.symm e
    ·exact y
   rw [z a adG e,nG f j l n.2 hj (fun i hi=>z i (adE _ hi))]
   grind
theorem nH {f g:Nat→Rat}:∀l:List Nat,(∀i∈l,f i=g i)→fsum l f=fsum l g
 | [],_=>rfl
 | a::l,h=>by rw [ck,ck,h a adG,nH l (fun i hi=>h i (adE _ hi))]
theorem ud (c:Rat)(f:Nat→Rat):∀l:List Nat,fsum l (fun i=>c*f i)=c*fsum l f
 | []=>by simp [fsum]
 | a::l=>by
  rw [ck,ck,ud c f l]
  grind
theorem DW (g:Nat→Nat)(f:Nat→Rat)(l:List Nat):fsum (l.map g) f=fsum l (fun i=>f (g i)):=by
 unfold fsum
 rw [ad1]
 rfl
theorem nI:∀(n:Nat) (f:Nat→Rat),sumTo n f=fsum (aen n) f
 | 0,_=>rfl
 | n+1,f=>by
  rw [amE,ck,DW, ← nI n]
  rfl
theorem rl :vl (0,1)=0:=by
 unfold vl
 simp
 grind
theorem vN :vl (1,1)=1:=by
 unfold vl
 simp
 grind
theorem zM {os lv:List (List Int)}{m b j:Nat}{nd:List (Nat×List Int)}{ss:List (Nat×List (Int×Int))}{D:Nat→Rat}(R:Red os m m b nd lv)(hc:ss.map (·.1)=(aen m).filter (free nd))(hF:∀x∈ss,dR x.1 m nd.length nd x.2)(hz:∀o∈os,ev o D=0)(hj:j < m){g:Nat→Rat}(hg:∀x∈ss,∀q,x.2[j]? =some q→g x.1=vl q):fsum (ss.map (·.1)) (fun c=>D c*g c)=D j:=by
 have sol:=((R.sol D).mpr hz).1
 have mem:∀c,c∈ss.map (·.1)→c < m∧(∀y∈nd,y.1≠c)∧∃x∈ss,x.1=c:=fun c h=>by
  have h' :=h
  rw [hc] at h'
  obtain ⟨h1,h2⟩:=aez.mp h'
  obtain ⟨x,hx,e⟩:=abt.mp h
  exact ⟨aed.mp h1,eO.mp h2,x,hx,e⟩
 have nodup:(ss.map (·.1)).Nodup:=by
  rw [hc]
  exact ae7.filter _
 by_cases fr:free nd j=true
 ·have Vn :=eO.mp fr
  have jm:j∈ss.map (·.1):=by
   rw [hc]
   exact aez.mpr ⟨aed.mpr hj,fr⟩
  rw [nG _ j _ nodup jm ?_]
  ·obtain ⟨_,_,x,hx,e⟩:=mem j jm
   have f1:=(hF x hx).2.1
   rw [e] at f1
   have:=hg x hx _ f1
   rw [e,vN] at this
   rw [this]
   grind
  ·intro c LK nc
   obtain ⟨_,_,x,hx,e⟩:=mem c LK
   have f0:=(hF x hx).2.2.2 j hj (by rw [e];exact ad7 nc) (fun i _ y ey=>Vn y (aa_ ey))
   have:=hg x hx _ f0
   rw [e,rl] at this
   rw [this]
   grind
 ·have nf:∃y∈nd,y.1=j:=by
   apply aej
   intro z
   exact fr (eO.mpr fun y hy e=>z ⟨y,hy,e⟩)
  obtain ⟨y,hy,ey⟩:=nf
  obtain ⟨t,et⟩:=adD hy
  have ht:t < nd.length:=(be.mp et).1
  have e0:=sol y hy
  rw [gM m y.2 D (by rw [R.lh y hy];exact adL _),nI,kH (free nd), ← hc] at e0
  have hh:=R.here y hy
  rw [ey] at hh
  have hh' :=cw hh
  have e1:fsum ((aen m).filter fun i=> !free nd i) (fun i=>((y.2.getD i 0:Int):Rat)*D i)=((y.2.getD j 0:Int):Rat)*D j:=by
   refine nG _ j _ (ae7.filter _) (aez.mpr ⟨aed.mpr hj,by simp [fr]⟩) ?_
   intro i hi ni
   obtain ⟨h1,h2⟩:=aez.mp hi
   have nfi:∃u∈nd,u.1=i:=by
    apply aej
    intro z
    have:free nd i=true:=eO.mpr fun u hu e=>z ⟨u,hu,e⟩
    rw [this] at h2
    cases h2
   obtain ⟨u,hu,eu⟩:=nfi
   rw [← eu,R.off y hy u hu (by rw [ey,eu];exact ad7 ni)]
   simp
  rw [e1] at e0
  have e2:fsum (ss.map (·.1)) (fun c=>D c*g c)=(-1 / ((y.2.getD j 0:Int):Rat))*fsum (ss.map (·.1)) (fun i=>((y.2.getD i 0:Int):Rat)*D i):=by
   rw [← ud]
   refine nH _ fun c LK=> ?_
   obtain ⟨_,_,x,hx,e⟩:=mem c LK
   have f2:=(hF x hx).2.2.1 t ht y et
   rw [ey] at f2
   have k:=hg x hx _ f2
   rw [e,jZ hh] at k
   rw [k]
   push_cast
   grind
  rw [e2]
  grind
structure Mb (nd:List (Nat×List Int))(c:Nat)(z:Nat→Rat):Prop where
 one:z c=1
 at' :∀y∈nd,z y.1=(-(y.2.getD c 0):Int) / ((y.2.getD y.1 0:Int):Rat)
 no:∀j,j≠c→(∀y∈nd,y.1≠j)→z j=0
theorem Mb.sol {os lv:List (List Int)}{L m b c:Nat}{nd:List (Nat×List Int)}{z:Nat→Rat}(R:Red os L m b nd lv)(hc:c < m)(h:Mb nd c z)(fr:∀y∈nd,y.1≠c):∀o∈os,ev o z=0:=by
 refine (R.sol z).mp ⟨fun x hx=> ?_,fun l hl=> ?_⟩
 ·have e:z=fun j=>(if j=c then 1 else 0)+(if j=c then 0 else z j):=by
   funext j
   by_cases q:j=c
   ·rw [if_pos q,if_pos q,q,h.one]
    grind
   ·rw [if_neg q,if_neg q]
    grind
  rw [e,ve,j6 x.2 (fun j=>if j=c then 1 else 0) c (fun j hj=>by rw [if_neg hj];grind),j6 x.2 (fun j=>if j=c then 0 else z j) x.1 (fun j hj=> ?_)]
  ·have hh:=cw (R.here x hx)
   rw [if_pos rfl,if_neg (fr x hx),h.at' x hx]
   push_cast
   grind
  ·by_cases q:j=c
   ·rw [if_pos q]
    grind
   ·rw [if_neg q]
    by_cases y:∃u∈nd,u.1=j
    ·obtain ⟨u,hu,rfl⟩:=y
     rw [R.off x hx u hu (ad7 hj)]
     simp
    ·rw [h.no j q (fun u hu e=>y ⟨u,hu,e⟩)]
     grind
 ·refine lX l z fun j=> ?_
  by_cases hj:j < m
  ·rw [R.zero l hl j hj]
   simp
  ·rw [h.no j (by omega) (fun y hy e=>by have:=R.cols y hy;omega)]
   grind
theorem Mb.behind {os lv:List (List Int)}{L m b c:Nat}{nd:List (Nat×List Int)}{z:Nat→Rat}(R:Red os L m b nd lv)(h:Mb nd c z){j:Nat}(hj:c < j):z j=0:=by
 by_cases q:∃y∈nd,y.1=j
 ·obtain ⟨y,hy,rfl⟩:=q
  rw [h.at' y hy,R.low y hy c hj]
  simp [Rat.div_def]
 ·exact h.no j (by omega) (fun y hy e=>q ⟨y,hy,e⟩)
theorem ue:∀(m:Nat) (f g:Nat→Rat),(∀j,j < m→f j=g j)→Ty.sumTo m f=Ty.sumTo m g
 | 0,_,_,_=>rfl
 | m+1,f,g,h=>by
  simp only [Ty.sumTo]
  rw [h 0 (by omega),ue m (fun i=>f (i+1)) (fun i=>g (i+1)) (fun j hj=>h (j+1) (by omega))]
theorem Mc {ts:List Int}{qs:List (Int×Int)}{b:Int}{m:Nat}(h:gu ts qs b)(hm:qs.length=m)(z:Nat→Rat):ev ts z=(b:Rat)*sumTo m (fun j=>vl (qs.getD j (0,1))*z j):=by
 have hl:=h.1
 rw [gM m ts z (by omega), ← j8]
 refine ue m _ _ fun j hj=> ?_
 have e1:ts[j]? =some (ts[j]'(by omega)):=gE (by omega)
 have e2:qs[j]? =some (qs[j]'(by omega)):=gE (by omega)
 have w:=h.2 j _ _ e1 e2
 rw [getD_mem e1,w,adC,e2]
 show _=(b:Rat)*(vl (qs[j]'(by omega))*z j)
 grind
theorem xB {ts:List Int}{qs:List (Int×Int)}{b:Int}{m:Nat}(h:gu ts qs b)(hb:0 < b)(hm:qs.length=m)(z:Nat→Rat):ev ts z=0 ↔ sumTo m (fun j=>vl (qs.getD j (0,1))*z j)=0:=by
 rw [Mc h hm z]
 have fL :=cw (show b≠0 by omega)
 constructor <;> intro q <;> grind
theorem pS {T B m:Nat}{cE:List (List (Int×Int))}{os:List (List Int)}(om:uc T B m cE os)(len:∀qs∈cE,qs.length=m)(z:Nat→Rat):(∀o∈os,ev o z=0) ↔ ∀qs∈cE,sumTo m (fun j=>vl (qs.getD j (0,1))*z j)=0:=by
 have hl:=om.1
 constructor
 ·intro h qs hq
  obtain ⟨i,e⟩:=adD hq
  have hi:i < cE.length:=(be.mp e).1
  have e1:os[i]? =some (os[i]'(by omega)):=gE (by omega)
  obtain ⟨b,hb,wh⟩:=om.2 i _ qs e1 e
  exact (xB wh hb (len qs hq) z).mp (h _ (aa_ e1))
 ·intro h o ho
  obtain ⟨i,e⟩:=adD ho
  have hi:i < os.length:=(be.mp e).1
  have e1:cE[i]? =some (cE[i]'(by omega)):=gE (by omega)
  obtain ⟨b,hb,wh⟩:=om.2 i o _ e e1
  exact (xB wh hb (len _ (aa_ e1)) z).mpr (h _ (aa_ e1))
theorem getD_some {qs:List (Int×Int)}{j:Nat}{q:Int×Int}(e:qs[j]? =some q):qs.getD j (0,1)=q:=by
 rw [adC,e]
 rfl
theorem dR.z {os lv:List (List Int)}{L m b c:Nat}{nd:List (Nat×List Int)}{qs:List (Int×Int)}(R:Red os L m b nd lv)(F:dR c m nd.length nd qs):Mb nd c (fun j=>vl (qs.getD j (0,1))) where
 one:=by
  show vl (qs.getD c (0,1))=1
  rw [getD_some F.2.1,vN]
 at' :=fun y hy=>by
  obtain ⟨i,e⟩:=adD hy
  have hi:i < nd.length:=(be.mp e).1
  show vl (qs.getD y.1 (0,1))=_
  rw [getD_some (F.2.2.1 i hi y e),jZ (R.here y hy)]
 no:=fun j hj h=>by
  show vl (qs.getD j (0,1))=0
  by_cases z:j < m
  ·rw [getD_some (F.2.2.2 j z hj (fun i _ x e=>h x (aa_ e))),rl]
  ·rw [adC,ab_ (by rw [F.1];omega)]
   exact rl
theorem iJ (pins:List aE)(bars:List a8){k:Nat}{p:aE}(h:pins[k]? =some p)(j:Nat)(c:Rat×Rat→Rat)(hj:∀F,vl ((cK F pins).getD j (0,1))=c (mv F p.nm)):
  (fF (cp pins bars) j).map vl=(pins.flatMap fun q=>q.ws.map fun w=>c (mv (dP q.nm w) p.nm))++bars.map fun b=>c (mv (cI b) p.nm):=by
 have:=pM pins bars (fun _=>none) h j c hj
 unfold fF at this ⊢
 rw [adR,adR] at this
 exact (List.append_inj' this rfl).1
theorem nJ {pins:List aE}{bars:List a8}{T:Str→Rat}{U:Str→List Rat}{c:Rat×Rat→Rat}(c0:c (0,0)=0)(nd:(pins.map (·.nm)).Nodup)(hl:∀q∈pins,(U q.nm).length=q.ws.length){p:aE}(hp:p∈pins):
  sP ((pins.flatMap fun q=>U q.nm)++bars.map (fun b=>T b.nm)) ((pins.flatMap fun q=>q.ws.map fun w=>c (mv (dP q.nm w) p.nm))++bars.map fun b=>c (mv (cI b) p.nm))=b9 bars T U p c:=by
 have l1:(pins.flatMap fun q=>U q.nm).length=(pins.flatMap fun q=>q.ws.map fun w=>c (mv (dP q.nm w) p.nm)).length:=by
  clear hp nd
  induction pins with
  | nil=>rfl
  | cons q ps ih=>rw [adS,adS,adK,adK,ih fun r hr=>hl r (adE _ hr),hl q adG,Wp]
 have:=xw (L:=fun _=>none) (bars:=bars) (T:=T) c0 nd hl hp 0
 rw [gR _ _ (by rw [adK,adK,l1,Wp,Wp]),bT,dk] at this
 grind
theorem gS {pins:List aE}{U:Str→List Rat}(hl:∀q∈pins,(U q.nm).length=q.ws.length):(pins.flatMap fun q=>U q.nm).length=aQ pins:=by
 unfold aQ
 induction pins with
 | nil=>rfl
 | cons q ps ih=>rw [adS,adS,adK,adK,ih fun r hr=>hl r (adE _ hr),hl q adG]
def iK (pins:List aE)(bars:List a8)(T:Str→Rat)(U:Str→List Rat):Prop:=∀p∈pins,b9 bars T U p (·.1)=0∧b9 bars T U p (·.2)=0
theorem zN {pins:List aE}{bars:List a8}(g:dy pins bars){T:Str→Rat}{U:Str→List Rat}(hl:∀q∈pins,(U q.nm).length=q.ws.length)(h:∀j,j < 2*pins.length→sP ((pins.flatMap fun q=>U q.nm)++bars.map (fun b=>T b.nm)) ((fF (cp pins bars) j).map vl)=0):iK pins bars T U:=fun p hp=>by
 obtain ⟨k,ek⟩:=adD hp
 have hk:=(be.mp ek).1
 have one:∀(j:Nat) (c:Rat×Rat→Rat),j < 2*pins.length→c (0,0)=0→(∀F,vl ((cK F pins).getD j (0,1))=c (mv F p.nm))→b9 bars T U p c=0:=fun j c hj c0 hc=>by
  have:=h j hj
  rw [iJ pins bars ek j c hc,nJ c0 g.np hl hp] at this
  exact this
 exact ⟨one (2*k) (·.1) (by omega) rfl fun F=>(gj F ek).1,one (2*k+1) (·.2) (by omega) rfl fun F=>(gj F ek).2⟩
theorem vO:∀(rs:List Rat) (qs:List (Int×Int)),rs.length=qs.length→Ty.sumTo qs.length (fun j=>vl (qs.getD j (0,1))*rs.getD j 0)=sP rs (qs.map vl)
 | [],[],_=>by simp [Ty.sumTo,sP]
 | r::rs,q::qs,h=>by
  rw [ac_,bT, ← vO rs qs (by simpa using h),ad4]
  show vl q*r+Ty.sumTo qs.length (fun j=>vl (qs.getD j (0,1))*rs.getD j 0)=_
  grind
def fe (pins:List aE)(bars:List a8)(T:Str→Rat)(U:Str→List Rat):List Rat:=(pins.flatMap fun q=>U q.nm)++bars.map (fun b=>T b.nm)
theorem uf {pins:List aE}{bars:List a8}{T:Str→Rat}{U:Str→List Rat}(hl:∀q∈pins,(U q.nm).length=q.ws.length):(fe pins bars T U).length=aQ pins+bars.length:=by
 unfold fe
 rw [adK,gS hl,Wp]
theorem jy {pins:List aE}{bars:List a8}{T:Str→Rat}{U:Str→List Rat}(hl:∀q∈pins,(U q.nm).length=q.ws.length){k:Nat}{b:a8}(e:bars[k]? =some b):(fe pins bars T U)[aQ pins+k]? =some (T b.nm):=by
 unfold fe
 rw [adN (by rw [gS hl];omega),gS hl,amB,ir,e]
 rfl
theorem xC:∀{pins:List aE} {p:aE},p∈pins→∀{j:Nat},j < p.ws.length→∃i,i < aQ pins∧∀U:Str→List Rat,(∀q∈pins,(U q.nm).length=q.ws.length)→(pins.flatMap fun q=>U q.nm)[i]? =(U p.nm)[j]?
 | q::ps,p,hp,j,hj=>by
  rcases adY.mp hp with e | h
  ·subst e
   refine ⟨j,?_,fun U hl=> ?_⟩
   ·unfold aQ
    rw [adS,adK]
    omega
   ·rw [adS,adI (by rw [hl _ adG];exact hj)]
  ·obtain ⟨i,h1,h2⟩:=xC h hj
   refine ⟨q.ws.length+i,?_,fun U hl=> ?_⟩
   ·unfold aQ at h1 ⊢
    rw [adS,adK]
    omega
   ·rw [adS,adN (by rw [hl _ adG];omega),hl _ adG,amB]
    exact h2 U fun r hr=>hl r (adE _ hr)
theorem DX {pins:List aE}{bars:List a8}{p:aE}(hp:p∈pins){j:Nat}(hj:j < p.ws.length):∃i,i < aQ pins∧∀(T:Str→Rat) (U:Str→List Rat),(∀q∈pins,(U q.nm).length=q.ws.length)→(fe pins bars T U)[i]? =(U p.nm)[j]? :=by
 obtain ⟨i,h1,h2⟩:=xC hp hj
 refine ⟨i,h1,fun T U hl=> ?_⟩
 unfold fe
 rw [adI (by rw [gS hl];exact h1)]
 exact h2 U hl
theorem ug {pins:List aE}{bars:List a8}(g:dy pins bars){T:Str→Rat}{U:Str→List Rat}(hl:∀q∈pins,(U q.nm).length=q.ws.length)(h:iK pins bars T U):∀j,j < 2*pins.length→sP (fe pins bars T U) ((fF (cp pins bars) j).map vl)=0:=fun j hj=>by
 have hk:j / 2 < pins.length:=by omega
 have ek:pins[j / 2]? =some (pins[j / 2]'hk):=gE hk
 have mp:=aa_ ek
 have two:j=2*(j / 2)∨j=2*(j / 2)+1:=by omega
 rcases two with e | e
 ·rw [iJ pins bars ek j (·.1) (fun F=>by
   have:=(gj F ek).1
   rw [← e] at this
   exact this)]
  unfold fe
  rw [nJ rfl g.np hl mp]
  exact (h _ mp).1
 ·rw [iJ pins bars ek j (·.2) (fun F=>by
   have:=(gj F ek).2
   rw [← e] at this
   exact this)]
  unfold fe
  rw [nJ rfl g.np hl mp]
  exact (h _ mp).2
def IT (ws:List (Rat×Rat)):Prop:=∀us:List Rat,us.length=ws.length→sP us (ws.map (·.1))=0→sP us (ws.map (·.2))=0→∀u∈us,u=0
theorem IU {pins:List aE}{bars:List a8}{T:Str→Rat}{U:Str→List Rat}(wi:∀p∈pins,IT p.ws)(hl:∀q∈pins,(U q.nm).length=q.ws.length)(no:iK pins bars T U){c:Nat}(h1:(fe pins bars T U)[c]? =some 1)(h0:∀j r,c < j→(fe pins bars T U)[j]? =some r→r=0):aQ pins≤c:=by
 rcases Nat.lt_or_ge c (aQ pins) with z | z
 ·exfalso
  have tz:∀b∈bars,T b.nm=0:=fun b hb=>by
   obtain ⟨k,ek⟩:=adD hb
   exact h0 _ _ (by omega) (jy (T:=T) hl ek)
  have f0:∀(p:aE) (cc:Rat×Rat→Rat),b9 bars T U p cc=sP (U p.nm) (p.ws.map cc):=fun p cc=>by
   unfold b9
   have:(bars.map fun b=>T b.nm*cc (mv (cI b) p.nm))=bars.map fun _=>(0:Rat):=ad2 fun b hb=>by rw [tz b hb];grind
   rw [this]
   have s0:∀l:List a8,(l.map fun _=>(0:Rat)).sum=0:=fun l=>by
    induction l with
    | nil=>rfl
    | cons a l ih=>rw [ac_,ad3,ih];grind
   rw [s0]
   grind
  have uz:∀p∈pins,∀u∈U p.nm,u=0:=fun p hp=>wi p hp (U p.nm) (hl p hp) (by rw [← f0];exact (no p hp).1) (by rw [← f0];exact (no p hp).2)
  have m1:(1:Rat)∈pins.flatMap fun q=>U q.nm:=by
   have e:=h1
   unfold fe at e
   rw [adI (by rw [gS hl];exact z)] at e
   exact aa_ e
  obtain ⟨p,hp,hu⟩:=aer.mp m1
  have:=uz p hp 1 hu
  grind
 ·exact z
structure zO (K:Frag)(H:Hp)(pins:List aE)(bars:List a8)(dT dU:Addr)(kT kU:List (Key×V))(T:Str→Rat)(U:Str→List Rat)(N:Nat):Prop where
 hT:H dT=some (.dK kT)
 hU:H dU=some (.dK kU)
 zH:kT.map (·.1)=bars.map (fun b=>(aee b.nm:Key))
 zI:kU.map (·.1)=pins.map (fun p=>(aee p.nm:Key))
 tT:∀b∈bars,∃v,bV kT (.inr b.nm)=some v∧fJ K H v (T b.nm)
 tU:∀p∈pins,∃la vs,bV kU (.inr p.nm)=some (.ref la)∧H la=some (.lst vs)∧Paired (fJ K H) vs (U p.nm)
 lU:∀p∈pins,(U p.nm).length=p.ws.length
 zT:∀b∈bars,Zb N (T b.nm)
 zU:∀p∈pins,∀u∈U p.nm,Zb N u
 hN:N≤2000000
theorem zO.same {H H' :Hp}{pins:List aE}{bars:List a8}{dT dU:Addr}{kT kU:List (Key×V)}{T:Str→Rat}{U:Str→List Rat}{N:Nat}(h:zO K H pins bars dT dU kT kU T U N)(s:av H H'):zO K H' pins bars dT dU kT kU T U N:=⟨s _ _ h.hT,s _ _ h.hU,h.zH,h.zI,fun b hb=>by
 obtain ⟨v,a,b⟩:=h.tT b hb
 exact ⟨v,a,b.same s⟩,fun p hp=>by
 obtain ⟨la,vs,a,b,c⟩:=h.tU p hp
 exact ⟨la,vs,a,s _ _ b,Paired.bZ c fun _ _ z=>z.same s⟩,h.lU,h.zT,h.zU,h.hN⟩
theorem zO.Md {H:Hp}{pins:List aE}{bars:List a8}{dT dU:Addr}{kT kU:List (Key×V)}{T:Str→Rat}{U:Str→List Rat}{N:Nat}(h:zO K H pins bars dT dU kT kU T U N){b:a8}(hb:b∈bars):∃v,cL H dT (.str b.nm) (some v)∧fJ K H v (T b.nm):=by
 obtain ⟨v,a,c⟩:=h.tT b hb
 refine ⟨v,?_,c⟩
 have:=cL.k (k:=.inr b.nm) h.hT
 rw [a] at this
 exact this
theorem zO.QR {H:Hp}{pins:List aE}{bars:List a8}{dT dU:Addr}{kT kU:List (Key×V)}{T:Str→Rat}{U:Str→List Rat}{N:Nat}(h:zO K H pins bars dT dU kT kU T U N){p:aE}(hp:p∈pins):∃la vs,cL H dU (.str p.nm) (some (.ref la))∧H la=some (.lst vs)∧Paired (fJ K H) vs (U p.nm):=by
 obtain ⟨la,vs,a,b,c⟩:=h.tU p hp
 refine ⟨la,vs,?_,b,c⟩
 have:=cL.k (k:=.inr p.nm) h.hU
 rw [a] at this
 exact this
theorem dR.XE {os lv:List (List Int)}{L m b c:Nat}{nd:List (Nat×List Int)}{qs:List (Int×Int)}(R:Red os L m b nd lv)(F:dR c m nd.length nd qs):∀q∈qs,Sm b b q:=by
 intro q hq
 obtain ⟨j,hj⟩:=adD hq
 have WR:j < m:=by have:=(be.mp hj).1;rw [← F.1];exact this
 by_cases jc:j=c
 ·subst jc
  rw [F.2.1] at hj
  cases hj
  exact ⟨by decide,by decide,aeC,aeC⟩
 by_cases cc:∃(i:Nat) (x:Nat×List Int),nd[i]? =some x∧x.1=j
 ·obtain ⟨i,x,e,rfl⟩:=cc
  have hi:i < nd.length:=(be.mp e).1
  have h1:=F.2.2.1 i hi x e
  rw [hj] at h1
  cases h1
  have hm:=aa_ e
  exact qT (R.here x hm) (by rw [afv];exact R.AE x hm c) (R.AE x hm x.1)
 ·have h1:=F.2.2.2 j WR jc (fun i _ x e z=>cc ⟨i,x,e,z⟩)
  rw [hj] at h1
  cases h1
  exact ⟨by decide,by decide,aeg _,aeC⟩
theorem zP {H:Hp}{bW:List (List V)}{cE:List (List (Int×Int))}{T B m j:Nat}(h:fE K H bW cE)(sh:Shape T B m cE)(hj:j < m):cg K H (qV bW j) (fF cE j):=by
 refine ⟨by simp [qV,fF,h.1],fun i u q e1 e2=> ?_⟩
 unfold qV at e1
 unfold fF at e2
 rw [ir] at e1 e2
 obtain ⟨vs,ev,rfl⟩:=adM.mp e1
 obtain ⟨qs,eq,rfl⟩:=adM.mp e2
 have N:=h.2 i vs qs ev eq
 have hl:=(sh qs (aa_ eq)).1
 have lN:=N.1
 refine N.2 j _ _ ?_ ?_
 ·rw [adC,gE (by omega)];rfl
 ·rw [adC,gE (by omega)];rfl
abbrev jz:=Str×(Str→Rat)×(Str→List Rat)
def rm (K:Frag)(H:Hp)(pins:List aE)(bars:List a8)(d:Addr)(N:Nat)(kv:Key×V)(o:jz):Prop:=∃(p dT dU:Addr) (kT kU:List (Key×V)),kv=(.inr o.1,.ref p)∧H p=some (.tup [.ref dT,.ref dU])∧dT≠d∧dU≠d∧zO K H pins bars dT dU kT kU o.2.1 o.2.2 N
theorem dq {H H' :Hp}{d:Addr}{kvs:List (Key×V)}(r:Rd H d (.dK kvs))(k:bg d H H'):bC H H' :=fun b xs z=>by
 have n:∀{u:HO},H b=some u→(u=.tup xs∨∃o',u=.du o' (.tup xs))→b≠d:=fun {u} e c z=>by
  rw [z] at e
  rcases r with r | ⟨o,r⟩
  ·rw [r] at e
   cases e
   rcases c with c | ⟨_,c⟩ <;> cases c
  ·rw [r] at e
   cases e
   rcases c with c | ⟨_,c⟩ <;> cases c
 rcases z with z | ⟨o',z⟩
 ·exact .inl (k _ _ (n z (.inl rfl)) z)
 ·exact .inr ⟨o',k _ _ (n z (.inr ⟨o',rfl⟩)) z⟩
theorem zO.ks {H H' :Hp}{pins:List aE}{bars:List a8}{d dT dU:Addr}{kvs kT kU:List (Key×V)}{T:Str→Rat}{U:Str→List Rat}{N:Nat}(h:zO K H pins bars dT dU kT kU T U N)(r:Rd H d (.dK kvs))(k:bg d H H')(n1:dT≠d)(n2:dU≠d):zO K H' pins bars dT dU kT kU T U N:=
 ⟨k _ _ n1 h.hT,k _ _ n2 h.hU,h.zH,h.zI,fun b hb=>by
  obtain ⟨v,a,c⟩:=h.tT b hb
  exact ⟨v,a,c.aS (dq r k)⟩,fun p hp=>by
  obtain ⟨la,vs,a,c,e⟩:=h.tU p hp
  refine ⟨la,vs,a,k _ _ (fun z=> ?_) c,Paired.bZ e fun _ _ z=>z.aS (dq r k)⟩
  rw [z] at c
  rcases r with r | ⟨o,r⟩ <;> (rw [r] at c;cases c),h.lU,h.zT,h.zU,h.hN⟩
theorem rm.ks {H H' :Hp}{pins:List aE}{bars:List a8}{d:Addr}{N:Nat}{kv:Key×V}{o:jz}{kvs:List (Key×V)}(h:rm K H pins bars d N kv o)(r:Rd H d (.dK kvs))(k:bg d H H'):rm K H' pins bars d N kv o:=by
 obtain ⟨p,dT,dU,kT,kU,e,hp,n1,n2,pl⟩:=h
 refine ⟨p,dT,dU,kT,kU,e,k _ _ (fun z=> ?_) hp,n1,n2,pl.ks r k n1 n2⟩
 rw [z] at hp
 rcases r with r | ⟨o,r⟩ <;> (rw [r] at hp;cases hp)
theorem rm.same {H H' :Hp}{pins:List aE}{bars:List a8}{d:Addr}{N:Nat}{kv:Key×V}{o:jz}(h:rm K H pins bars d N kv o)(s:av H H'):rm K H' pins bars d N kv o:=by
 obtain ⟨p,dT,dU,kT,kU,e,hp,n1,n2,pl⟩:=h
 exact ⟨p,dT,dU,kT,kU,e,s _ _ hp,n1,n2,pl.same s⟩
structure DY (K:Frag)(H:Hp)(pins:List aE)(bars:List a8)(d:Addr)(kvs:List (Key×V))(os:List jz)(N:Nat):Prop where
 pr:Paired (rm K H pins bars d N) kvs os
 nk:(os.map (·.1)).Nodup
 XF:∀o∈os,o.1∈bars.map (·.nm)
 only:∀(T:Str→Rat) (U:Str→List Rat),iK pins bars T U→(∀q∈pins,(U q.nm).length=q.ws.length)→(∀b∈bars,T b.nm=(os.map fun o=>T o.1*o.2.1 b.nm).sum)∧∀p∈pins,∀j,j < p.ws.length→(U p.nm).getD j 0=(os.map fun o=>T o.1*(o.2.2 p.nm).getD j 0).sum
def xD (pins:List aE)(bars:List a8)(o:jz)(x:Nat×List (Int×Int)):Prop:=aQ pins≤x.1∧(∃b,bars[x.1 - aQ pins]? =some b∧o.1=b.nm)∧fe pins bars o.2.1 o.2.2=x.2.map vl∧∀q∈pins,(o.2.2 q.nm).length=q.ws.length
theorem nK {α:Type}{R:α→Nat×List (Int×Int)→Prop}{f:α→Rat}{h:Nat→Rat}(e:∀o x,R o x→f o=h x.1):∀{os:List α} {ss:List (Nat×List (Int×Int))},Paired R os ss→(os.map f).sum=fsum (ss.map (·.1)) h
 | _,_,.nil=>rfl
 | _,_,.cons a t=>by
  rw [ac_,ac_,ck,ad3,e _ _ a,nK e t]
theorem QS (h:Nat×List (Int×Int)→Rat):∀{ss:List (Nat×List (Int×Int))},(ss.map (·.1)).Nodup→∃g:Nat→Rat,∀y∈ss,g y.1=h y
 | [],_=>⟨fun _=>0,fun y hy=>nomatch hy⟩
 | x::r,n=>by
  rw [ac_,ad8] at n
  obtain ⟨g,hg⟩:=QS h n.2
  refine ⟨fun c=>if c=x.1 then h x else g c,fun y hy=> ?_⟩
  rcases adY.mp hy with z | z
  ·rw [z]
   exact if_pos rfl
  ·have ne:y.1≠x.1:=fun e=>n.1 (by rw [← e];exact abt.mpr ⟨y,z,rfl⟩)
   show (if y.1=x.1 then h x else g y.1)=_
   rw [if_neg ne]
   exact hg y z
theorem kI {α β:Type}{R:α→β→Prop}:∀{us:List α} {l:List β},Paired R us l→Paired (fun u a=>a∈l∧R u a) us l
 | _,_,.nil=>.nil
 | _,_,.cons h t=>.cons ⟨adG,h⟩ (Paired.bZ (kI t) fun _ _ z=>⟨adE _ z.1,z.2⟩)
def gx (pins:List aE)(bars:List a8):List (List (Int×Int)):=(aen (2*pins.length)).map fun j=>fF (cp pins bars) j
theorem pU {pins:List aE}{bars:List a8}(g:dy pins bars){os lv:List (List Int)}{nd:List (Nat×List Int)}{ss:List (Nat×List (Int×Int))}{Z:Nat}{ow:List jz}(om:uc 50 50 (aQ pins+bars.length) (gx pins bars) os)(R:Red os (aQ pins+bars.length) (aQ pins+bars.length) Z nd lv)(hc:ss.map (·.1)=(aen (aQ pins+bars.length)).filter (free nd))(hF:∀x∈ss,dR x.1 (aQ pins+bars.length) nd.length nd x.2)(pr:Paired (xD pins bars) ow ss){T:Str→Rat}{U:Str→List Rat}(no:iK pins bars T U)(hl:∀q∈pins,(U q.nm).length=q.ws.length){j:Nat}(hj:j < aQ pins+bars.length):(fe pins bars T U).getD j 0=(ow.map fun o=>T o.1*(fe pins bars o.2.1 o.2.2).getD j 0).sum:=by
 have dl:(cp pins bars).length=aQ pins+bars.length:=hG pins bars
 have len:∀qs∈gx pins bars,qs.length=aQ pins+bars.length:=fun qs hq=>by
  obtain ⟨i,_,rfl⟩:=abt.mp hq
  unfold fF
  rw [Wp,dl]
 have nodup:(ss.map (·.1)).Nodup:=by
  rw [hc]
  exact ae7.filter _
 have hz:∀o∈os,ev o (fun i=>(fe pins bars T U).getD i 0)=0:=(pS om len _).mpr fun qs hq=>by
  have lq:=len qs hq
  obtain ⟨i,hi,rfl⟩:=abt.mp hq
  rw [← lq,vO _ _ (by rw [lq];exact uf hl)]
  exact ug g hl no i (aed.mp hi)
 obtain ⟨gg,hg⟩:=QS (fun x=>vl (x.2.getD j (0,1))) nodup
 have key:=zM (D:=fun i=>(fe pins bars T U).getD i 0) R hc hF hz hj (g:=gg) (fun x hx q e=>by
  rw [hg x hx,adC,e]
  rfl)
 rw [← key]
 refine (nK (R:=fun o x=>x∈ss∧xD pins bars o x) (fun o x hx=> ?_) (kI pr)).symm
 obtain ⟨mx,wc,⟨b,eb,en⟩,al,_⟩:=hx
 have lx:x.2.length=aQ pins+bars.length:=(hF x mx).1
 rw [hg x mx,al,en]
 have e1:(fe pins bars T U).getD x.1 0=T b.nm:=by
  have:=jy (T:=T) hl eb
  rw [show aQ pins+(x.1 - aQ pins)=x.1 by omega] at this
  rw [adC,this]
  rfl
 show T b.nm*_=(fe pins bars T U).getD x.1 0*_
 rw [e1]
 congr 1
 rw [adC,adC,ir,gE (show j < x.2.length by omega)]
 rfl
theorem gT {α β:Type}{F:α→β→Prop}:∀{l₁:List α} {l₂:List β} {a:α} {b:β},Paired F l₁ l₂→F a b→Paired F (l₁++[a]) (l₂++[b])
 | _,_,_,_,.nil,h=>.cons h .nil
 | _,_,_,_,.cons h t,h' =>.cons h (gT t h')
theorem DZ {pins:List aE}{bars:List a8}(g:dy pins bars)(wi:∀p∈pins,IT p.ws){os lv:List (List Int)}{nd:List (Nat×List Int)}{Z:Nat}(om:uc 50 50 (aQ pins+bars.length) (gx pins bars) os)(R:Red os (aQ pins+bars.length) (aQ pins+bars.length) Z nd lv){x:Nat×List (Int×Int)}(F:dR x.1 (aQ pins+bars.length) nd.length nd x.2)(fr:∀y∈nd,y.1≠x.1)(hc:x.1 < aQ pins+bars.length){T:Str→Rat}{U:Str→List Rat}(hl:∀q∈pins,(U q.nm).length=q.ws.length)(e:fe pins bars T U=x.2.map vl):aQ pins≤x.1:=by
 have dl:(cp pins bars).length=aQ pins+bars.length:=hG pins bars
 have len:∀qs∈gx pins bars,qs.length=aQ pins+bars.length:=fun qs hq=>by
  obtain ⟨i,_,rfl⟩:=abt.mp hq
  unfold fF
  rw [Wp,dl]
 have hz:=dR.z R F
 have ez:∀i,(x.2.map vl).getD i 0=vl (x.2.getD i (0,1)):=fun i=>by
  rw [adC,adC,ir]
  cases x.2[i]? with
  | none=>exact rl.symm
  | some q=>rfl
 have sol:=(pS om len _).mp (Mb.sol R hc hz fr)
 have no:iK pins bars T U:=zN g hl fun j hj=>by
  have lq:(fF (cp pins bars) j).length=aQ pins+bars.length:=by
   unfold fF
   rw [Wp,dl]
  have:=sol (fF (cp pins bars) j) (abt.mpr ⟨j,aed.mpr hj,rfl⟩)
  show sP (fe pins bars T U) _=0
  rw [← vO _ _ (by rw [lq];exact uf hl),lq,e]
  refine Eq.trans ?_ this
  congr 1
  funext i
  rw [ez]
 refine IU (T:=T) wi hl no ?_ fun j r hj er=> ?_
 ·rw [e,ir,F.2.1]
  show some (vl (1,1))=some 1
  rw [vN]
 ·rw [e,ir] at er
  obtain ⟨q,eq,rfl⟩:=adM.mp er
  have:=Mb.behind R hz hj
  rw [show x.2.getD j (0,1)=q by rw [adC,eq];rfl] at this
  exact this
inductive D_ (K:Frag)(C:Addr)(vs:List V)(H:Hp)(Q:VK)(E_:XK):Prop where
 | mk (a:Addr) (pins:List aE) (bars:List a8) (_:vs=[.ref a]) (_:yr K H C a pins bars) (_:dy pins bars) (_:(∀p∈pins,IT p.ws)) (_:∀(d:Addr) (kvs:List (Key×V)) (os:List jz) (H' :Hp),av H H' →H d=none→H' d=some (.dK kvs)→DY K H' pins bars d kvs os 40000→Q (.ref d) H'):D_ K C vs H Q E_
theorem cD:aG ["F","rows","bars","ways","spares","column","numbers"] ["F"] (af c7):=sq
theorem rn {C:Addr}(D:Def K mg "spares_of" c7 ["F"])(ba:mg "len"=none)(MP:bK P w K mg base (a_ P w) 1 C "pins" ["self"] (fG K C))(MB:bK P w K mg base (a_ P w) 1 C "bars" ["self"] (kb K C))
  (L8:Fn P w K mg base (a_ P w) 38 "draw_rows" ["F"] (gf K C)) (LO:Fn P w K mg base (a_ P w) 1 "turned" ["rows","many"] jn) (lj:Fn P w K mg base (a_ P w) 36 "spare_columns" ["rows","many"] (nF K)) (L9:Fn P w K mg base (a_ P w) 3 "pulls_and_pushes" ["F","numbers"] (IL K C)):
  Fn P w K mg base (a_ P w) 39 "spares_of" ["F"] (D_ K C):=by
 refine D.ok cD (fun vs H Q E h=> ?_) (fun f bD A outer s H vs Q E hr h=> ?_)
 ·obtain ⟨a,pins,bars,rfl,_⟩:=h
  rfl
 obtain ⟨a,pins,bars,rfl,R,g,wi,q⟩:=h
 have gl:=g.lp
 have gb:=g.lb
 have wl:aQ pins≤2*pins.length:=js pins g.lw
 have dl:(cp pins bars).length=aQ pins+bars.length:=hG pins bars
 refine ⟨_,(ae (ay (i:=1) cD.nd rfl (adH rfl) (aC L8 hr.mo (pY P w) (au (pv 0) aa)))
  (ae (ay (i:=2) cD.nd rfl (adH rfl) (dh (k:=1) (pv 0) hr.mo (pY P w)))
  (ae (ay (i:=3) cD.nd rfl (adH rfl) (aI cG (aT aJ rfl ba b7 (au (pv 1) aa)) (aT aJ rfl ba b7 (au (pv 2) aa))))
  (ae (ay (i:=4) cD.nd rfl (adH rfl) cV)
  (ae (jb (bq PassesOwn.never rfl (mS (aC lj hr.mo (pY P w) (au (aC LO hr.mo (pY P w) (au (pv 1) (au (aI cC ag (aT aJ rfl ba b7 (au (dh (k:=1) (pv 0) hr.mo (pY P w)) aa))) aa))) (au (aT aJ rfl ba b7 (au (pv 1) aa)) aa)))) (fW rfl (bo (aH (i:=5) cD.nd rfl (adH rfl)) (bo (aH (i:=6) cD.nd rfl (adH rfl)) dc))) (aj (di (b6 hr) (pv 4) (aU aK (pv 2) (aI cG (pv 5) (pv 3)) (fun _ _=>rfl)) (aC L9 hr.mo (pY P w) (au (pv 0) (au (pv 6) aa))) rfl))))
  (aj (aL (pv 4)))))))),?_⟩
 refine ⟨_,rfl,a,pins,bars,rfl,R,g,fun r ls bW H1 s1 nr RR=> ?_⟩
 obtain ⟨dx,pP,pW,pB,kP,kW,kB,F0,W0⟩:=R.ex
 have F1:=F0.same s1
 refine ⟨_,rfl,a,C,dx,_,_,_,rfl,F1.obj,rfl,MB,a,dx,pP,pW,pB,_,_,kP,kW,kB,rfl,F1,fun lb H2 s2 Vj DM=> ?_⟩
 rw [q_] at DM
 have RR2:=RR.same s2
 refine ⟨_,rfl,r,_,rfl,.inl (aV.of RR2.iY.1),_,rfl,lb,_,rfl,.inl (aV.of DM),_,_,rfl,rfl,?_⟩
 intro d CZ;generalize eX:upd _ d _=H3;have ⟨s3,e3⟩:=nw CZ eX;clear eX
 have QK:=RR2.same s3
 have F3:=F1.same (s2.trans s3)
 have IV:=s1.trans (s2.trans s3)
 have nmp:((pins.map fun p=>(p.nm,rX p.sp)).map (·.1))=pins.map (·.nm):=by rw [ad1];rfl
 have IQ:ls.length=aQ pins+bars.length:=by rw [RR.iY.2.1,RR.num.1,dl]
 refine ⟨_,rfl,_,rfl,a,C,dx,_,_,_,rfl,F3.obj,rfl,MP,a,dx,pP,pW,pB,_,_,kP,kW,kB,rfl,F3,fun lp H4 s4 uL oF=> ?_⟩
 rw [nmp] at oF
 have Vo:=QK.same s4
 have sz4:((pins.map (·.nm)).map V.str).length=pins.length:=by rw [Wp,Wp]
 have c2:oY 2 ((pins.length:Nat):Int):=⟨by decide+kernel,adF (intBits_le_64 (by omega) (by omega)) (by decide)⟩
 refine ⟨lp,_,rfl,.inl (aV.of oF),_,_,rfl,rfl,(by rw [Wp,Wp];exact c2),?_⟩
 have em:(2*((((pins.map (·.nm)).map V.str).length:Nat):Int))=((2*pins.length:Nat):Int):=by rw [sz4];omega
 refine ⟨r,ls,bW,((2*pins.length:Nat):Int),congrArg (fun i:Int=>[V.ref r,V.int i]) em,Vo.iY,by omega,by omega,by omega,fun vs hv=> ?_,fun c cs H5 s5 M5=> ?_⟩
 ·obtain ⟨i,ei⟩:=adD hv
  have hi:=(be.mp ei).1
  have l1:=Vo.num.1
  obtain ⟨qs,eq⟩:∃qs,(cp pins bars)[i]? =some qs:=⟨_,gE (by omega)⟩
  have l2:=(Vo.num.2 i vs qs ei eq).1
  have l3:=(gk g qs (aa_ eq)).1
  omega
 rw [am'] at M5
 have Vl:=Vo.same s5
 refine ⟨_,rfl,r,_,rfl,.inl (aV.of Vl.iY.1),?_⟩
 have emm:(((ls.map V.ref).length:Nat):Int)=((aQ pins+bars.length:Nat):Int):=by rw [Wp,IQ]
 have sh:Shape 50 50 (2*pins.length) (cp pins bars):=gk g
 have NK:fE K H5 (gv bW (2*pins.length)) (gx pins bars):=⟨by unfold gv gx;simp,fun i vs qs e1 e2=>by
  unfold gv at e1
  unfold gx at e2
  rw [ir] at e1 e2
  obtain ⟨j,ej,rfl⟩:=adM.mp e1
  rw [ej] at e2
  cases e2
  exact zP Vl.num sh (aed.mp (aa_ ej))⟩
 have shc:Shape 50 50 (aQ pins+bars.length) (gx pins bars):=fun qs hq=>by
  obtain ⟨j,hj,rfl⟩:=abt.mp hq
  refine ⟨by unfold fF;rw [Wp,dl],LL sh (aed.mp hj)⟩
 have lcq:(gx pins bars).length=2*pins.length:=by unfold gx;simp
 have zz:bb (50+50*(aQ pins+bars.length)) (min (aQ pins+bars.length) (gx pins bars).length)≤40000:=by
  unfold bb
  rw [lcq]
  have h1:min (aQ pins+bars.length) (2*pins.length)+1≤19:=by omega
  have h2:50+50*(aQ pins+bars.length)+11≤1661:=by omega
  exact adF (aep h1 h2) (by decide)
 refine ⟨c,aQ pins+bars.length,cs,_,gx pins bars,50,50,40000,congrArg (fun i:Int=>[V.ref c,V.int i]) emm,M5,NK,shc,by omega,by omega,by decide,by omega,by decide,zz,by decide,fun sd pQ ss os lv nd H6 s6 Nq Kh hSp om RZ HZ hF=> ?_⟩
 have eW:((((ls.map V.ref).length:Nat):Int) - ((((bars.map (·.nm)).map V.str).length:Nat):Int))=(aQ pins:Int):=by
  rw [Wp,Wp,Wp,IQ]
  omega
 have vH:=s4.trans (s5.trans s6)
 have Vp:=IV.trans vH
 have Nr:H sd=none:=(IV.trans (s4.trans s5)).free Nq
 have Hd:H d=none:=(s1.trans s2).free CZ
 have ed6:=vH _ _ e3
 have Me:=vH _ _ (s3 _ _ DM)
 have QM:d≠sd:=fun z=>by
  have:=(s4.trans s5) _ _ e3
  rw [z,Nq] at this
  cases this
 refine ⟨sd,pQ,rfl,Kh,fun o=> ?_⟩
 have k0:bg sd H6 (upd H6 sd (.du o (.dK pQ))):=fun b o' n e=>by rw [ao n];exact e
 have lsk:pQ.length=ss.length:=hSp.1
 have Nj:ss.length≤aQ pins+bars.length:=by
  have:=congrArg aeE HZ
  rw [Wp] at this
  have h2:=ae0 (free nd) (aen (aQ pins+bars.length))
  rw [aj_] at h2
  omega
 have nodup:(ss.map (·.1)).Nodup:=by
  rw [HZ]
  exact ae7.filter _
 refine g6 (d:=sd) (o:=o) (kvs:=pQ) (fun t σ H' =>∃(o5 o6:Option V) (kvs:List (Key×V)) (ow:List jz),σ=[some (.ref a),some (.ref r),some (.ref lb),some (.int ((((ls.map V.ref).length:Nat):Int) - ((((bars.map (·.nm)).map V.str).length:Nat):Int))),some (.ref d),o5,o6]∧av H H' ∧H' lb=some (.lst ((bars.map (·.nm)).map V.str))∧xA K H' pQ ss∧H' sd=some (.du o (.dK pQ))∧H' d=some (.dK kvs)∧Paired (rm K H' pins bars d 40000) kvs ow∧Paired (xD pins bars) ow (ss.take t)∧(ow.map (·.1)).Nodup) ⟨none,none,[],[],rfl,fun b o' e=>k0 _ _ (aq e Nr) (Vp _ _ e),k0 _ _ (fun z=>by rw [z,Kh] at Me;cases Me) Me,hSp.ks (.inl Kh) k0,ah,k0 _ _ QM ed6,.nil,by simpa using Paired.nil,amV⟩ (fun t σ H' _ h=>by
   obtain ⟨_,_,_,_,_,_,_,_,h,_⟩:=h
   exact h) ?_ ?_
 ·rintro t k y σ H7 p7 m5 ⟨o5,o6,kvs,ow,rfl,s7,D',XG,QT,d7,QU,Ki,XH⟩ n7
  have ht:t < pQ.length:=(be.mp m5).1
  obtain ⟨x,ex⟩:∃x,ss[t]? =some x:=⟨_,gE (by omega)⟩
  have mx:=aa_ ex
  obtain ⟨ek,lx,us,ey,hlx,hus⟩:=XG.2 t (k,y) x m5 ex
  have ek' :k=.inl (x.1:Int):=ek
  have AD :y=.ref lx:=ey
  subst ek'
  subst AD
  have t7:=aD n7 (.tup [kV (.inl (x.1:Int)),.ref lx])
  have e7:(upd H7 p7 (.tup [kV (.inl (x.1:Int)),.ref lx])) p7=some (.tup [kV (.inl (x.1:Int)),.ref lx]):=ah
  generalize upd H7 p7 (.tup [kV (.inl (x.1:Int)),.ref lx])=H8 at t7 e7 ⊢
  have s8:=s7.trans t7
  refine ⟨p7,_,rfl,cf.of e7,rfl,_,_,rfl,_,_,rfl,rfl,?_⟩
  have cx:x.1 < aQ pins+bars.length∧∀y∈nd,y.1≠x.1:=by
   have:x.1∈ss.map (·.1):=abt.mpr ⟨x,mx,rfl⟩
   rw [HZ] at this
   obtain ⟨h1,h2⟩:=aez.mp this
   exact ⟨aed.mp h1,eO.mp h2⟩
  have Fx:=hF x mx
  have smx:=dR.XE RZ Fx
  have lxx:x.2.length=aQ pins+bars.length:=Fx.1
  refine ⟨_,rfl,_,rfl,a,lx,pins,bars,us,x.2.map vl,rfl,R.same s8,g,t7 _ _ hlx,jx (hus.same t7) smx,by rw [Wp];exact lxx,fun T U L p dT dU kT kU H9 s9 er hp9 pr=> ?_⟩
  have al:fe pins bars T U=x.2.map vl:=er.symm
  have wc:=DZ g wi om RZ Fx cx.2 cx.1 pr.lU al
  have hb:x.1 - aQ pins < bars.length:=by omega
  obtain ⟨b,eb⟩:∃b,bars[x.1 - aQ pins]? =some b:=⟨_,gE hb⟩
  have mb:=aa_ eb
  have Vq:=t7.trans s9
  have d9:=Vq _ _ d7
  have ai:fU ((bars.map (·.nm)).map V.str) ((x.1:Int) - ((((ls.map V.ref).length:Nat):Int) - ((((bars.map (·.nm)).map V.str).length:Nat):Int)))=some (.str b.nm):=by
   rw [eW,show (x.1:Int) - (aQ pins:Int)=((x.1 - aQ pins:Nat):Int) by omega]
   exact bh (by rw [ir,ir,eb];rfl)
  have lk:kvs.length=ow.length:=Paired.length QU
  have lo:ow.length=t:=by
   have:=Paired.length Ki
   rw [adZ] at this
   omega
  refine ⟨_,rfl,_,rfl,_,rfl,_,rfl,_,_,rfl,rfl,lb,_,_,_,rfl,rfl,aV.of (Vq _ _ D'),ai,d,_,rfl,h7.k (k:=.inr b.nm) d9 (adO (show kvs.length≤1000 by omega) (by decide)),?_⟩
  have hnm:∀(i:Nat) (o1:jz),ow[i]? =some o1→o1.1≠b.nm:=fun i o1 eo en0=>by
   obtain ⟨x',F_,w1,⟨b',tZ,en⟩,_⟩:=aF Ki eo
   have hi:i < t:=by
    have:=(be.mp F_).1
    rw [adZ] at this
    omega
   rw [amt hi] at F_
   have f1:(bars.map (·.nm))[x.1 - aQ pins]? =some b.nm:=by rw [ir,eb];rfl
   have f2:(bars.map (·.nm))[x'.1 - aQ pins]? =some b.nm:=by rw [ir,tZ, ← en0,en];rfl
   have e4:=dH g.nb f1 f2
   have f3:(ss.map (·.1))[t]? =some x.1:=by rw [ir,ex];rfl
   have f4:(ss.map (·.1))[i]? =some x.1:=by
    rw [ir,F_]
    show some x'.1=some x.1
    congr 1
    omega
   have:=dH nodup f3 f4
   omega
  have Pk:bV kvs (.inr b.nm)=none:=jh fun z=>by
   obtain ⟨kv,XI,QV⟩:=abt.mp z
   obtain ⟨i,ei⟩:=adD XI
   obtain ⟨ox,eo,⟨_,_,_,_,_,XJ,_⟩⟩:=aF QU ei
   rw [XJ] at QV
   exact hnm i ox eo (aem QV)
  have nod:((ow++[(b.nm,T,U)]).map (·.1)).Nodup:=by
   rw [adR,aeS]
   refine ⟨XH,by simp,fun a1 h1 b1 h2 z=> ?_⟩
   obtain ⟨o1,ho,e1⟩:=abt.mp h1
   obtain ⟨i,ei⟩:=adD ho
   have h3:b1=b.nm:=by simpa using h2
   exact hnm i o1 ei (by rw [e1,z,h3])
  rw [cF _ Pk]
  have ks:bg d H9 (upd H9 d (.dK (kvs++[(.inr b.nm,.ref p)]))):=fun b' o' n e=>by rw [ao n];exact e
  have zm:∀r∈x.2.map vl,Zb 40000 r:=fun r hr=>by
   obtain ⟨q',i6,rfl⟩:=abt.mp hr
   exact DR (m:=0) (smx q' i6) (adL _) (adL _)
  have d8:=t7 _ _ d7
  have nw:rm K H9 pins bars d 40000 (.inr b.nm,.ref p) (b.nm,T,U):=⟨p,dT,dU,kT,kU,rfl,hp9,(fun z=>by
    have:=pr.nT
    rw [z,d8] at this
    cases this),(fun z=>by
    have:=pr.nU
    rw [z,d8] at this
    cases this),⟨pr.hT,pr.hU,pr.zH,pr.zI,pr.tT,fun q' i6 =>by
    obtain ⟨vs,a1,_,c1,d1⟩:=pr.tU q' i6
    exact ⟨_,vs,a1,c1,d1⟩,pr.lU,fun b' fL =>zm _ (by rw [← al];exact adQ.mpr (.inr (abt.mpr ⟨b',fL,rfl⟩))),fun q' i6 u hu=>zm _ (by rw [← al];exact adQ.mpr (.inl (aer.mpr ⟨q',i6,hu⟩))),by decide⟩⟩
  refine ⟨_,_,kvs++[(.inr b.nm,.ref p)],ow++[(b.nm,T,U)],rfl,fun b' o' e=> ?_,?_,((XG.same t7).same s9).ks (.inl d9) ks,?_,ah,gT (Paired.bZ QU fun _ _ z=>((z.same t7).same s9).ks (.inl d9) ks) (nw.ks (.inl d9) ks),?_,nod⟩
  ·exact ks _ _ (aq e Hd) (s9 _ _ (s8 _ _ e))
  ·exact ks _ _ (fun z=>by rw [z,d7] at D';cases D') (Vq _ _ D')
  ·exact ks _ _ (ad7 QM) (Vq _ _ QT)
  ·rw [take_snoc ex]
   exact gT Ki ⟨wc,⟨b,eb,rfl⟩,al,pr.lU⟩
 ·rintro σ H7 ⟨o5,o6,kvs,ow,rfl,s7,D',XG,QT,d7,QU,Ki,XH⟩
  rw [lsk,aea] at Ki
  have kS:bg sd H7 (upd H7 sd (.dK pQ)):=fun b' o' n e=>by rw [ao n];exact e
  have ne:∀{b' :Addr} {u:HO},H7 b' =some u→(∀o',u≠.du o' (.dK pQ))→b' ≠sd:=fun {b' u} e n z=>by
   rw [z,QT] at e
   cases e
   exact n o rfl
  have XM:∀o1∈ow,∃x,x∈ss∧xD pins bars o1 x:=fun o1 ho=>by
   obtain ⟨i,ei⟩:=adD ho
   obtain ⟨x,ex,h⟩:=aF Ki ei
   exact ⟨x,aa_ ex,h⟩
  refine ⟨sd,o,pQ,QT,fun o' u' z=>(by have z' :H sd=some (.du o' u'):=z;rw [Nr] at z';cases z'),_,rfl,?_⟩
  refine q d kvs ow _ (fun b' o' e=>kS _ _ (aq e Nr) (s7 _ _ e)) Hd (kS _ _ QM d7) ⟨Paired.bZ QU fun kv o1 z=> ?_,XH,fun o1 ho=> ?_,fun T U no hl=>⟨fun b hb=> ?_,fun p hp j hj=> ?_⟩⟩
  ·obtain ⟨p,dT,dU,kT,kU,e,hp,n1,n2,pl⟩:=z
   exact ⟨p,dT,dU,kT,kU,e,kS _ _ (ne hp fun o' z=>by cases z) hp,n1,n2,pl.ks (.inr ⟨o,QT⟩) kS (ne pl.hT fun o' z=>by cases z) (ne pl.hU fun o' z=>by cases z)⟩
  ·obtain ⟨x,_,_,⟨b,eb,en⟩,_⟩:=XM o1 ho
   rw [en]
   exact abt.mpr ⟨b,aa_ eb,rfl⟩
  ·obtain ⟨k,ek⟩:=adD hb
   have hk:=(be.mp ek).1
   have key:=pU g om RZ HZ hF Ki no hl (j:=aQ pins+k) (by omega)
   rw [adC,jy hl ek] at key
   rw [show T b.nm=(some (T b.nm)).getD 0 from rfl,key]
   congr 1
   refine ad2 fun o1 ho=> ?_
   obtain ⟨x,_,_,_,_,lo⟩:=XM o1 ho
   rw [adC,jy lo ek]
   rfl
  ·obtain ⟨i,hi,hw⟩:=DX (bars:=bars) hp hj
   have key:=pU g om RZ HZ hF Ki no hl (j:=i) (by omega)
   rw [adC,hw T U hl, ← adC] at key
   rw [key]
   congr 1
   refine ad2 fun o1 ho=> ?_
   obtain ⟨x,_,_,_,_,lo⟩:=XM o1 ho
   rw [adC,hw _ _ lo, ← adC]
def cell (ns:List Int)(k:Int):Int:=if k < (ns.length:Int) then (ns[k.toNat]?).getD 0 else ((((k+5)*(k+5)*48271).fmod 2147483647)*(((k+5)*(k+5)*48271).fmod 2147483647)).fmod 2147483629
theorem mf {x m:Int}(h:0 < m):0≤x.fmod m∧x.fmod m < m:=⟨aeV x h,afu x h⟩
inductive nN (K:Frag)(vs:List V)(H:Hp)(Q:VK)(E_:XK):Prop where
 | mk (a:Addr) (ns:List Int) (k:Int) (_:vs=[.ref a,.int k]) (_:aV K H a (ns.map V.int)) (_:0≤k) (_:k≤1000) (_:Q (.int (cell ns k)) H):nN K vs H Q E_
theorem cell_in {ns:List Int}{k:Int}(h0:0≤k)(h:k < (ns.length:Int)):fU (ns.map V.int) k=some (.int (cell ns k)):=by
 have hk:k.toNat < ns.length:=by omega
 have ek:k=((k.toNat:Nat):Int):=by omega
 have q:fU (ns.map V.int) ((k.toNat:Nat):Int)=some (.int (cell ns k)):=bh (by
  unfold cell
  rw [if_pos h,ir,gE hk]
  rfl)
 rw [← ek] at q
 exact q
theorem iL {i:Int}{k:Nat}(h:i.natAbs < 2^k):intBits i≤k:=intBits_le_iff.mpr h
theorem Kj:aG ["_law_script","_law_k","_law_part"] ["_law_script","_law_k"] (af yR):=sq
theorem QW (D:Def K mg "_law_cell_at" yR ["_law_script","_law_k"])(ba:mg "len"=none):Fn P w K mg base CX 1 "_law_cell_at" ["_law_script","_law_k"] (nN K):=by
 refine D.ok Kj (fun vs H Q E h=> ?_) (fun f bD A outer s H vs Q E hr h=> ?_)
 ·obtain ⟨a,ns,k,rfl,_⟩:=h
  rfl
 obtain ⟨a,ns,k,rfl,hS,h0,h1,q⟩:=h
 refine ⟨_,(ae (bG (bf si (pv 1) (aT aJ rfl ba b7 (au (pv 0) aa)) (bu _)) (aj (aL (aU aK (pv 0) (pv 1) (fun _ _=>rfl)))) aY)
  (ae (ay (i:=2) Kj.nd rfl (adH rfl) (aI dW (aI cC (aI cC (aI bU (pv 1) ag) (aI bU (pv 1) ag)) ag) ag))
  (aj (aL (aI dW (aI cC (pv 2) (pv 2)) ag))))),?_⟩
 have hl:(ns.map V.int).length=ns.length:=Wp _
 refine ⟨_,rfl,_,rfl,a,_,rfl,.inl hS,_,_,rfl,rfl,_,rfl,?_⟩
 refine bM (fun c=> ?_) (fun c=> ?_)
 ·have c' :k < (((ns.map V.int).length:Nat):Int):=of_decide_eq_true c
  rw [hl] at c'
  exact ⟨_,rfl,_,rfl,a,_,k,_,rfl,rfl,hS,cell_in h0 c',q⟩
 ·have c' :¬ k < (((ns.map V.int).length:Nat):Int):=of_decide_eq_false (afh.mpr c)
  rw [hl] at c'
  have b5:intBits (k+5)≤11:=iL (by show _ < 2048;omega)
  have e1:=mf (x:=(k+5)*(k+5)*48271) (m:=2147483647) (by decide)
  have bp:intBits (((k+5)*(k+5)*48271).fmod 2147483647)≤31:=iL (by show _ < 2147483648;omega)
  refine ⟨_,rfl,_,_,rfl,rfl,_,rfl,_,_,rfl,rfl,_,_,rfl,rfl,⟨adF b5 (by decide),adF b5 (by decide)⟩,?_⟩
  refine ⟨_,_,rfl,rfl,⟨adF (intBits_mul_le b5 b5) (by decide),by decide+kernel⟩,_,_,rfl,rfl,nz (by decide),?_⟩
  refine ⟨_,rfl,_,rfl,_,_,rfl,rfl,⟨adF bp (by decide),adF bp (by decide)⟩,_,_,rfl,rfl,nz (by decide),?_⟩
  have e:cell ns k=((((k+5)*(k+5)*48271).fmod 2147483647)*(((k+5)*(k+5)*48271).fmod 2147483647)).fmod 2147483629:=by
   unfold cell
   rw [if_neg c']
  rw [e] at q
  exact q
def field (c p m:Int):Int:=(((c.fmod p+11)*48271).fmod p).fmod m
theorem a9 {c p m:Int}(h:0 < m):0≤field c p m∧field c p m < m:=mf h
inductive fw (vs:List V)(H:Hp)(Q:VK)(E_:XK):Prop where
 | mk (c p m:Int) (_:vs=[.int c,.int p,.int m]) (_:0 < p) (_:p≤2000000) (_:0 < m) (_:Q (.int (field c p m)) H):fw vs H Q E_
theorem QX:aG ["_law_cell","_law_prime","_law_many"] ["_law_cell","_law_prime","_law_many"] (af yS):=sq
theorem QY (D:Def K mg "_law_field" yS ["_law_cell","_law_prime","_law_many"]):Fn P w K mg base CX 1 "_law_field" ["_law_cell","_law_prime","_law_many"] fw:=by
 refine D.ok QX (fun vs H Q E h=> ?_) (fun f bD A outer s H vs Q E hr h=> ?_)
 ·obtain ⟨c,p,m,rfl,_⟩:=h
  rfl
 obtain ⟨c,p,m,rfl,hp,OC,hm,q⟩:=h
 refine ⟨_,(aj (aL (aI dW (aI dW (aI cC (aI bU (aI dW (pv 0) (pv 1)) ag) ag) (pv 1)) (pv 2)))),?_⟩
 have e1:=mf (x:=c) hp
 refine ⟨_,rfl,_,rfl,_,_,rfl,rfl,nz (by omega),_,_,rfl,rfl,_,_,rfl,rfl,⟨adF (iL (k:=22) (by show _ < 4194304;omega)) (by decide),by decide+kernel⟩,?_⟩
 exact ⟨_,rfl,_,_,rfl,rfl,nz (by omega),_,rfl,_,_,rfl,rfl,nz (by omega),q⟩
inductive cW (vs:List V)(H:Hp)(Q:VK)(E_:XK):Prop where
 | mk (t b:Int) (_:vs=[.int t,.int b]) (_:0 < b) (_:gives H Q (low t b)):cW vs H Q E_
theorem xE:aG ["_law_top","_law_bottom","_law_one","_law_other"] ["_law_top","_law_bottom"] (af yT):=sq
theorem QZ (ht:P.given.tree=none)(D:Def K mg "_law_lowest" yT ["_law_top","_law_bottom"])(pH:mg "abs"=none):Fn P w K mg base (a_ P w) 33 "_law_lowest" ["_law_top","_law_bottom"] cW:=by
 refine D.ok xE (fun vs H Q E h=> ?_) (fun f bD A outer s H vs Q E hr h=> ?_)
 ·obtain ⟨t,b,rfl,_⟩:=h
  rfl
 obtain ⟨t,b,rfl,hb,q⟩:=h
 refine ⟨_,(ae (ay (i:=2) xE.nd rfl (adH rfl) (aT sj rfl pH JX (au (pv 0) aa)))
  (ae (ay (i:=3) xE.nd rfl (adH rfl) (pv 1))
  (ae (mq PassesOwn.never (bf sf (pv 3) ag (bu _)) (aj (K1 (i:=2) (j:=3) rfl xE.nd rfl rfl (by decide) rfl rfl (au (pv 3) (au (aI dW (pv 2) (pv 3)) aa)) rfl)))
  (aj (aL (aZ (au (aI (eE ht (Ty.cv.py hr (by decide)) rfl rfl rfl rfl rfl) (pv 0) (pv 2)) (au (aI (eE ht (Ty.cv.py hr (by decide)) rfl rfl rfl rfl rfl) (pv 1) (pv 2)) aa)))))))),?_⟩
 refine ⟨_,rfl,t,rfl,?_⟩
 refine ⟨_,rfl,?_⟩
 refine se (fun σ H' =>∃x y:Int,σ=[some (.int t),some (.int b),some (.int x),some (.int y)]∧H' =H∧0≤x∧0≤y∧aek x y=aek t b) (fun σ _=>match σ with | [_,_,_,some (.int y)]=>y.natAbs | _=>0) ⟨_,b,rfl,rfl,?_,by omega,?_⟩ ?_ ?_
 ·split <;> omega
 ·split
  ·exact Int.neg_gcd
  ·rfl
 ·rintro σ H' ⟨x,y,rfl,rfl,hx,hy,g⟩
  refine ⟨_,rfl,rfl,_,rfl,?_⟩
  refine bM (fun c=> ?_) (fun c=> ?_)
  ·have zB:y≠0:=by
    intro z
    subst z
    simp at c
   refine ⟨_,rfl,_,rfl,_,rfl,_,_,rfl,rfl,zB,_,_,rfl,?_⟩
   exact ⟨⟨_,_,rfl,rfl,hy,aeV _ (by omega),by rw [sL];exact g⟩,oW zB⟩
  ·have zB:y=0:=by
    have:=afh.mpr c
    simp at this
    exact this
   subst zB
   have e:x=sg t b:=by
    rw [am7] at g
    unfold sg
    rw [if_neg (by omega)]
    unfold gz
    rw [← g]
    omega
   subst e
   have hbn:b≠0:=by omega
   have c:=mD (t:=t) hbn
   refine ⟨_,rfl,_,rfl,_,_,rfl,rfl,c,_,rfl,_,rfl,_,_,rfl,rfl,c,(by show 2≤sizeLine;decide),fun p hp=> ?_⟩
   exact q p _ (aD hp _) ah
 ·rintro σ H' Q1 Q2 h ⟨v,e1,e2,k,ek,z⟩
  exact ⟨v,e1,e2,k,ek,h _ _ z⟩
structure Ns (n:Nat)(q:Int×Int):Prop where
 top:q.1.natAbs≤2^n
 bot:q.2.natAbs≤2^n
theorem Ns.up {m n:Nat}{q:Int×Int}(h:Ns m q)(l:m≤n):Ns n q:=⟨adF h.top (adV (by decide) l),adF h.bot (adV (by decide) l)⟩
def fK (K:Frag)(H:Hp)(v:V)(n:Nat)(r:Rat):Prop:=∃q:Int×Int,kA K H v q∧0 < q.2∧vl q=r∧Ns n q
theorem fK.same {H H' :Hp}{v:V}{n:Nat}{r:Rat}(h:fK K H v n r)(s:av H H'):fK K H' v n r:=by
 obtain ⟨q,h1,h2⟩:=h
 exact ⟨q,h1.same s,h2⟩
theorem fK.aS {H H' :Hp}{v:V}{n:Nat}{r:Rat}(h:fK K H v n r)(s:bC H H'):fK K H' v n r:=by
 obtain ⟨q,h1,h2⟩:=h
 exact ⟨q,h1.aS s,h2⟩
theorem fK.up {H:Hp}{v:V}{m n:Nat}{r:Rat}(h:fK K H v m r)(l:m≤n):fK K H v n r:=by
 obtain ⟨q,h1,h2,h3,h4⟩:=h
 exact ⟨q,h1,h2,h3,h4.up l⟩
theorem iM {H:Hp}{v:V}{n:Nat}{r:Rat}(h:fJ K H v r)(z:Zb n r):fK K H v n r:=⟨qr r,h,cz r,dQ r,⟨z.top,z.bot⟩⟩
theorem EA {k n:Nat}{r:Rat}(h:Sz k r)(l:k≤n):Zb n r:=⟨aeD (adU (intBits_le_iff.mp h.top) (adV (by decide) l)),aeD (adU (intBits_le_iff.mp h.bot) (adV (by decide) l))⟩
theorem Zb.up {m n:Nat}{r:Rat}(h:Zb m r)(l:m≤n):Zb n r:=⟨adF h.top (adV (by decide) l),adF h.bot (adV (by decide) l)⟩
def fH (x y:Int×Int):Int×Int:=(x.1*y.2+y.1*x.2,x.2*y.2)
def jA (x y:Int×Int):Int×Int:=(x.1*y.1,x.2*y.2)
theorem dN {a b:Int}{m n:Nat}(h1:a.natAbs≤2^m)(h2:b.natAbs≤2^n):(a*b).natAbs≤2^(m+n):=by
 rw [aeF,afm]
 exact aep h1 h2
theorem IW {x y:Int×Int}{m n:Nat}(hx:0 < x.2)(hy:0 < y.2)(zx:Ns m x)(zy:Ns n y):0 < (fH x y).2∧vl (fH x y)=vl x+vl y∧Ns (m+n+1) (fH x y):=by
 refine ⟨aeQ hx hy,?_,?_,?_⟩
 ·unfold vl fH
  have z1:((x.2:Int):Rat)≠0:=cw (aeh hx)
  have z2:((y.2:Int):Rat)≠0:=cw (aeh hy)
  push_cast
  grind
 ·have h1:=dN zx.top zy.bot
  have h2:=dN zy.top zx.bot
  rw [amD n m] at h2
  have h3:=ae3 (x.1*y.2) (y.1*x.2)
  show (x.1*y.2+y.1*x.2).natAbs≤2^(m+n+1)
  rw [aff]
  omega
 ·exact adF (dN zx.bot zy.bot) (adV (by decide) (by omega))
theorem IX {x y:Int×Int}{m n:Nat}(hx:0 < x.2)(hy:0 < y.2)(zx:Ns m x)(zy:Ns n y):0 < (jA x y).2∧vl (jA x y)=vl x*vl y∧Ns (m+n) (jA x y):=by
 refine ⟨aeQ hx hy,?_,dN zx.top zy.top,dN zx.bot zy.bot⟩
 unfold vl jA
 have z1:((x.2:Int):Rat)≠0:=cw (aeh hx)
 have z2:((y.2:Int):Rat)≠0:=cw (aeh hy)
 push_cast
 grind
inductive b_ (K:Frag)(f:Int×Int→Int×Int→Int×Int)(vs:List V)(H:Hp)(Q:VK)(E_:XK):Prop where
 | mk (u v:V) (x y:Int×Int) (m n:Nat) (_:vs=[u,v]) (_:kA K H u x) (_:kA K H v y) (_:Ns m x) (_:Ns n y) (_:m+n≤130000000) (_:gives H Q (f x y)):b_ K f vs H Q E_
theorem jB {H:Hp}{u v:V}{m n:Nat}{x y:Rat}{Q:VK}{E:XK}(h1:fK K H u m x)(h2:fK K H v n y)(l:m+n≤130000000)(k:∀(p:Addr) (H' :Hp),av H H' →fK K H' (.ref p) (m+n+1) (x+y)→Q (.ref p) H'):b_ K fH [u,v] H Q E:=by
 obtain ⟨q1,a1,a2,a3,a4⟩:=h1
 obtain ⟨q2,b1,b2,b3,b4⟩:=h2
 obtain ⟨c1,c2,c3⟩:=IW a2 b2 a4 b4
 exact ⟨u,v,q1,q2,m,n,rfl,a1,b1,a4,b4,l,fun p H' s e=>k p H' s ⟨fH q1 q2,⟨p,rfl,cf.of e⟩,c1,by rw [c2,a3,b3],c3⟩⟩
theorem mh {H:Hp}{u v:V}{m n:Nat}{x y:Rat}{Q:VK}{E:XK}(h1:fK K H u m x)(h2:fK K H v n y)(l:m+n≤130000000)(k:∀(p:Addr) (H' :Hp),av H H' →fK K H' (.ref p) (m+n) (x*y)→Q (.ref p) H'):b_ K jA [u,v] H Q E:=by
 obtain ⟨q1,a1,a2,a3,a4⟩:=h1
 obtain ⟨q2,b1,b2,b3,b4⟩:=h2
 obtain ⟨c1,c2,c3⟩:=IX a2 b2 a4 b4
 exact ⟨u,v,q1,q2,m,n,rfl,a1,b1,a4,b4,l,fun p H' s e=>k p H' s ⟨jA q1 q2,⟨p,rfl,cf.of e⟩,c1,by rw [c2,a3,b3],c3⟩⟩
inductive fB (K:Frag)(vs:List V)(H:Hp)(Q:VK)(E_:XK):Prop where
 | mk (u:V) (x:Int×Int) (_:vs=[u]) (_:kA K H u x) (_:gives H Q (0 - x.1,x.2)):fB K vs H Q E_
theorem nO {H:Hp}{u:V}{m:Nat}{x:Rat}{Q:VK}{E:XK}(h1:fK K H u m x)(k:∀(p:Addr) (H' :Hp),av H H' →fK K H' (.ref p) m (-x)→Q (.ref p) H'):fB K [u] H Q E:=by
 obtain ⟨q1,a1,a2,a3,a4⟩:=h1
 refine ⟨u,q1,rfl,a1,fun p H' s e=>k p H' s ⟨(0 - q1.1,q1.2),⟨p,rfl,cf.of e⟩,a2,?_,?_,a4.bot⟩⟩
 ·rw [← a3]
  unfold vl
  push_cast
  grind
 ·have:=a4.top
  show (0 - q1.1).natAbs≤2^m
  omega
theorem Q0:aG ["_law_one","_law_other"] ["_law_one","_law_other"] (af yU):=sq
theorem Q3 (D:Def K mg "_law_sum" yU ["_law_one","_law_other"]):Fn P w K mg base (a_ P w) 1 "_law_sum" ["_law_one","_law_other"] (b_ K fH):=by
 refine D.ok Q0 (fun vs H Q E h=> ?_) (fun f bD A outer s H vs Q E hr h=> ?_)
 ·obtain ⟨u,v,x,y,m,n,rfl,_⟩:=h
  rfl
 obtain ⟨u,v,x,y,m,n,rfl,⟨p1,rfl,h1⟩,⟨p2,rfl,h2⟩,zx,zy,l,q⟩:=h
 refine ⟨_,(aj (aL (aZ (au (aI bU (aI fj (aR (pv 0)) (aR (pv 1))) (aI fj (aR (pv 1)) (aR (pv 0)))) (au (aI fj (aR (pv 0)) (aR (pv 1))) aa))))),?_⟩
 refine ⟨_,rfl,p1,_,_,_,rfl,rfl,h1,iW,_,rfl,p2,_,_,_,rfl,rfl,h2,iX,_,_,rfl,rfl,dJ zx.top zy.bot (by omega),?_⟩
 refine ⟨_,rfl,p2,_,_,_,rfl,rfl,h2,iW,_,rfl,p1,_,_,_,rfl,rfl,h1,iX,_,_,rfl,rfl,dJ zy.top zx.bot (by omega),?_⟩
 refine ⟨_,_,rfl,rfl,?_⟩
 refine ⟨_,rfl,p1,_,_,_,rfl,rfl,h1,iX,_,rfl,p2,_,_,_,rfl,rfl,h2,iX,_,_,rfl,rfl,dJ zx.bot zy.bot (by omega),(by show 2≤sizeLine;decide),?_⟩
 intro p3 n3;generalize eX:upd _ p3 _=H3;have ⟨s3,e3⟩:=nw n3 eX;clear eX
 exact q p3 H3 s3 e3
theorem Q4:aG ["_law_one","_law_other"] ["_law_one","_law_other"] (af yV):=sq
theorem Q6 (D:Def K mg "_law_times" yV ["_law_one","_law_other"]):Fn P w K mg base (a_ P w) 1 "_law_times" ["_law_one","_law_other"] (b_ K jA):=by
 refine D.ok Q4 (fun vs H Q E h=> ?_) (fun f bD A outer s H vs Q E hr h=> ?_)
 ·obtain ⟨u,v,x,y,m,n,rfl,_⟩:=h
  rfl
 obtain ⟨u,v,x,y,m,n,rfl,⟨p1,rfl,h1⟩,⟨p2,rfl,h2⟩,zx,zy,l,q⟩:=h
 refine ⟨_,(aj (aL (aZ (au (aI fj (aR (pv 0)) (aR (pv 1))) (au (aI fj (aR (pv 0)) (aR (pv 1))) aa))))),?_⟩
 refine ⟨_,rfl,p1,_,_,_,rfl,rfl,h1,iW,_,rfl,p2,_,_,_,rfl,rfl,h2,iW,_,_,rfl,rfl,dJ zx.top zy.top (by omega),?_⟩
 refine ⟨_,rfl,p1,_,_,_,rfl,rfl,h1,iX,_,rfl,p2,_,_,_,rfl,rfl,h2,iX,_,_,rfl,rfl,dJ zx.bot zy.bot (by omega),(by show 2≤sizeLine;decide),?_⟩
 intro p3 n3;generalize eX:upd _ p3 _=H3;have ⟨s3,e3⟩:=nw n3 eX;clear eX
 exact q p3 H3 s3 e3
theorem Q7:aG ["_law_one"] ["_law_one"] (af yW):=sq
theorem Q8 (D:Def K mg "_law_turned" yW ["_law_one"]):Fn P w K mg base (a_ P w) 1 "_law_turned" ["_law_one"] (fB K):=by
 refine D.ok Q7 (fun vs H Q E h=> ?_) (fun f bD A outer s H vs Q E hr h=> ?_)
 ·obtain ⟨u,x,rfl,_⟩:=h
  rfl
 obtain ⟨u,x,rfl,⟨p1,rfl,h1⟩,q⟩:=h
 refine ⟨_,(aj (aL (aZ (au (aI cG ag (aR (pv 0))) (au (aR (pv 0)) aa))))),?_⟩
 refine ⟨_,rfl,p1,_,_,_,rfl,rfl,h1,iW,_,_,rfl,rfl,_,rfl,p1,_,_,_,rfl,rfl,h1,iX,(by show 2≤sizeLine;decide),?_⟩
 intro p3 n3;generalize eX:upd _ p3 _=H3;have ⟨s3,e3⟩:=nw n3 eX;clear eX
 exact q p3 H3 s3 e3
def nameOf (st a k:Int):Str:=if st=0 then Txt.mul "p" (k+1) else if st=1 then Txt.mul "p" a++⟨#[(fU (Str.ofString "bcdefghijklmnoqrs").cps.toList k).getD 0]⟩++Txt.mul "p" (5 - a) else Txt.slice "12345" none (some a)++(toString k:String)
theorem uh:∀st:Fin 3,∀a:Fin 6,∀k:Fin 17,∀j:Fin 17,k≠j→nameOf (st.val:Int) (a.val:Int) (k.val:Int)≠nameOf (st.val:Int) (a.val:Int) (j.val:Int):=by decide+kernel
theorem Mf:∀n:Fin 20,MulOk "p" (n.val:Int):=by
 intro n
 unfold MulOk
 revert n
 decide+kernel
theorem Mg:∀k:Fin 17,fU (Str.ofString "bcdefghijklmnoqrs").cps.toList (k.val:Int)=some ((fU (Str.ofString "bcdefghijklmnoqrs").cps.toList (k.val:Int)).getD 0):=by decide+kernel
theorem EB:∀a:Fin 6,∀k:Fin 17,(Txt.mul "p" (a.val:Int)).length+(⟨#[(fU (Str.ofString "bcdefghijklmnoqrs").cps.toList (k.val:Int)).getD 0]⟩:Str).length≤1000∧
  (Txt.mul "p" (a.val:Int)++(⟨#[(fU (Str.ofString "bcdefghijklmnoqrs").cps.toList (k.val:Int)).getD 0]⟩:Str)).length+(Txt.mul "p" (5 - (a.val:Int))).length≤1000∧(Txt.slice "12345" none (some (a.val:Int))).length+(Str.ofString (toString (k.val:Int))).length≤1000:=by decide+kernel
inductive rq (vs:List V)(H:Hp)(Q:VK)(E_:XK):Prop where
 | mk (c k:Int) (_:vs=[.int c,.int k]) (_:0≤k) (_:k < 17) (_:Q (.str (nameOf (field c 3001 3) (field c 4001 6) k)) H):rq vs H Q E_
theorem EC:aG ["_law_cell","_law_k","_law_style","_law_at"] ["_law_cell","_law_k"] (af vv):=sq
theorem Q9 (hM:sR CX)(D:Def K mg "_law_name" vv ["_law_cell","_law_k"])(ED:mg "str"=none)(cR:Fn P w K mg base CX 1 "_law_field" ["_law_cell","_law_prime","_law_many"] fw):Fn P w K mg base CX 2 "_law_name" ["_law_cell","_law_k"] rq:=by
 refine D.ok EC (fun vs H Q E h=> ?_) (fun f bD A outer s H vs Q E hr h=> ?_)
 ·obtain ⟨c,k,rfl,_⟩:=h
  rfl
 obtain ⟨c,k,rfl,h0,h12,q⟩:=h
 have px:=sS (X:=kX CX P w K mg base ["_law_cell","_law_k","_law_style","_law_at"] "_law_name" (af vv) f bD A outer s H E) hM
 refine ⟨_,(ae (ay (i:=2) EC.nd rfl (adH rfl) (aC cR hr.mo px (au (pv 0) (au ag (au ag aa)))))
  (ae (ay (i:=3) EC.nd rfl (adH rfl) (aC cR hr.mo px (au (pv 0) (au ag (au ag aa)))))
  (ae (bG (bf de (pv 2) ag (bu _)) (aj (aL (aI qE d6 (aI bU (pv 1) ag)))) aY)
  (ae (bG (bf de (pv 2) ag (bu _)) (aj (aL (aI iw (aI iw (aI qE d6 (pv 3)) (aU K5 d6 (pv 1) (fun _ _=>rfl))) (aI qE d6 (aI cG ag (pv 3)))))) aY)
  (aj (aL (aI iw (dI Lf d6 fY (dS (pv 3))) (dY qi rfl ED Oh (au (pv 1) aa))))))))),?_⟩
 have i1:=a9 (c:=c) (p:=3001) (m:=3) (by decide)
 have i2:=a9 (c:=c) (p:=4001) (m:=6) (by decide)
 refine ⟨_,rfl,_,_,_,rfl,by decide,by decide,by decide,?_⟩
 refine ⟨_,rfl,_,_,_,rfl,by decide,by decide,by decide,?_⟩
 generalize field c 3001 3=st at i1 q ⊢
 generalize field c 4001 6=a at i2 q ⊢
 obtain ⟨kn,rfl⟩:∃n:Nat,k=(n:Int):=⟨k.toNat,by omega⟩
 obtain ⟨an,rfl⟩:∃n:Nat,a=(n:Int):=⟨a.toNat,by omega⟩
 have mk:∀i:Int,0≤i→i < 20→MulOk "p" i:=fun i a b=>by
  have:=Mf ⟨i.toNat,by omega⟩
  rwa [show ((⟨i.toNat,by omega⟩:Fin 20).val:Int)=i by show ((i.toNat:Nat):Int)=i;omega] at this
 refine ⟨_,rfl,rfl,_,rfl,?_⟩
 refine bM (fun z=> ?_) (fun z=> ?_)
 ·have z' :st=0:=by simpa [oh] using z
  subst z'
  refine ⟨_,rfl,_,_,rfl,rfl,_,_,rfl,rfl,mk _ (by omega) (by omega),?_⟩
  exact q
 have z' :¬ st=0:=by simpa [oh] using z
 have nl:=EB ⟨an,by omega⟩ ⟨kn,by omega⟩
 refine ⟨_,rfl,rfl,_,rfl,?_⟩
 refine bM (fun z3=> ?_) (fun z3=> ?_)
 ·have XN :st=1:=by simpa [oh] using z3
  subst XN
  refine ⟨_,rfl,_,_,rfl,rfl,mk _ (by omega) (by omega),_,rfl,_,_,_,rfl,rfl,(by decide+kernel),Mg ⟨kn,by omega⟩,?_⟩
  refine ⟨_,_,rfl,rfl,adF nl.1 (by decide),_,rfl,_,_,rfl,rfl,_,_,rfl,rfl,mk _ (by omega) (by omega),_,_,rfl,rfl,adF nl.2.1 (by decide),?_⟩
  exact q
 ·have XN :¬ st=1:=by simpa [oh] using z3
  refine ⟨_,rfl,_,rfl,_,rfl,(by decide+kernel),?_⟩
  have lg:(kn:Int).natAbs.log2 < 1920:=adO (Nat.log2_le_self _) (by show kn < 1920;omega)
  refine ⟨_,rfl,_,rfl,lg,_,_,rfl,rfl,adF nl.2.2 (by decide),?_⟩
  have e:nameOf st (an:Int) (kn:Int)=Txt.slice "12345" none (some (an:Int))++Str.ofString (toString (kn:Int)):=by
   unfold nameOf
   rw [if_neg z',if_neg XN]
  rw [e] at q
  exact q
def gU (ws:List (Rat×Rat)):Prop:=ws=[]∨(∃x y:Rat,ws=[(x,y)]∧¬ (x=0∧y=0)∧Sz 22 x∧Sz 22 y)∨ws=[(1,0),(0,1)]
theorem vP {K:Frag}{H:Hp}{p:Addr}(i:Int)(h:H p=some (.tup [.int i,.int 1])):fJ K H (.ref p) (i:Rat):=⟨p,rfl,by rw [mW];exact cf.of h⟩
theorem iu {K:Frag}{H:Hp}{p:Addr}{r:Rat}(h:H p=some (.tup [.int (qr r).1,.int (qr r).2])):fJ K H (.ref p) r:=⟨p,rfl,cf.of h⟩
theorem pV {K:Frag}{H:Hp}{p:Addr}{u v:V}{r s:Rat}(h:H p=some (.tup [u,v]))(h1:fJ K H u r)(h2:fJ K H v s):eY K H (.ref p) (r,s):=⟨p,u,v,rfl,cf.of h,h1,h2⟩
theorem jC {k:Nat}{i:Int}(h:i.natAbs < 524288)(hk:19≤k):Sz k (i:Rat):=vi (adU h (show 2^19≤2^k from adV (by decide) hk)) (by omega)
theorem hV {t b:Int}(h:0 < b)(h1:t.natAbs < 524288)(h2:b < 524288):Sz 19 ((t:Rat) / (b:Rat)):=vh (aeh h) (intBits_le_iff.mpr (by show _ < 524288;omega)) (intBits_le_iff.mpr (by show _ < 524288;omega))
theorem EE {i:Int}(h:i≤500002):(i:Rat)≤500002:=by
 have:=afi.mpr h
 simpa using this
theorem xF {t b:Int}(hb:0 < b)(h:t≤500002):(t:Rat) / (b:Rat)≤500002:=by
 have fL :(0:Rat) < (b:Rat):=by
  have:=Rat.intCast_lt_intCast.mpr hb
  simpa using this
 have h1:t≤500002*b:=by
  have:(500002:Int)*1≤500002*b:=Int.mul_le_mul_of_nonneg_left (by omega) (by decide)
  omega
 have h2:(t:Rat)≤500002*(b:Rat):=by
  have:=afi.mpr h1
  simpa using this
 have e:(t:Rat) / (b:Rat)*(b:Rat)=(t:Rat):=by
  have FH:(b:Rat)≠0:=by grind
  grind
 generalize (t:Rat) / (b:Rat)=z at e
 by_cases c:z≤500002
 ·exact c
 ·have c' :500002 < z:=by grind
  have:=Rat.mul_lt_mul_of_pos_right c' fL
  grind
inductive rB (K:Frag)(vs:List V)(H:Hp)(Q:VK)(E_:XK):Prop where
 | mk (c k:Int) (_:vs=[.int c,.int k]) (_:∀(p:Addr) (x y:Rat) (H' :Hp),av H H' →Sz 19 x→Sz 19 y→x≤500002→eY K H' (.ref p) (x,y)→Q (.ref p) H'):rB K vs H Q E_
theorem EF:aG ["_law_cell","_law_kind","_law_x"] ["_law_cell","_law_kind"] (af yX):=sq
theorem Q_ (D:Def K mg "_law_spot" yX ["_law_cell","_law_kind"])(cR:Fn P w K mg base (a_ P w) 1 "_law_field" ["_law_cell","_law_prime","_law_many"] fw)(oH:Fn P w K mg base (a_ P w) 33 "_law_lowest" ["_law_top","_law_bottom"] cW):Fn P w K mg base (a_ P w) 34 "_law_spot" ["_law_cell","_law_kind"] (rB K):=by
 refine D.ok EF (fun vs H Q E h=> ?_) (fun f bD A outer s H vs Q E hr h=> ?_)
 ·obtain ⟨c,k,rfl,_⟩:=h
  rfl
 obtain ⟨c,k,rfl,q⟩:=h
 have L2:2≤sizeLine:=by decide
 refine ⟨_,(ae (bG (bf de (pv 1) ag (bu _)) (aj (aL (aZ (au (aZ (au (aC cR hr.mo pX (au (pv 0) (au ag (au ag aa)))) (au ag aa))) (au (aZ (au (aC cR hr.mo pX (au (pv 0) (au ag (au ag aa)))) (au ag aa))) aa))))) aY)
  (ae (bG (bf de (pv 1) ag (bu _)) (ae (ay (i:=2) EF.nd rfl (adH rfl) (aC oH hr.mo pX (au (aI cG (aC cR hr.mo pX (au (pv 0) (au ag (au ag aa)))) ag) (au (aI bU ag (aC cR hr.mo pX (au (pv 0) (au ag (au ag aa))))) aa))))
   (aj (aL (aZ (au (pv 2) (au (aC oH hr.mo pX (au (aI cG (aC cR hr.mo pX (au (pv 0) (au ag (au ag aa)))) ag) (au (aI bU ag (aC cR hr.mo pX (au (pv 0) (au ag (au ag aa))))) aa))) aa)))))) aY)
  (ae (ay (i:=2) EF.nd rfl (adH rfl) (aC oH hr.mo pX (au (aI cG (aC cR hr.mo pX (au (pv 0) (au ag (au ag aa)))) ag) (au (aI bU ag (aC cR hr.mo pX (au (pv 0) (au ag (au ag aa))))) aa))))
  (aj (aL (aZ (au (pv 2) (au (aC oH hr.mo pX (au (aI cG (aC cR hr.mo pX (au (pv 0) (au ag (au ag aa)))) ag) (au (aI bU ag (aC cR hr.mo pX (au (pv 0) (au ag (au ag aa))))) aa))) aa)))))))),?_⟩
 refine ⟨_,rfl,rfl,_,rfl,?_⟩
 refine bM (fun _=> ?_) (fun _=> ?_)
 ·have i1:=a9 (c:=c) (p:=1009) (m:=4) (by decide)
  have i2:=a9 (c:=c) (p:=2003) (m:=4) (by decide)
  refine ⟨_,rfl,_,_,_,rfl,by decide,by decide,by decide,L2,?_⟩
  intro p1 n1;generalize eX:upd _ p1 _=H1;have ⟨s1,e1⟩:=nw n1 eX;clear eX
  refine ⟨_,rfl,_,_,_,rfl,by decide,by decide,by decide,L2,?_⟩
  intro p2 n2;generalize eX:upd _ p2 _=H2;have ⟨s2,e2⟩:=nw n2 eX;clear eX
  refine ⟨L2,?_⟩
  intro p3 n3;generalize eX:upd _ p3 _=H3;have ⟨s3,e3⟩:=nw n3 eX;clear eX
  exact q p3 _ _ H3 ((s1.trans s2).trans s3) (jC (by omega) (by decide)) (jC (by omega) (by decide)) (EE (by omega)) (pV e3 (((vP _ e1).same s2).same s3) ((vP _ e2).same s3))
 refine ⟨_,rfl,rfl,_,rfl,?_⟩
 refine bM (fun _=> ?_) (fun _=> ?_)
 ·have i1:=a9 (c:=c) (p:=1009) (m:=13) (by decide)
  have i2:=a9 (c:=c) (p:=3001) (m:=3) (by decide)
  have i3:=a9 (c:=c) (p:=2003) (m:=13) (by decide)
  have i4:=a9 (c:=c) (p:=4001) (m:=2) (by decide)
  refine ⟨_,rfl,_,_,_,rfl,by decide,by decide,by decide,_,_,rfl,rfl,_,rfl,_,_,_,rfl,by decide,by decide,by decide,_,_,rfl,rfl,_,_,rfl,by omega,fun p1 H1 s1 e1=> ?_⟩
  rw [eG (by omega)] at e1
  refine ⟨_,rfl,_,rfl,_,_,_,rfl,by decide,by decide,by decide,_,_,rfl,rfl,_,rfl,_,_,_,rfl,by decide,by decide,by decide,_,_,rfl,rfl,_,_,rfl,by omega,fun p2 H2 s2 e2=>⟨L2,?_⟩⟩
  rw [eG (by omega)] at e2
  intro p3 n3;generalize eX:upd _ p3 _=H3;have ⟨s3,e3⟩:=nw n3 eX;clear eX
  exact q p3 _ _ H3 ((s1.trans s2).trans s3) (hV (by omega) (by omega) (by omega)) (hV (by omega) (by omega) (by omega)) (xF (by omega) (by omega)) (pV e3 (((iu e1).same s2).same s3) ((iu e2).same s3))
 ·have i1:=a9 (c:=c) (p:=1000003) (m:=1000003) (by decide)
  have i2:=a9 (c:=c) (p:=3001) (m:=997) (by decide)
  have i3:=a9 (c:=c) (p:=1000033) (m:=1000003) (by decide)
  have i4:=a9 (c:=c) (p:=4001) (m:=997) (by decide)
  refine ⟨_,rfl,_,_,_,rfl,by decide,by decide,by decide,_,_,rfl,rfl,_,rfl,_,_,_,rfl,by decide,by decide,by decide,_,_,rfl,rfl,_,_,rfl,by omega,fun p1 H1 s1 e1=> ?_⟩
  rw [eG (by omega)] at e1
  refine ⟨_,rfl,_,rfl,_,_,_,rfl,by decide,by decide,by decide,_,_,rfl,rfl,_,rfl,_,_,_,rfl,by decide,by decide,by decide,_,_,rfl,rfl,_,_,rfl,by omega,fun p2 H2 s2 e2=>⟨L2,?_⟩⟩
  rw [eG (by omega)] at e2
  intro p3 n3;generalize eX:upd _ p3 _=H3;have ⟨s3,e3⟩:=nw n3 eX;clear eX
  exact q p3 _ _ H3 ((s1.trans s2).trans s3) (hV (by omega) (by omega) (by omega)) (hV (by omega) (by omega) (by omega)) (xF (by omega) (by omega)) (pV e3 (((iu e1).same s2).same s3) ((iu e2).same s3))
inductive rC (K:Frag)(vs:List V)(H:Hp)(Q:VK)(E_:XK):Prop where
 | mk (c:Int) (_:vs=[.int c]) (_:∀(l:Addr) (us:List V) (ws:List (Rat×Rat)) (H' :Hp),gU ws→av H H' →H l=none→H' l=some (.lst us)→h8 K H' us ws→Q (.ref l) H'):rC K vs H Q E_
theorem IY {r:Rat}:(qr r).1=0 ↔ r=0:=⟨q0,fun e=>by rw [e,c_]⟩
theorem uk:aG ["_law_cell","_law_kind","_law_x","_law_y"] ["_law_cell"] (af yY):=sq
theorem Ra (D:Def K mg "_law_ways" yY ["_law_cell"])(cR:Fn P w K mg base (a_ P w) 1 "_law_field" ["_law_cell","_law_prime","_law_many"] fw)(oH:Fn P w K mg base (a_ P w) 33 "_law_lowest" ["_law_top","_law_bottom"] cW):Fn P w K mg base (a_ P w) 34 "_law_ways" ["_law_cell"] (rC K):=by
 refine D.ok uk (fun vs H Q E h=> ?_) (fun f bD A outer s H vs Q E hr h=> ?_)
 ·obtain ⟨c,rfl,_⟩:=h
  rfl
 obtain ⟨c,rfl,q⟩:=h
 have L0:0≤sizeLine:=by decide
 have L1:1≤sizeLine:=by decide
 have L2:2≤sizeLine:=by decide
 refine ⟨_,(ae (ay (i:=1) uk.nd rfl (adH rfl) (aC cR hr.mo pX (au (pv 0) (au ag (au ag aa)))))
  (ae (bG (bf si (pv 1) ag (bu _)) (aj (aL (bO aa))) aY)
  (ae (bG (bf si (pv 1) ag (bu _)) (aj (aL (bO (au (aZ (au (aZ (au ag (au ag aa))) (au (aZ (au ag (au ag aa))) aa))) (au (aZ (au (aZ (au ag (au ag aa))) (au (aZ (au ag (au ag aa))) aa))) aa))))) aY)
  (ae (ay (i:=2) uk.nd rfl (adH rfl) (aC oH hr.mo pX (au (aI cG (aC cR hr.mo pX (au (pv 0) (au ag (au ag aa)))) ag) (au (aI bU ag (aC cR hr.mo pX (au (pv 0) (au ag (au ag aa))))) aa))))
  (ae (ay (i:=3) uk.nd rfl (adH rfl) (aC oH hr.mo pX (au (aI cG (aC cR hr.mo pX (au (pv 0) (au ag (au ag aa)))) ag) (au (aI bU ag (aC cR hr.mo pX (au (pv 0) (au ag (au ag aa))))) aa))))
  (ae (bG (PW.pt (AJ (bf de (aR (pv 2)) ag (bu _)) (wB (bf de (aR (pv 3)) ag (bu _))))) (aj (ay (i:=3) uk.nd rfl (adH rfl) (aZ (au ag (au ag aa))))) aY)
  (aj (aL (bO (au (aZ (au (pv 2) (au (pv 3) aa))) aa)))))))))),?_⟩
 refine ⟨_,rfl,_,_,_,rfl,by decide,by decide,by decide,?_⟩
 refine ⟨_,rfl,_,_,rfl,rfl,_,rfl,?_⟩
 refine bM (fun _=> ?_) (fun _=> ?_)
 ·refine ⟨L0,?_⟩
  intro l nl;generalize eX:upd _ l _=H1;have ⟨s1,e1⟩:=nw nl eX;clear eX
  exact q l [] [] H1 (.inl rfl) s1 nl e1 .nil
 refine ⟨_,rfl,_,_,rfl,rfl,_,rfl,?_⟩
 refine bM (fun _=> ?_) (fun _=> ?_)
 ·refine ⟨L2,?_⟩
  intro p1 n1;generalize eX:upd _ p1 _=H1;have ⟨s1,e1⟩:=nw n1 eX;clear eX
  refine ⟨L2,?_⟩
  intro p2 n2;generalize eX:upd _ p2 _=H2;have ⟨s2,e2⟩:=nw n2 eX;clear eX
  refine ⟨L2,?_⟩
  intro p3 n3;generalize eX:upd _ p3 _=H3;have ⟨s3,e3⟩:=nw n3 eX;clear eX
  refine ⟨L2,?_⟩
  intro p4 n4;generalize eX:upd _ p4 _=H4;have ⟨s4,e4⟩:=nw n4 eX;clear eX
  refine ⟨L2,?_⟩
  intro p5 n5;generalize eX:upd _ p5 _=H5;have ⟨s5,e5⟩:=nw n5 eX;clear eX
  refine ⟨L2,?_⟩
  intro p6 n6;generalize eX:upd _ p6 _=H6;have ⟨s6,e6⟩:=nw n6 eX;clear eX
  refine ⟨L2,?_⟩
  intro p7 n7;generalize eX:upd _ p7 _=H7;have ⟨s7,e7⟩:=nw n7 eX;clear eX
  have sh:=s1.trans (s2.trans (s3.trans (s4.trans (s5.trans s6))))
  have w1:eY K H7 (.ref p3) (1,0):=xm q5 c_ (s7 _ _ (s6 _ _ (s5 _ _ (s4 _ _ e3)))) (s7 _ _ (s6 _ _ (s5 _ _ (s4 _ _ (s3 _ _ (s2 _ _ e1)))))) (s7 _ _ (s6 _ _ (s5 _ _ (s4 _ _ (s3 _ _ e2)))))
  have w2:eY K H7 (.ref p6) (0,1):=xm c_ q5 (s7 _ _ e6) (s7 _ _ (s6 _ _ (s5 _ _ e4))) (s7 _ _ (s6 _ _ e5))
  exact q p7 _ [(1,0),(0,1)] _ (.inr (.inr rfl)) (sh.trans s7) (sh.free n7) e7 (.cons w1 (.cons w2 .nil))
 have i1:=a9 (c:=c) (p:=6007) (m:=7) (by decide)
 have i2:=a9 (c:=c) (p:=7001) (m:=3) (by decide)
 have i3:=a9 (c:=c) (p:=8009) (m:=7) (by decide)
 have i4:=a9 (c:=c) (p:=9001) (m:=2) (by decide)
 refine ⟨_,rfl,_,_,_,rfl,by decide,by decide,by decide,_,_,rfl,rfl,_,rfl,_,_,_,rfl,by decide,by decide,by decide,_,_,rfl,rfl,_,_,rfl,by omega,fun p1 H1 s1 e1=> ?_⟩
 rw [eG (by omega)] at e1
 refine ⟨_,rfl,_,_,_,rfl,by decide,by decide,by decide,_,_,rfl,rfl,_,rfl,_,_,_,rfl,by decide,by decide,by decide,_,_,rfl,rfl,_,_,rfl,by omega,fun p2 H2 s2 e2=> ?_⟩
 rw [eG (by omega)] at e2
 have z1:=hV (t:=field c 6007 7 - 3) (b:=1+field c 7001 3) (by omega) (by omega) (by omega)
 have z2:=hV (t:=field c 8009 7 - 3) (b:=1+field c 9001 2) (by omega) (by omega) (by omega)
 generalize ((field c 6007 7 - 3:Int):Rat) / ((1+field c 7001 3:Int):Rat)=x at e1 z1 ⊢
 generalize ((field c 8009 7 - 3:Int):Rat) / ((1+field c 9001 2:Int):Rat)=y at e2 z2 ⊢
 have x8 :=s2 _ _ e1
 have FL:=s1.trans s2
 have fin:∀(v:V) (y' :Rat) (H3:Hp),av H2 H3→fJ K H3 v y' →Sz 22 y' →¬ (x=0∧y' =0)→∀(p:Addr) (l:Addr) (H5:Hp),av H3 H5→H3 l=none→H5 p=some (.tup [.ref p1,v])→H5 l=some (.lst [.ref p])→Q (.ref l) H5:=fun v y' H3 s3 hv zy hn p l H5 s5 nl ep el=>
  q l [.ref p] [(x,y')] H5 (.inr (.inl ⟨x,y',rfl,hn,z1.up (by decide),zy⟩)) (FL.trans (s3.trans s5)) ((FL.trans s3).free nl) el (.cons (pV ep (((iu x8).same s3).same s5) (hv.same s5)) .nil)
 refine ⟨_,rfl,p1,_,_,_,rfl,rfl,cf.of x8,iW,rfl,_,rfl,?_⟩
 refine bM (fun c1=> ?_) (fun c1=> ?_)
 ·have c1' :x=0:=IY.mp (by simpa using of_decide_eq_true c1)
  refine ⟨_,rfl,p2,_,_,_,rfl,rfl,cf.of e2,iW,rfl,_,rfl,?_⟩
  refine bM (fun c2=> ?_) (fun c2=> ?_)
  ·refine ⟨L2,?_⟩
   intro p3 n3;generalize eX:upd _ p3 _=H3;have ⟨s3,e3⟩:=nw n3 eX;clear eX
   refine ⟨_,rfl,_,rfl,L2,?_⟩
   intro p4 n4;generalize eX:upd _ p4 _=H4;have ⟨s4,e4⟩:=nw n4 eX;clear eX
   refine ⟨L1,?_⟩
   intro l5 n5;generalize eX:upd _ l5 _=H5;have ⟨s5,e5⟩:=nw n5 eX;clear eX
   exact fin (.ref p3) 1 H3 s3 (vP 1 e3) (jC (i:=1) (by decide) (by decide)) (fun z=>absurd z.2 (by decide)) p4 l5 H5 (s4.trans s5) (s4.free n5) (s5 _ _ e4) e5
  ·have c2' :¬ y=0:=fun z=>c2 (by rw [z,c_];decide)
   refine ⟨_,rfl,_,rfl,L2,?_⟩
   intro p4 n4;generalize eX:upd _ p4 _=H4;have ⟨s4,e4⟩:=nw n4 eX;clear eX
   refine ⟨L1,?_⟩
   intro l5 n5;generalize eX:upd _ l5 _=H5;have ⟨s5,e5⟩:=nw n5 eX;clear eX
   exact fin (.ref p2) y H2 (av.refl _) (iu e2) (z2.up (by decide)) (fun z=>c2' z.2) p4 l5 H5 (s4.trans s5) (s4.free n5) (s5 _ _ e4) e5
 ·have c1' :¬ x=0:=fun z=>c1 (by rw [z,c_];decide)
  refine Oc ?_
  refine ⟨_,rfl,_,rfl,L2,?_⟩
  intro p4 n4;generalize eX:upd _ p4 _=H4;have ⟨s4,e4⟩:=nw n4 eX;clear eX
  refine ⟨L1,?_⟩
  intro l5 n5;generalize eX:upd _ l5 _=H5;have ⟨s5,e5⟩:=nw n5 eX;clear eX
  exact fin (.ref p2) y H2 (av.refl _) (iu e2) (z2.up (by decide)) (fun z=>c1' z.1) p4 l5 H5 (s4.trans s5) (s4.free n5) (s5 _ _ e4) e5
inductive jD (K:Frag)(H:Hp)(d:Addr)(v:V)(p:aE):Prop where
 | mk (a l:Addr) (s:V) (us:List V) (_:v=.ref a) (_:cf K H a [.str p.nm,s,.ref l]) (_:eY K H s p.sp) (_:H l=some (.lst us)) (_:h8 K H us p.ws) (_:l≠d):jD K H d v p
inductive jE (K:Frag)(H:Hp)(v:V)(p:aE):Prop where
 | mk (a l:Addr) (s:V) (us:List V) (_:v=.ref a) (_:cf K H a [.str p.nm,s,.ref l]) (_:eY K H s p.sp) (_:H l=some (.lst us)) (_:h8 K H us p.ws):jE K H v p
inductive lC (K:Frag)(H:Hp)(pins:List aE)(v:V)(b:a8):Prop where
 | mk (a:Addr) (i j:Nat) (_:v=.ref a) (_:cf K H a [.str b.nm,.int (i:Int),.int (j:Int)]) (_:pins[i]? =some b.one) (_:pins[j]? =some b.other):lC K H pins v b
section
variable {K:Frag}{H H' :Hp}{v:V}{p:aE}{d:Addr}
theorem jD.same (h:jD K H d v p)(s:av H H'):jD K H' d v p:=by
 obtain ⟨a,l,sv,us,e,h1,h2,h3,h4,h5⟩:=h
 exact ⟨a,l,sv,us,e,Ty.av.cY s h1,h2.same s,s _ _ h3,h4.same s,h5⟩
theorem jD.upd {xs:List V}{o:HO}(h:jD K H d v p)(e:H d=some (.lst xs)):jD K (L2.upd H d o) d v p:=by
 obtain ⟨a,l,sv,us,ev,h1,h2,h3,h4,h5⟩:=h
 have t:bC H (L2.upd H d o):=.list e
 exact ⟨a,l,sv,us,ev,t.cY h1,h2.aS t,by rw [ao h5];exact h3,h4.aS t,h5⟩
theorem jD.r (h:jD K H d v p):jE K H v p:=by
 obtain ⟨a,l,sv,us,e,h1,h2,h3,h4,_⟩:=h
 exact ⟨a,l,sv,us,e,h1,h2,h3,h4⟩
theorem jE.same (h:jE K H v p)(s:av H H'):jE K H' v p:=by
 obtain ⟨a,l,sv,us,e,h1,h2,h3,h4⟩:=h
 exact ⟨a,l,sv,us,e,Ty.av.cY s h1,h2.same s,s _ _ h3,h4.same s⟩
theorem lC.same {pins:List aE}{b:a8}(h:lC K H pins v b)(s:av H H'):lC K H' pins v b:=by
 obtain ⟨a,i,j,e,h1,h2,h3⟩:=h
 exact ⟨a,i,j,e,Ty.av.cY s h1,h2,h3⟩
end
structure jF (pins:List aE):Prop where
 np:(pins.map (·.nm)).Nodup
 ns:(pins.map (·.sp)).Nodup
 sz:∀p∈pins,Sz 24 p.sp.1∧Sz 24 p.sp.2
 ws:∀p∈pins,gU p.ws
theorem gU.sz {ws:List (Rat×Rat)}(h:gU ws):∀w∈ws,Sz 22 w.1∧Sz 22 w.2:=fun w hw=>by
 rcases h with rfl | ⟨x,y,rfl,_,h1,h2⟩ | rfl
 ·cases hw
 ·have:w=(x,y):=by simpa using hw
  rw [this]
  exact ⟨h1,h2⟩
 ·have e1:Sz 22 (1:Rat):=jC (k:=22) (i:=1) (by decide) (by decide)
  have e0:Sz 22 (0:Rat):=dF (by decide)
  have:w=(1,0)∨w=(0,1):=by simpa using hw
  rcases this with rfl | rfl
  ·exact ⟨e1,e0⟩
  ·exact ⟨e0,e1⟩
theorem gU.len {ws:List (Rat×Rat)}(h:gU ws):ws.length≤2:=by
 rcases h with rfl | ⟨x,y,rfl,_⟩ | rfl <;> simp
theorem jF.snoc {pins:List aE}{p:aE}(g:jF pins)(h1:p.nm∉pins.map (·.nm))(h2:p.sp∉pins.map (·.sp))(h3:Sz 24 p.sp.1∧Sz 24 p.sp.2)(h4:gU p.ws):jF (pins++[p]):=by
 refine ⟨?_,?_,fun q hq=> ?_,fun q hq=> ?_⟩
 ·rw [adR,aeS]
  refine ⟨g.np,by simp,fun a ha b hb e=>h1 ?_⟩
  have:b=p.nm:=by simpa using hb
  rw [← this, ← e]
  exact ha
 ·rw [adR,aeS]
  refine ⟨g.ns,by simp,fun a ha b hb e=>h2 ?_⟩
  have:b=p.sp:=by simpa using hb
  rw [← this, ← e]
  exact ha
 ·rcases adQ.mp hq with z | z
  ·exact g.sz q z
  ·rw [adJ.mp z]
   exact h3
 ·rcases adQ.mp hq with z | z
  ·exact g.ws q z
  ·rw [adJ.mp z]
   exact h4
structure nQ (pins:List aE)(bars:List a8):Prop where
 nb:(bars.map (·.nm)).Nodup
 ends:∀b∈bars,b.one∈pins∧b.other∈pins∧b.one.nm≠b.other.nm
theorem dO {α β:Type}{F:α→β→Prop}:∀{l₁:List α} {l₂:List β} {a:α} {b:β},Paired F l₁ l₂→F a b→Paired F (l₁++[a]) (l₂++[b])
 | _,_,_,_,.nil,h=>.cons h .nil
 | _,_,_,_,.cons h t,h' =>.cons h (dO t h')
theorem gW {t u:TS}{D:Ends}{σ:L2.St}{H:Hp}(inv:L2.St→Hp→Prop)(h1:∀N:L2.St→Hp→Prop,(∀σ' H',inv σ' H' →N σ' H')→t {D with nx:=N} σ H)(h2:∀σ' H',inv σ' H' →u D σ' H'):NL t u D σ H:=h1 _ h2
theorem Rb {pins:List aE}{bars:List a8}(g:jF pins)(b:nQ pins bars)(lp:pins.length≤9)(lb:bars.length≤14):dy pins bars:=
 ⟨g.np,b.nb,b.ends,fun p hp=>⟨(g.sz p hp).1,(g.sz p hp).2,(g.ws p hp).sz⟩,lp,lb,fun p hp=>(g.ws p hp).len⟩
theorem Rc:bootBuiltins "min"=some (.builtin "min"):=by decide+kernel
def cnt (pins:List aE)(x:Rat):Nat:=(pins.filter fun p=>decide (x≤p.sp.1)).length
theorem EG (x:Rat):∀pins:List aE,cnt pins (x+1)≤cnt pins x
 | []=>adL _
 | p::ps=>by
  have ih:=EG x ps
  unfold cnt at ih ⊢
  rw [afk,afk]
  by_cases c:x+1≤p.sp.1
  ·have c2:x≤p.sp.1:=by grind
   rw [if_pos (decide_eq_true c),if_pos (decide_eq_true c2)]
   simpa using ih
  ·rw [if_neg (by simpa using c)]
   split
   ·rw [ad4]
    omega
   ·exact ih
theorem EH {x:Rat}:∀{pins:List aE},(∃p∈pins,p.sp.1=x)→cnt pins (x+1) < cnt pins x
 | [],⟨p,h,_⟩=>by simp at h
 | p::ps,⟨q,hq,e⟩=>by
  unfold cnt
  rw [afk,afk]
  by_cases c0:p.sp.1=x
  ·have c:¬ x+1≤p.sp.1:=by grind
   have c2:x≤p.sp.1:=by grind
   rw [if_neg (by simpa using c),if_pos (decide_eq_true c2),ad4]
   have:=EG x ps
   unfold cnt at this
   omega
  ·have i6 :q∈ps:=by
    rcases adY.mp hq with z | z
    ·exact absurd (by rw [← z];exact e) c0
    ·exact z
   have ih:=EH (pins:=ps) ⟨q,i6,e⟩
   unfold cnt at ih
   by_cases c:x+1≤p.sp.1
   ·have c2:x≤p.sp.1:=by grind
    rw [if_pos (decide_eq_true c),if_pos (decide_eq_true c2)]
    simpa using ih
   ·rw [if_neg (by simpa using c)]
    split
    ·rw [ad4]
     omega
    ·exact ih
theorem IZ (pins:List aE)(x:Rat):cnt pins x≤pins.length:=ae0 _ _
theorem I_ (r:Rat):fH (qr r) (1,1)=qr (r+1):=by
 have e:fH (qr r) (1,1)=((qr r).1+(qr r).2,(qr r).2):=by
  unfold fH
  simp
 have g:aek ((qr r).1+(qr r).2) (qr r).2=1:=by
  have:=mV r
  rw [← this]
  simp
 rw [e,pE (q:=((qr r).1+(qr r).2,(qr r).2)) (cz r) g]
 congr 1
 have z:=tH (r:=r)
 have v:=dQ r
 unfold vl at v ⊢
 push_cast
 grind
theorem Rf {k:Nat}{r:Rat}(h:Sz k r):Ns k (qr r):=⟨aeD (intBits_le_iff.mp h.top),aeD (intBits_le_iff.mp h.bot)⟩
theorem Ja:∀i:Fin 10,∃N:Fin 6,fU [V.int 0,.int 1,.int 2,.int 2,.int 3,.int 3,.int 3,.int 4,.int 4,.int 5] (i.val:Int)=some (.int (N.val:Int)):=by decide+kernel
theorem zQ:∀st:Fin 3,∀a:Fin 6,∀k:Fin 17,1≤(nameOf (st.val:Int) (a.val:Int) (k.val:Int)).length∧(nameOf (st.val:Int) (a.val:Int) (k.val:Int)).length≤40:=by decide+kernel
inductive rD (K:Frag)(vs:List V)(H:Hp)(Q:VK)(E_:XK):Prop where
 | mk (sA:Addr) (ns:List Int) (_:vs=[.ref sA]) (_:aV K H sA (ns.map V.int)) (_:∀(l:Addr) (us:List V) (pins:List aE) (H' :Hp),av H H' →H l=none→H' l=some (.lst us)→Paired (jE K H') us pins→jF pins→pins.length≤9→(∀p∈pins,(1≤p.nm.length∧p.nm.length≤40)∧p.sp.1≤500020)→Q (.ref l) H'):rD K vs H Q E_
theorem gX:aG ["_law_script","_law_cell","_law_many","_law_kind","_law_pins_here","_law_k","_law_spot_here"] ["_law_script"] (af yZ):=sq
theorem Rg (D:Def K mg "_law_pins" yZ ["_law_script"])(aX:mg "range"=none)(EI:mg "min"=none)(oI:Fn P w K mg base (a_ P w) 1 "_law_cell_at" ["_law_script","_law_k"] (nN K))(cR:Fn P w K mg base (a_ P w) 1 "_law_field" ["_law_cell","_law_prime","_law_many"] fw)
  (XO:Fn P w K mg base (a_ P w) 34 "_law_spot" ["_law_cell","_law_kind"] (rB K)) (XQ:Fn P w K mg base (a_ P w) 34 "_law_ways" ["_law_cell"] (rC K)) (Mh:Fn P w K mg base (a_ P w) 2 "_law_name" ["_law_cell","_law_k"] rq) (nR:Fn P w K mg base (a_ P w) 1 "_law_sum" ["_law_one","_law_other"] (b_ K fH)):
  Fn P w K mg base (a_ P w) 35 "_law_pins" ["_law_script"] (rD K):=by
 refine D.ok gX (fun vs H Q E h=> ?_) (fun f bD A outer s H vs Q E hr h=> ?_)
 ·obtain ⟨sA,ns,rfl,_⟩:=h
  rfl
 obtain ⟨sA,ns,rfl,hS,q⟩:=h
 have L2:2≤sizeLine:=by decide
 have L3:3≤sizeLine:=by decide
 refine ⟨_,(ae (ay (i:=1) gX.nd rfl (adH rfl) (aC oI hr.mo pX (au (pv 0) (au ag aa))))
  (ae (ay (i:=2) gX.nd rfl (adH rfl) (aU aK (bO (au ag (au ag (au ag (au ag (au ag (au ag (au ag (au ag (au ag (au ag aa))))))))))) (aC cR hr.mo pX (au (pv 1) (au ag (au ag aa)))) (fun _ _=>rfl)))
  (ae (ay (i:=3) gX.nd rfl (adH rfl) (aC cR hr.mo pX (au (pv 1) (au ag (au ag aa)))))
  (ae (bG (bf de (pv 3) ag (bu _)) (aj (ay (i:=2) gX.nd rfl (adH rfl) (aT (xQ rfl) rfl EI Rc (au (pv 2) (au ag aa))))) aY)
  (ae (bG (bf de (aC cR hr.mo pX (au (pv 1) (au ag (au ag aa)))) ag (bu _)) (ae (ay (i:=2) gX.nd rfl (adH rfl) ag)
   (aj (ay (i:=3) gX.nd rfl (adH rfl) (aI dW (pv 3) ag)))) aY)
  (ae (ay (i:=4) gX.nd rfl (adH rfl) (bO aa))
  (ae (bq PassesOwn.never rfl (bE rfl aX (au (pv 2) aa)) (aH (i:=5) gX.nd rfl (adH rfl)) (ae (ay (i:=6) gX.nd rfl (adH rfl) (aC XO hr.mo pX (au (aC oI hr.mo pX (au (pv 0) (au (aI bU ag (pv 5)) aa))) (au (pv 3) aa))))
   (ae (mq PassesOwn.never (bf (HV hr.units) (pv 6) (dX (tn:=["_law_pin"]) (fr:=[]) (caps:=[]) rfl ⟨rfl,by decide+kernel,rfl,by decide+kernel,by decide+kernel,rfl,trivial,trivial⟩ (bR (pv 4)) (fun _ _ _ _=>(aH (i:=0) (show (["_law_pin"]:List Str).Nodup from by decide+kernel) rfl (adH rfl))) (fun _ _ _ _=>dA) (fun _ _ _ _=>(aU (fg (K:=K) rfl) (pv 0) ag (fun _ _=>rfl)))) rfl) (aj (ay (i:=6) gX.nd rfl (adH rfl) (aZ (au (aC nR hr.mo pX (au (aR (pv 6)) (au (aZ (au ag (au ag aa))) aa))) (au (aR (pv 6)) aa))))))
   (aj (bQ (kr PySem.F.plainAttrs_list PySem.F.slot_list_append PySem.F.type_list_append c6 (pv 4) (au (aZ (au (aC Mh hr.mo pX (au (pv 1) (au (pv 5) aa))) (au (pv 6) (au (aC XQ hr.mo pX (au (aC oI hr.mo pX (au (pv 0) (au (aI bU ag (pv 5)) aa))) aa)) aa)))) aa)))))))
  (aj (aL (pv 4)))))))))),?_⟩
 refine ⟨_,rfl,sA,ns,0,rfl,hS,by decide,by decide,?_⟩
 generalize cell ns 0=c0
 refine ⟨(by show 10≤sizeLine;decide),?_⟩
 intro t0 nt0;generalize eX:upd _ t0 _=H0;have ⟨st0,et0⟩:=nw nt0 eX;clear eX
 have i1:=a9 (c:=c0) (p:=1009) (m:=10) (by decide)
 refine ⟨_,rfl,_,_,_,rfl,by decide,by decide,by decide,?_⟩
 generalize field c0 1009 10=fi at i1 ⊢
 obtain ⟨fn,rfl⟩:∃n:Nat,fi=(n:Int):=⟨fi.toNat,by omega⟩
 obtain ⟨N,eN⟩:=Ja ⟨fn,by omega⟩
 refine ⟨t0,_,_,_,rfl,rfl,aV.of et0,eN,?_⟩
 refine ⟨_,rfl,_,_,_,rfl,by decide,by decide,by decide,?_⟩
 generalize field c0 2003 3=Kk
 dsimp only
 refine gW (fun σ' H' =>∃N:Nat,N≤5∧σ' =[some (.ref sA),some (.int c0),some (.int (N:Int)),some (.int Kk),none,none,none]∧H' =H0) (fun Nx zR=> ?_) ?_
 ·refine ⟨_,rfl,rfl,_,rfl,?_⟩
  refine bM (fun _=> ?_) (fun _=> ?_)
  ·have hN:=N.isLt
   refine ⟨_,rfl,_,_,rfl,?_⟩
   refine zR _ _ ⟨min N.val 4,by omega,?_,rfl⟩
   have:(if (4:Int) < (N.val:Int) then (4:Int) else (N.val:Int))=((min N.val 4:Nat):Int):=by
    split <;> omega
   rw [this]
   rfl
  ·exact zR _ _ ⟨N.val,by have:=N.isLt;omega,rfl,rfl⟩
 rintro σ' H' ⟨N0,hN0,rfl,rfl⟩
 try dsimp only [AK]
 refine gW (fun σ' H'' =>∃(N:Nat) (kind:Int),N≤9∧σ' =[some (.ref sA),some (.int c0),some (.int (N:Int)),some (.int kind),none,none,none]∧H'' =H') (fun Nx zR=> ?_) ?_
 ·refine ⟨_,rfl,_,_,_,rfl,by decide,by decide,by decide,rfl,_,rfl,?_⟩
  refine bM (fun _=> ?_) (fun _=> ?_)
  ·refine ⟨_,rfl,_,_,rfl,rfl,nz (by omega),?_⟩
   exact zR _ _ ⟨9,_,by omega,rfl,rfl⟩
  ·exact zR _ _ ⟨N0,Kk,by omega,rfl,rfl⟩
 rintro σ' H'' ⟨N,kind,hN,rfl,rfl⟩
 refine ⟨(by show 0≤sizeLine;decide),?_⟩
 intro lp np;generalize eX:upd _ lp _=H1;have ⟨sp,ep⟩:=nw np eX;clear eX
 have L_:=st0.trans sp
 have uL:H lp=none:=st0.free np
 refine ⟨_,rfl,(N:Int),rfl,by omega,by omega,bF (lo:=0) (n:=N) (fun i σ H' =>∃(o5 o6:Option V) (us:List V) (pins:List aE),σ=[some (.ref sA),some (.int c0),some (.int (N:Int)),some (.int kind),some (.ref lp),o5,o6]∧av H H' ∧H' lp=some (.lst us)∧Paired (jD K H' lp) us pins∧jF pins∧pins.length=i∧∀p∈pins,∃j,j < i∧p.nm=nameOf (field c0 3001 3) (field c0 4001 6) (j:Int)∧p.sp.1≤500020) ⟨none,none,[],[],rfl,L_,ep,.nil,⟨by simp,by simp,by simp,by simp⟩,rfl,by simp⟩ ?_ ?_⟩
 ·rintro i σ H2 hi ⟨o5,o6,us,pins,rfl,s2,e2,pp,gp,lpi,nm⟩
  have ei:(0:Int)+(i:Int)=(i:Int):=ad9 _
  rw [ei]
  have lu:us.length=pins.length:=Paired.length pp
  refine ⟨_,rfl,_,rfl,_,_,rfl,rfl,sA,ns,_,rfl,s2.seq hS,by omega,by omega,_,rfl,?_⟩
  refine ⟨_,_,rfl,fun p3 x0 y0 H3 s3 zx zy xb h3=> ?_⟩
  have W9:=s2.trans s3
  have h30:eY K H3 (.ref p3) (x0+((0:Nat):Rat),y0):=by
   have e:x0+((0:Nat):Rat)=x0:=by
    have:((0:Nat):Rat)=0:=by rfl
    rw [this]
    grind
   rw [e]
   exact h3
  dsimp only
  refine gW (fun σ' H' =>∃(sv:V) (x:Rat),σ' =[some (.ref sA),some (.int c0),some (.int (N:Int)),some (.int kind),some (.ref lp),some (.int (i:Int)),some sv]∧av H3 H' ∧eY K H' sv (x,y0)∧(Sz 24 x∧x≤500020)∧(x,y0)∉pins.map (·.sp)) (fun Nx zR=> ?_) ?_
  ·refine ⟨fun m σ H' =>∃(sv:V) (j:Nat),σ=[some (.ref sA),some (.int c0),some (.int (N:Int)),some (.int kind),some (.ref lp),some (.int (i:Int)),some sv]∧av H3 H' ∧eY K H' sv (x0+(j:Rat),y0)∧m=cnt pins (x0+(j:Rat))∧j+cnt pins (x0+(j:Rat))≤pins.length,⟨_,_,0,rfl,av.refl _,h30,rfl,by have:=IZ pins (x0+((0:Nat):Rat));omega⟩,?_⟩
   rintro m σ H4 ⟨sv,j,rfl,s4,h4,rfl,hj⟩
   have e4:=(s3.trans s4) _ _ e2
   have XR:Paired (jD K H4 lp) us pins:=Paired.bZ pp fun _ _ z=>z.same (s3.trans s4)
   have zj:Sz 24 (x0+(j:Rat)):=(zx.add (vi (i:=(j:Int)) (k:=4) (show _ < 16 by omega) (by decide))).up (by decide)
   refine ⟨_,rfl,_,rfl,lp,rfl,⟨_,aV.of e4⟩,fun D1 n1=> ?_⟩
   refine d0 (cap:=[]) (K:=K) (a:=lp) (xs:=us) (fun i v H=>∃p,pins[i]? =some p∧eY K H v p.sp) n1 (by rw [lu];exact adO (show pins.length≤1000 by omega) (by decide)) (fun H2 s2=>aV.of (s2 _ _ e4)) (fun _ _ _ _ _ h0 ks h=>by
     obtain ⟨p,h1,h2⟩:=h
     refine ⟨p,h1,h2.aS fun b xs r=> ?_⟩
     rcases r with r | ⟨o',r⟩
     ·exact .inl (ks _ _ (fun e=>by rw [e,h0] at r;cases r) r)
     ·exact .inr ⟨o',ks _ _ (fun e=>by rw [e,h0] at r;cases r) r⟩) ?_ ?_
   ·intro jj u H6 R hu s6 k
    obtain ⟨p,rT,hp⟩:=aF XR hu
    obtain ⟨a,l,sv,lZ,rfl,h1,h2,_⟩:=hp
    exact ⟨_,rfl,a,_,_,_,rfl,rfl,Ty.av.cY s6 h1,rfl,k _ _ (av.refl _) ⟨p,rT,h2.same s6⟩⟩
   intro ys H6 hy gO s6 hD
   have pq:h8 K H6 ys (pins.map (·.sp)):=j4 (by rw [Wp,hy,lu]) fun j u q' x8 Vr =>by
    obtain ⟨p,h1,h2⟩:=gO j u x8
    rw [ir,h1] at Vr
    cases Vr
    exact h2
   have h6:=h4.same s6
   refine ⟨(x0+(j:Rat),y0),D1,ys,_,rfl,aV.of hD,h6,pq,_,rfl,?_⟩
   refine bM (fun cc=> ?_) (fun cc=> ?_)
   ·have mem:(x0+(j:Rat),y0)∈pins.map (·.sp):=by simpa using cc
    obtain ⟨p,hp,rT⟩:=abt.mp mem
    have lt:=EH (x:=x0+(j:Rat)) ⟨p,hp,by rw [rT]⟩
    have ej:x0+(j:Rat)+1=x0+((j+1:Nat):Rat):=by
     push_cast
     grind
    rw [ej] at lt
    refine ⟨fun σ' H' =>∃(sv:V),σ' =[some (.ref sA),some (.int c0),some (.int (N:Int)),some (.int kind),some (.ref lp),some (.int (i:Int)),some sv]∧av H3 H' ∧eY K H' sv (x0+((j+1:Nat):Rat),y0),fun σ' H' ⟨sv',h1,h2,h3⟩=>⟨_,lt,sv',j+1,h1,h2,h3,rfl,by omega⟩,?_⟩
    obtain ⟨sa,u1,u2,rfl,Jb,XS,M3⟩:=h6
    refine ⟨_,rfl,sa,_,_,_,rfl,rfl,Jb,iW,L2,?_⟩
    intro p7 n7;generalize eX:upd _ p7 _=H7;have ⟨s7,e7⟩:=nw n7 eX;clear eX
    refine ⟨u1,.ref p7,qr (x0+(j:Rat)),(1,1),24,1,rfl,XS.same s7,⟨p7,rfl,cf.of e7⟩,Rf zj,⟨by decide,by decide⟩,by decide,fun p8 H8 s8 e8=> ?_⟩
    rw [I_,ej] at e8
    refine ⟨_,rfl,sa,_,_,_,rfl,rfl,Ty.av.cY (s7.trans s8) Jb,iX,L2,?_⟩
    intro p9 n9;generalize eX:upd _ p9 _=H9;have ⟨s9,e9⟩:=nw n9 eX;clear eX
    have s69:=(s7.trans s8).trans s9
    exact ⟨.ref p9,rfl,(s4.trans s6).trans s69,pV e9 ((iu e8).same s9) (M3.same s69)⟩
   ·have fresh:(x0+(j:Rat),y0)∉pins.map (·.sp):=by simpa using cc
    exact zR _ _ ⟨sv,x0+(j:Rat),rfl,s4.trans s6,h6,⟨zj,(by have OX :((j:Int):Rat)≤((9:Int):Rat):=afi.mpr (by omega);have e1:((j:Int):Rat)=(j:Rat):=rfl;have e2:((9:Int):Rat)=9:=rfl;rw [e1,e2] at OX;grind)⟩,fresh⟩
  rintro σ' H4 ⟨sv,x,rfl,s4,h4,⟨zx',xb'⟩,fresh⟩
  have QL:=s3.trans s4
  have vM:=s2.trans QL
  have e4:=QL _ _ e2
  have XR:Paired (jD K H4 lp) us pins:=Paired.bZ pp fun _ _ z=>z.same QL
  refine ⟨_,rfl,.inl ⟨rfl,_,aV.of e4⟩,_,rfl,_,rfl,_,_,rfl,by omega,by omega,_,rfl,?_⟩
  refine ⟨_,rfl,_,rfl,_,_,rfl,rfl,sA,ns,_,rfl,vM.seq hS,by omega,by omega,?_⟩
  refine ⟨_,rfl,fun l8 us8 ws H8 wk s8 n8 e8 p8=>⟨L3,?_⟩⟩
  intro p9 n9;generalize eX:upd _ p9 _=H9;have ⟨s9,e9⟩:=nw n9 eX;clear eX
  have Vs:=s8.trans s9
  have XT:=Vs _ _ e4
  have pp9:Paired (jD K H9 lp) us pins:=Paired.bZ XR fun _ _ z=>z.same Vs
  refine ⟨lp,_,_,rfl,rfl,XT,(by rw [lu];exact adO (show pins.length≤1000 by omega) (by decide)),?_⟩
  have uI:jD K H9 lp (.ref p9) ⟨nameOf (field c0 3001 3) (field c0 4001 6) (i:Int),(x,y0),ws⟩:=⟨p9,l8,sv,us8,rfl,cf.of e9,h4.same Vs,s9 _ _ e8,p8.same s9,fun z=>by rw [z,e4] at n8;cases n8⟩
  refine ⟨_,_,_,pins++[⟨nameOf (field c0 3001 3) (field c0 4001 6) (i:Int),(x,y0),ws⟩],rfl,fun b o z=> ?_,ah,dO (Paired.bZ pp9 fun _ _ z=>z.upd XT) (uI.upd XT),gp.snoc (fun z=> ?_) fresh ⟨zx',zy.up (by decide)⟩ wk,by simp [lpi],fun p hp=> ?_⟩
  ·rw [ao (aq z uL)]
   exact Vs _ _ (vM _ _ z)
  ·obtain ⟨p,hp,rT⟩:=abt.mp z
   obtain ⟨j,hj,ej,_⟩:=nm p hp
   have i3:=a9 (c:=c0) (p:=3001) (m:=3) (by decide)
   have i4:=a9 (c:=c0) (p:=4001) (m:=6) (by decide)
   have:=uh ⟨(field c0 3001 3).toNat,by omega⟩ ⟨(field c0 4001 6).toNat,by omega⟩ ⟨j,by omega⟩ ⟨i,by omega⟩ (fun z=>by
    have:=congrArg Fin.val z
    simp at this
    omega)
   refine this ?_
   show nameOf (((field c0 3001 3).toNat:Nat):Int) (((field c0 4001 6).toNat:Nat):Int) (j:Int)=nameOf (((field c0 3001 3).toNat:Nat):Int) (((field c0 4001 6).toNat:Nat):Int) (i:Int)
   rw [show (((field c0 3001 3).toNat:Nat):Int)=field c0 3001 3 by omega,show (((field c0 4001 6).toNat:Nat):Int)=field c0 4001 6 by omega, ← ej]
   exact rT
  ·rcases adQ.mp hp with z | z
   ·obtain ⟨j,hj,ej,eb⟩:=nm p z
    exact ⟨j,by omega,ej,eb⟩
   ·rw [adJ.mp z]
    exact ⟨i,by omega,rfl,xb'⟩
 ·rintro σ H2 ⟨o5,o6,us,pins,rfl,s2,e2,pp,gp,lpi,nm⟩
  refine ⟨_,rfl,q lp us pins H2 s2 uL e2 (Paired.bZ pp fun _ _ z=>z.r) gp (by omega) fun p hp=> ?_⟩
  obtain ⟨j,hj,ej,eb⟩:=nm p hp
  refine ⟨?_,eb⟩
  rw [ej]
  have f1:=a9 (c:=c0) (p:=3001) (m:=3) (by decide)
  have f2:=a9 (c:=c0) (p:=4001) (m:=6) (by decide)
  obtain ⟨u,hu⟩:∃n:Nat,field c0 3001 3=(n:Int):=⟨(field c0 3001 3).toNat,by omega⟩
  obtain ⟨v,hv⟩:∃n:Nat,field c0 4001 6=(n:Int):=⟨(field c0 4001 6).toNat,by omega⟩
  rw [hu,hv]
  exact zQ ⟨u,by omega⟩ ⟨v,by omega⟩ ⟨j,by omega⟩
inductive rE (K:Frag)(vs:List V)(H:Hp)(Q:VK)(E_:XK):Prop where
 | mk (sA pA:Addr) (ns:List Int) (us:List V) (pins:List aE) (_:vs=[.ref sA,.ref pA]) (_:aV K H sA (ns.map V.int)) (_:H pA=some (.lst us)) (_:us.length=pins.length) (_:(pins.map (·.nm)).Nodup) (_:pins.length≤9) (_:∀(l:Addr) (fV :List V) (bars:List a8) (H' :Hp),av H H' →H l=none→H' l=some (.lst fV)→Paired (lC K H' pins) fV bars→nQ pins bars→bars.length≤14→Q (.ref l) H'):rE K vs H Q E_
theorem nQ.snoc {pins:List aE}{bars:List a8}{b:a8}(g:nQ pins bars)(h1:b.nm∉bars.map (·.nm))(h2:b.one∈pins∧b.other∈pins∧b.one.nm≠b.other.nm):nQ pins (bars++[b]):=by
 refine ⟨?_,fun q hq=> ?_⟩
 ·rw [adR,aeS]
  refine ⟨g.nb,by simp,fun a ha c hc e=>h1 ?_⟩
  have:c=b.nm:=by simpa using hc
  rw [← this, ← e]
  exact ha
 ·rcases adQ.mp hq with z | z
  ·exact g.ends q z
  ·rw [adJ.mp z]
   exact h2
theorem jG:aG ["_law_script","_law_pins_here","_law_cell","_law_many","_law_bars_here","_law_k","_law_one","_law_step"] ["_law_script","_law_pins_here"] (af y4):=sq
theorem Rh (D:Def K mg "_law_bars" y4 ["_law_script","_law_pins_here"])(aX:mg "range"=none)(ba:mg "len"=none)(oI:Fn P w K mg base (a_ P w) 1 "_law_cell_at" ["_law_script","_law_k"] (nN K))(cR:Fn P w K mg base (a_ P w) 1 "_law_field" ["_law_cell","_law_prime","_law_many"] fw)(Mh:Fn P w K mg base (a_ P w) 2 "_law_name" ["_law_cell","_law_k"] rq):
  Fn P w K mg base (a_ P w) 3 "_law_bars" ["_law_script","_law_pins_here"] (rE K):=by
 refine D.ok jG (fun vs H Q E h=> ?_) (fun f bD A outer s H vs Q E hr h=> ?_)
 ·obtain ⟨sA,pA,ns,us,pins,rfl,_⟩:=h
  rfl
 obtain ⟨sA,pA,ns,us,pins,rfl,hS,hp,lu,np,lp,q⟩:=h
 have L3:3≤sizeLine:=by decide
 refine ⟨_,(ae (ay (i:=2) jG.nd rfl (adH rfl) (aC oI hr.mo pX (au (pv 0) (au ag aa))))
  (ae (ay (i:=3) jG.nd rfl (adH rfl) (aC cR hr.mo pX (au (pv 2) (au ag (au ag aa)))))
  (ae (bG (bf si (aT aJ rfl ba b7 (au (pv 1) aa)) ag (bu _)) (aj (ay (i:=3) jG.nd rfl (adH rfl) ag)) aY)
  (ae (bG (bf de (aT aJ rfl ba b7 (au (pv 1) aa)) ag (bu _)) (aj (ay (i:=3) jG.nd rfl (adH rfl) (aI bU ag (aC cR hr.mo pX (au (pv 2) (au ag (au ag aa))))))) aY)
  (ae (ay (i:=4) jG.nd rfl (adH rfl) (bO aa))
  (ae (bq PassesOwn.never rfl (bE rfl aX (au (pv 3) aa)) (aH (i:=5) jG.nd rfl (adH rfl)) (ae (ay (i:=6) jG.nd rfl (adH rfl) (aC cR hr.mo pX (au (aC oI hr.mo pX (au (pv 0) (au (aI bU ag (pv 5)) aa))) (au ag (au (aT aJ rfl ba b7 (au (pv 1) aa)) aa)))))
   (ae (ay (i:=7) jG.nd rfl (adH rfl) (aI bU ag (aC cR hr.mo pX (au (aC oI hr.mo pX (au (pv 0) (au (aI bU ag (pv 5)) aa))) (au ag (au (aI cG (aT aJ rfl ba b7 (au (pv 1) aa)) ag) aa))))))
   (aj (bQ (kr PySem.F.plainAttrs_list PySem.F.slot_list_append PySem.F.type_list_append c6 (pv 4) (au (aZ (au (aC Mh hr.mo pX (au (pv 2) (au (pv 5) aa))) (au (pv 6) (au (aI dW (aI bU (pv 6) (pv 7)) (aT aJ rfl ba b7 (au (pv 1) aa))) aa)))) aa)))))))
  (aj (aL (pv 4))))))))),?_⟩
 refine ⟨_,rfl,sA,ns,1,rfl,hS,by decide,by decide,?_⟩
 generalize cell ns 1=c0
 have i1:=a9 (c:=c0) (p:=1009) (m:=8) (by decide)
 refine ⟨_,rfl,_,_,_,rfl,by decide,by decide,by decide,?_⟩
 generalize field c0 1009 8=fi at i1 ⊢
 obtain ⟨fn,rfl⟩:∃n:Nat,fi=(n:Int):=⟨fi.toNat,by omega⟩
 dsimp only
 refine gW (fun σ' H' =>∃N:Nat,N≤7∧(0 < N→2≤pins.length)∧σ' =[some (.ref sA),some (.ref pA),some (.int c0),some (.int (N:Int)),none,none,none,none]∧H' =H) (fun Nx zR=> ?_) ?_
 ·refine ⟨_,rfl,pA,_,rfl,.inl (aV.of hp),_,_,rfl,rfl,_,rfl,?_⟩
  refine bM (fun _=> ?_) (fun c=> ?_)
  ·exact zR _ _ ⟨0,by omega,by omega,rfl,rfl⟩
  ·have c' :¬ (us.length:Int) < 2:=fun z=>c (decide_eq_true z)
   exact zR _ _ ⟨fn,by omega,fun _=>by omega,rfl,rfl⟩
 rintro σ' Hx ⟨N0,hN0,XU,rfl,rfl⟩
 try dsimp only [AK]
 refine gW (fun σ' H' =>∃N:Nat,N≤14∧(0 < N→2≤pins.length)∧σ' =[some (.ref sA),some (.ref pA),some (.int c0),some (.int (N:Int)),none,none,none,none]∧H' =Hx) (fun Nx zR=> ?_) ?_
 ·refine ⟨_,rfl,pA,_,rfl,.inl (aV.of hp),rfl,_,rfl,?_⟩
  refine bM (fun c=> ?_) (fun _=>zR _ _ ⟨N0,by omega,XU,rfl,rfl⟩)
  have f7:=a9 (c:=c0) (p:=2003) (m:=7) (by decide)
  have c9:(us.length:Int)=9:=by
   have:=of_decide_eq_true c
   injection this
  refine ⟨_,rfl,_,_,_,rfl,by decide,by decide,by decide,_,_,rfl,rfl,?_⟩
  generalize field c0 2003 7=XW at f7 ⊢
  refine zR _ _ ⟨(8+XW).toNat,by omega,fun _=>by omega,?_,rfl⟩
  rw [show (((8+XW).toNat:Nat):Int)=8+XW by omega]
  rfl
 rintro σ' Hy ⟨N,hN,WE,rfl,rfl⟩
 refine ⟨(by show 0≤sizeLine;decide),?_⟩
 intro lb nb;generalize eX:upd _ lb _=H1;have ⟨sb,eb⟩:=nw nb eX;clear eX
 refine ⟨_,rfl,(N:Int),rfl,by omega,by omega,bF (lo:=0) (n:=N) (fun i σ H' =>∃(o5 o6 o7:Option V) (fV :List V) (bars:List a8),σ=[some (.ref sA),some (.ref pA),some (.int c0),some (.int (N:Int)),some (.ref lb),o5,o6,o7]∧av Hy H' ∧H' lb=some (.lst fV)∧Paired (lC K H' pins) fV bars∧nQ pins bars∧bars.length=i∧∀b∈bars,∃j,j < i∧b.nm=nameOf (field c0 3001 3) (field c0 4001 6) (j:Int)) ⟨none,none,none,[],[],rfl,sb,eb,.nil,⟨by simp,by simp⟩,rfl,by simp⟩ ?_ ?_⟩
 ·rintro i σ H2 hi ⟨o5,o6,o7,fV,bars,rfl,s2,e2,pb,gb,lbi,nm⟩
  have ei:(0:Int)+(i:Int)=(i:Int):=ad9 _
  rw [ei]
  have n2:2≤pins.length:=WE (by omega)
  have lv:fV.length=bars.length:=Paired.length pb
  have sp:=aV.of (K:=K) (s2 _ _ hp)
  refine ⟨_,rfl,_,rfl,_,_,rfl,rfl,sA,ns,_,rfl,s2.seq hS,by omega,by omega,_,rfl,pA,_,rfl,.inl sp,_,_,_,rfl,by decide,by decide,by omega,?_⟩
  have j1:=a9 (c:=cell ns (12+(i:Int))) (p:=1009) (m:=(us.length:Int)) (by omega)
  have j2:=a9 (c:=cell ns (12+(i:Int))) (p:=2003) (m:=(us.length:Int) - 1) (by omega)
  refine ⟨_,rfl,_,rfl,_,_,rfl,rfl,sA,ns,_,rfl,s2.seq hS,by omega,by omega,_,rfl,pA,_,rfl,.inl sp,_,_,rfl,rfl,_,_,_,rfl,by decide,by decide,by omega,_,_,rfl,rfl,?_⟩
  generalize field (cell ns (12+(i:Int))) 1009 (us.length:Int)=one at j1 ⊢
  generalize field (cell ns (12+(i:Int))) 2003 ((us.length:Int) - 1)=step at j2 ⊢
  obtain ⟨on,rfl⟩:∃n:Nat,one=(n:Int):=⟨one.toNat,by omega⟩
  have oo:∃m:Nat,((on:Int)+(1+step)).fmod (us.length:Int)=(m:Int)∧m < us.length∧m≠on:=by
   have f:=mf (x:=(on:Int)+(1+step)) (m:=(us.length:Int)) (by omega)
   refine ⟨(((on:Int)+(1+step)).fmod (us.length:Int)).toNat,by omega,by omega,fun z=> ?_⟩
   have e:((on:Int)+(1+step)).fmod (us.length:Int)=(on:Int):=by omega
   rw [Int.fmod_eq_emod_of_nonneg _ (by omega)] at e
   by_cases c:(on:Int)+(1+step) < (us.length:Int)
   ·rw [anj (by omega) c] at e
    omega
   ·rw [← Int.sub_emod_right,anj (by omega) (by omega)] at e
    omega
  obtain ⟨Vt,Vr,l2',ne2⟩:=oo
  refine ⟨_,rfl,.inl ⟨rfl,_,aV.of e2⟩,_,rfl,_,rfl,_,_,rfl,by omega,by omega,_,rfl,_,rfl,_,rfl,_,_,rfl,rfl,_,rfl,pA,_,rfl,.inl sp,_,_,rfl,rfl,nz (by omega),L3,?_⟩
  intro p9 n9;generalize eX:upd _ p9 _=H9;have ⟨s9,e9⟩:=nw n9 eX;clear eX
  have e9:H9 p9=some (.tup [.str (nameOf (field c0 3001 3) (field c0 4001 6) (i:Int)),.int (on:Int),.int (((on:Int)+(1+step)).fmod (us.length:Int))]):=e9
  rw [Vr] at e9
  have Nn:=s9 _ _ e2
  refine ⟨lb,_,_,rfl,rfl,Nn,(by rw [lv];exact adO (show bars.length≤1000 by omega) (by decide)),?_⟩
  have l1:on < pins.length:=by omega
  have l2:Vt < pins.length:=by omega
  have st:bC H9 (upd H9 lb (.lst (fV ++[.ref p9]))):=.list Nn
  have ns9:∀(v:V) (b:a8),lC K H2 pins v b→lC K (upd H9 lb (.lst (fV ++[.ref p9]))) pins v b:=fun v b h=>by
   obtain ⟨a,i',j',e,h1,h2,h3⟩:=h.same s9
   exact ⟨a,i',j',e,st.cY h1,h2,h3⟩
  refine ⟨_,_,_,fV ++[.ref p9],bars++[⟨nameOf (field c0 3001 3) (field c0 4001 6) (i:Int),pins[on],pins[Vt]⟩],rfl,fun b o z=> ?_,ah,dO (Paired.bZ pb fun _ _ z=>ns9 _ _ z) ?_,gb.snoc (fun z=> ?_) ⟨aeq l1,aeq l2,fun z=> ?_⟩,by simp [lbi],fun b hb=> ?_⟩
  ·rw [ao (aq z nb)]
   exact s9 _ _ (s2 _ _ z)
  ·exact ⟨p9,on,Vt,rfl,st.cY (cf.of e9),gE l1,gE l2⟩
  ·obtain ⟨b,hb,rT⟩:=abt.mp z
   obtain ⟨j,hj,ej⟩:=nm b hb
   have i3:=a9 (c:=c0) (p:=3001) (m:=3) (by decide)
   have i4:=a9 (c:=c0) (p:=4001) (m:=6) (by decide)
   have:=uh ⟨(field c0 3001 3).toNat,by omega⟩ ⟨(field c0 4001 6).toNat,by omega⟩ ⟨j,by omega⟩ ⟨i,by omega⟩ (fun z=>by
    have:=congrArg Fin.val z
    simp at this
    omega)
   refine this ?_
   show nameOf (((field c0 3001 3).toNat:Nat):Int) (((field c0 4001 6).toNat:Nat):Int) (j:Int)=nameOf (((field c0 3001 3).toNat:Nat):Int) (((field c0 4001 6).toNat:Nat):Int) (i:Int)
   rw [show (((field c0 3001 3).toNat:Nat):Int)=field c0 3001 3 by omega,show (((field c0 4001 6).toNat:Nat):Int)=field c0 4001 6 by omega, ← ej]
   exact rT
  ·have q1:(pins.map (·.nm))[on]? =some pins[on].nm:=by rw [ir,gE l1];rfl
   have q2:(pins.map (·.nm))[Vt]? =some pins[on].nm:=by rw [ir,gE l2];exact congrArg some z.symm
   exact ne2 ((afg (by rw [Wp];omega) np).mp (q1.trans q2.symm)).symm
  ·rcases adQ.mp hb with z | z
   ·obtain ⟨j,hj,ej⟩:=nm b z
    exact ⟨j,by omega,ej⟩
   ·rw [adJ.mp z]
    exact ⟨i,by omega,rfl⟩
 ·rintro σ H2 ⟨o5,o6,o7,fV,bars,rfl,s2,e2,pb,gb,lbi,nm⟩
  exact ⟨_,rfl,q lb fV bars H2 s2 nb e2 pb gb (by omega)⟩
theorem Jc (v:V):aeN ("ways":Str) [(("way":Str),v)]=none:=by
 have h:(("ways":Str)=="way")=false:=by decide+kernel
 simp [aeN,h]
inductive nS (K:Frag)(C:Addr)(vs:List V)(H:Hp)(Q:VK)(E_:XK):Prop where
 | mk (pA bA:Addr) (us fV :List V) (pins:List aE) (bars:List a8) (_:vs=[.ref pA,.ref bA]) (_:H pA=some (.lst us)) (_:Paired (jE K H) us pins) (_:H bA=some (.lst fV)) (_:Paired (lC K H pins) fV bars) (_:jF pins) (_:nQ pins bars) (_:pins.length≤9) (_:bars.length≤14) (_:∀(a:Addr) (H' :Hp),av H H' →yr K H' C a pins bars→Q (.ref a) H'):nS K C vs H Q E_
theorem kJ:aG ["_law_pins_here","_law_bars_here","_law_frame_here","_law_name_here","_law_spot_here","_law_ways_here","_law_one","_law_other"] ["_law_pins_here","_law_bars_here"] (af y6):=sq
theorem Ri {C CR CF fI fR:Addr}{fdI fdR:FuncData}(D:Def K mg "_law_frame" y6 ["_law_pins_here","_law_bars_here"])(ba:mg "len"=none)(Mi:Mk K C fI)(Mj:mg "Frame"=some (.ref C))(XX:cH P w K mg base (a_ P w) 1 fI fdI ["self"] (qY K C))(Ml:Binds K fdI ["self"] [])
  (Mm:mg "Roller"=some (.ref CR)) (Mn:mg "Fixed"=some (.ref CF)) (Mo:Ot K CF) (Mp:Mk K CR fR) (XY:cH P w K mg base (a_ P w) 1 fR fdR ["self","x","y"] (q4 K CR)) (Mq:Binds K fdR ["self","x","y"] [])
  (wR:bK P w K mg base (a_ P w) 2 CR "ways" ["self"] (jo K CR)) (wF:bK P w K mg base (a_ P w) 2 CF "ways" ["self"] (jq K))
  (XZ:bK P w K mg base (a_ P w) 3 C "put_bar" ["self","name","one","other"] (jr K C)) (Vu:bK P w K mg base (a_ P w) 3 C "put_pin" ["self","name","x","y","hold"] (dE P w K mg base C)) (X0:vg P w K mg base (a_ P w) 3 C "put_pin" ["self","name","x","y","hold"] [.none] (dE P w K mg base C)):
  Fn P w K mg base (a_ P w) 4 "_law_frame" ["_law_pins_here","_law_bars_here"] (nS K C):=by
 refine D.ok kJ (fun vs H Q E h=> ?_) (fun f bD A outer s H vs Q E hr h=> ?_)
 ·obtain ⟨pA,bA,us,fV,pins,bars,rfl,_⟩:=h
  rfl
 obtain ⟨pA,bA,us,fV,pins,bars,rfl,hp,pp,hb,pb,gp,gb,lp6,lb8,q⟩:=h
 have lu:us.length=pins.length:=Paired.length pp
 refine ⟨_,(ae (ay (i:=2) kJ.nd rfl (adH rfl) (BB Mi XX hr.mo rfl Mj Ml .nil (pY P w)))
  (ae (bq PassesOwn.never rfl (bR (pv 0)) (fW rfl (bo (aH (i:=3) kJ.nd rfl (adH rfl)) (bo (aH (i:=4) kJ.nd rfl (adH rfl)) (bo (aH (i:=5) kJ.nd rfl (adH rfl)) dc)))) (ae (bG (bf de (aT aJ rfl ba b7 (au (pv 5) aa)) ag (bu _)) (aj (bQ (HU (k:=3) (pv 2) hr.mo (pY P w) (au (pv 3) (au (aR (pv 4)) (au (aR (pv 4)) aa)))))) aY)
   (ae (bG (bf de (aT aJ rfl ba b7 (au (pv 5) aa)) ag (bu _)) (aj (bQ (dB (k:=3) (pv 2) hr.mo (pY P w) (au (pv 3) (au (aR (pv 4)) (au (aR (pv 4)) (au (GV Mp XY hr.mo rfl Mm Mq .nil (pY P w) (au (aR (gN (pv 5))) (au (aR (gN (pv 5))) aa))) aa))))))) aY)
   (aj (bG (bf de (aT aJ rfl ba b7 (au (pv 5) aa)) ag (bu _)) (aj (bQ (dB (k:=3) (pv 2) hr.mo (pY P w) (au (pv 3) (au (aR (pv 4)) (au (aR (pv 4)) (au (Le Mo rfl Mn) aa))))))) aY)))))
  (ae (bq PassesOwn.never rfl (bR (pv 1)) (fW rfl (bo (aH (i:=3) kJ.nd rfl (adH rfl)) (bo (aH (i:=6) kJ.nd rfl (adH rfl)) (bo (aH (i:=7) kJ.nd rfl (adH rfl)) dc)))) (aj (bQ (dB (k:=3) (pv 2) hr.mo (pY P w) (au (pv 3) (au (aR (aU aK (pv 0) (pv 6) (fun _ _=>rfl))) (au (aR (aU aK (pv 0) (pv 7) (fun _ _=>rfl))) aa)))))))
  (aj (aL (pv 2)))))),?_⟩
 intro a dx na ndx nad
 have sF:av H (upd (upd H dx (.own a)) a (.ins C dx [])):=fun b o e=>by rw [ao (aq e na),ao (aq e ndx)];exact e
 refine ⟨a,dx,rfl,ah,fun pP pW pB H1 k1 nP nW nB R1=>⟨rfl,?_⟩⟩
 have s1:av H H1:=fun b o e=>k1 b o (aq e na) (sF _ _ e)
 have nP:=j9 sF nP
 have nW:=j9 sF nW
 have nB:=j9 sF nB
 refine ⟨_,rfl,pA,rfl,⟨_,aV.of (s1 _ _ hp)⟩,cT (K:=K) (a:=pA) (xs:=us) (fun i σ H' =>∃(o4 o5 o6:Option V) (kP kW:List (Key×V)),σ=[some (.ref pA),some (.ref bA),some (.ref a),o4,o5,o6,none,none]∧av H H' ∧e_ K H' C a dx pP pW pB ((pins.take i).map fun p=>(p.nm,rX p.sp)) [] kP kW []∧uJ K H' ((pins.take i).map fun p=>(p.nm,p.ws)) kW) ⟨none,none,none,[],[],rfl,s1,R1,.nil⟩ (fun i σ H' _ h=>by
   obtain ⟨_,_,_,_,_,_,s,_⟩:=h
   exact aV.of (s _ _ hp)) ?_ ?_⟩
 ·rintro i u σ H2 hu ⟨o4,o5,o6,kP,kW,rfl,s2,R2,W2⟩
  obtain ⟨p,ep,Mr⟩:=aF pp hu
  have mp:p∈pins:=aa_ ep
  obtain ⟨ta,l,sv,ws,rfl,h1,h2,h3,h4⟩:=Mr.same s2
  obtain ⟨sa,x1,y1,rfl,Jb,XS,M3⟩:=h2
  refine ⟨ta,_,rfl,h1,rfl,_,_,rfl,_,_,rfl,_,_,rfl,rfl,?_⟩
  have tk:=take_snoc ep
  have il:i < pins.length:=(be.mp ep).1
  have nlP:l≠pP:=fun z=>by rw [z,R2.pl] at h3;cases h3
  have nlW:l≠pW:=fun z=>by rw [z,R2.wy] at h3;cases h3
  have fin:∀(hv:V) (H5:Hp) (Q5:VK) (E5:XK),av H2 H5→Kb P w K mg base H5 hv p.ws→
    (∀H' DG tF,av H H' →H' l=some (.lst ws)→e_ K H' C a dx pP pW pB ((pins.take (i+1)).map fun p=>(p.nm,rX p.sp)) [] DG tF []→uJ K H' ((pins.take (i+1)).map fun p=>(p.nm,p.ws)) tF →Q5 .cA H')→dE P w K mg base C [.ref a,.str p.nm,x1,y1,hv] H5 Q5 E5:=fun hv H5 Q5 E5 s5 hY fin=>by
   refine ⟨a,dx,pP,pW,pB,_,_,kP,kW,_,_,p.nm,x1,y1,hv,rX p.sp,p.ws,rfl,R2.same s5,W2.same s5,by rw [ad1,ad1];rfl,XS.same s5,M3.same s5,fun z=> ?_,fun z hz e=> ?_,?_,hY,fun H' DG tF k' R' W' => ?_⟩
   ·rw [ad1] at z
    obtain ⟨p',ju,e'⟩:=abt.mp z
    exact eI (nm:=aE.nm) gp.np ep ju e'
   ·obtain ⟨p',ju,e'⟩:=abt.mp hz
    rw [← e'] at e
    have e1:=congrArg anb e
    have e2:=congrArg anc e
    have e3:p'.sp=p.sp:=amU (iD e1) (iD e2)
    obtain ⟨j,hj,ej⟩:=aeu.mp ju
    rw [anh] at ej
    rw [adZ] at hj
    have q1:(pins.map (·.sp))[j]? =some p.sp:=by rw [ir,gE (by omega),ej, ← e3];rfl
    have q2:(pins.map (·.sp))[i]? =some p.sp:=by rw [ir,ep];rfl
    have:=(afg (by rw [Wp];omega) gp.ns).mp (q1.trans q2.symm)
    omega
   ·rw [Wp,adZ]
    omega
   ·refine fin H' DG tF (fun b o z=>k' b o (aq z nP) (aq z nW) (s5 _ _ (s2 _ _ z))) (k' _ _ nlP nlW (s5 _ _ h3)) ?_ ?_
    ·rw [tk,adR]
     exact R'
    ·rw [tk,adR]
     exact W'
  have l2:=aV.of (K:=K) h3
  have lw:ws.length=p.ws.length:=Paired.length h4
  refine ⟨_,rfl,l,_,rfl,.inl l2,rfl,_,rfl,?_⟩
  rcases gp.ws p mp with hw | ⟨wx,wy,hw,wn,_,_⟩ | hw
  ·rw [hw] at lw
   refine bM (fun _=> ?_) (fun c=>by rw [lw] at c;simp at c)
   refine ⟨_,rfl,a,C,dx,_,_,_,rfl,R2.obj,rfl,X0,_,rfl,_,rfl,sa,_,_,_,rfl,rfl,Jb,iW,_,rfl,sa,_,_,_,rfl,rfl,Jb,iX,?_⟩
   dsimp only [i5]
   refine fin .cA H2 _ _ (av.refl _) (.inl ⟨rfl,hw⟩) fun H' DG tF s' l' R' W' => ?_
   have l' :=aV.of (K:=K) l'
   refine ⟨_,rfl,l,_,rfl,.inl l',rfl,_,rfl,?_⟩
   refine bM (fun c=>by rw [lw] at c;simp at c) (fun _=> ?_)
   refine ⟨_,rfl,l,_,rfl,.inl l',rfl,_,rfl,?_⟩
   refine bM (fun c=>by rw [lw] at c;simp at c) (fun _=> ?_)
   exact ⟨_,_,_,DG,tF,rfl,s',R',W'⟩
  ·rw [hw] at lw h4
   obtain ⟨w0,rfl⟩:∃w0,ws=[w0]:=by
    match ws,lw with
    | [w0],_=>exact ⟨w0,rfl⟩
   have hw0:eY K H2 w0 (wx,wy):=by
    cases h4 with
    | cons h _=>exact h
   obtain ⟨wa,y2,y3,rfl,M7,M_,hm2⟩:=hw0
   refine bM (fun c=>by simp at c) (fun _=> ?_)
   refine ⟨_,rfl,l,_,rfl,.inl l2,rfl,_,rfl,?_⟩
   refine bM (fun _=> ?_) (fun c=>absurd rfl c)
   refine ⟨_,rfl,a,C,dx,_,_,_,rfl,R2.obj,rfl,Vu,_,rfl,_,rfl,sa,_,_,_,rfl,rfl,Jb,iW,_,rfl,sa,_,_,_,rfl,rfl,Jb,iX,?_⟩
   refine ⟨_,rfl,l,_,_,_,rfl,rfl,l2,rfl,wa,_,_,_,rfl,rfl,M7,iW,_,rfl,l,_,_,_,rfl,rfl,l2,rfl,wa,_,_,_,rfl,rfl,M7,iX,?_⟩
   intro hW d1 Vv X1 ne1
   have s4:av H2 (upd (upd H2 d1 (.own hW)) hW (.ins CR d1 [])):=fun b o e=>by rw [ao (aq e Vv),ao (aq e X1)];exact e
   have e4:(upd (upd H2 d1 (.own hW)) hW (.ins CR d1 [])) hW =some (.ins CR d1 []):=ah
   generalize upd (upd H2 d1 (.own hW)) hW (.ins CR d1 [])=H4 at s4 e4 ⊢
   refine ⟨hW,d1,y2,y3,wx,wy,rfl,e4,M_.same s4,hm2.same s4,wn,fun p5 n5=>⟨rfl,?_⟩⟩
   have FH:p5≠hW :=fun z=>by rw [z,e4] at n5;cases n5
   have s5:av H2 (upd (upd H4 p5 (.tup [y2,y3])) hW (.ins CR d1 [("way",.ref p5)])):=fun b o e=>by
    have z:b≠hW :=fun z=>by rw [z,Vv] at e;cases e
    rw [ao z]
    exact aD n5 _ _ _ (s4 _ _ e)
   have e5:(upd (upd H4 p5 (.tup [y2,y3])) hW (.ins CR d1 [("way",.ref p5)])) hW =some (.ins CR d1 [("way",.ref p5)]):=ah
   have t5:(upd (upd H4 p5 (.tup [y2,y3])) hW (.ins CR d1 [("way",.ref p5)])) p5=some (.tup [y2,y3]):=by rw [ao FH,ah]
   generalize upd (upd H4 p5 (.tup [y2,y3])) hW (.ins CR d1 [("way",.ref p5)])=H5 at s5 e5 t5 ⊢
   have X2:eY K H5 (.ref p5) (wx,wy):=pV t5 (M_.same s5) (hm2.same s5)
   dsimp only [i5]
   refine fin (.ref hW) H5 _ _ s5 (.inr ⟨hW,CR,d1,_,["self"],jo K CR,rfl,e5,Jc _,wR,fun H6 e6 t6 Q' an=>⟨hW,d1,p5,(wx,wy),rfl,e6,X2.aS t6,by rw [hw] at an;exact an⟩⟩) fun H' DG tF s' l' R' W' => ?_
   refine ⟨_,rfl,l,_,rfl,.inl (aV.of (K:=K) l'),rfl,_,rfl,?_⟩
   refine bM (fun c=>by simp at c) (fun _=> ?_)
   exact ⟨_,_,_,DG,tF,rfl,s',R',W'⟩
  ·rw [hw] at lw
   refine bM (fun c=>by rw [lw] at c;simp at c) (fun _=> ?_)
   refine ⟨_,rfl,l,_,rfl,.inl l2,rfl,_,rfl,?_⟩
   refine bM (fun c=>by rw [lw] at c;simp at c) (fun _=> ?_)
   refine ⟨_,rfl,l,_,rfl,.inl l2,rfl,_,rfl,?_⟩
   refine bM (fun _=> ?_) (fun c=>by rw [lw] at c;simp at c)
   refine ⟨_,rfl,a,C,dx,_,_,_,rfl,R2.obj,rfl,Vu,_,rfl,_,rfl,sa,_,_,_,rfl,rfl,Jb,iW,_,rfl,sa,_,_,_,rfl,rfl,Jb,iX,?_⟩
   intro hW d1 Vv X1 ne1
   have s4:av H2 (upd (upd H2 d1 (.own hW)) hW (.ins CF d1 [])):=fun b o e=>by rw [ao (aq e Vv),ao (aq e X1)];exact e
   have e4:(upd (upd H2 d1 (.own hW)) hW (.ins CF d1 [])) hW =some (.ins CF d1 []):=ah
   generalize upd (upd H2 d1 (.own hW)) hW (.ins CF d1 [])=H4 at s4 e4 ⊢
   dsimp only [i5]
   refine fin (.ref hW) H4 _ _ s4 (.inr ⟨hW,CF,d1,_,["self"],jq K,rfl,e4,rfl,wF,fun H6 _ _ Q' an=>⟨hW,rfl,by rw [hw] at an;exact an⟩⟩) fun H' DG tF s' l' R' W' => ?_
   exact ⟨_,_,_,DG,tF,rfl,s',R',W'⟩
 ·rintro σ H2 ⟨o4,o5,o6,kP,kW,rfl,s2,R2,W2⟩
  rw [lu,aea] at R2 W2
  have lv:fV.length=bars.length:=Paired.length pb
  refine ⟨_,rfl,bA,rfl,⟨_,aV.of (s2 _ _ hb)⟩,cT (K:=K) (a:=bA) (xs:=fV) (fun i σ H' =>∃(o3 o7 o8:Option V) (kB:List (Key×V)),σ=[some (.ref pA),some (.ref bA),some (.ref a),o3,o5,o6,o7,o8]∧av H H' ∧e_ K H' C a dx pP pW pB (pins.map fun p=>(p.nm,rX p.sp)) ((bars.take i).map fun b=>(b.nm,b.one.nm,b.other.nm)) kP kW kB∧uJ K H' (pins.map fun p=>(p.nm,p.ws)) kW) ⟨_,none,none,[],rfl,s2,R2,W2⟩ (fun i σ H' _ h=>by
    obtain ⟨_,_,_,_,_,s,_⟩:=h
    exact aV.of (s _ _ hb)) ?_ ?_⟩
  ·rintro i u σ H3 hu ⟨o3,o7,o8,kB,rfl,s3,R3,W3⟩
   obtain ⟨b,Vw,FQ⟩:=aF pb hu
   have mb:b∈bars:=aa_ Vw
   obtain ⟨ta,i1,j1,rfl,h1,g1,g2⟩:=FQ.same s3
   obtain ⟨m1,m2,m3⟩:=gb.ends b mb
   have tk:=take_snoc Vw
   have il:i < bars.length:=(be.mp Vw).1
   have Rj :∀(k:Nat) (p:aE),pins[k]? =some p→∃(c la:Addr) (sv:V),fU us (k:Int)=some (.ref c)∧cf K H3 c [.str p.nm,sv,.ref la]:=fun k p ek=>by
    obtain ⟨u',X3,X4⟩:=aF (bL pp) ek
    obtain ⟨c,la,sv,ws,rfl,q1,_⟩:=jE.same X4 s3
    exact ⟨c,la,sv,bh X3,q1⟩
   obtain ⟨c1,la1,sv1,X5,q1⟩:=Rj _ _ g1
   obtain ⟨c2,la2,sv2,X6,q2⟩:=Rj _ _ g2
   refine ⟨ta,_,rfl,h1,rfl,_,_,rfl,_,_,rfl,_,_,rfl,rfl,?_⟩
   have lp3:=aV.of (K:=K) (s3 _ _ hp)
   refine ⟨_,rfl,a,C,dx,_,_,_,rfl,R3.obj,rfl,XZ,_,rfl,_,rfl,_,rfl,pA,_,_,_,rfl,rfl,lp3,X5,c1,_,_,_,rfl,rfl,q1,rfl,_,rfl,_,rfl,pA,_,_,_,rfl,rfl,lp3,X6,c2,_,_,_,rfl,rfl,q2,rfl,?_⟩
   refine ⟨a,dx,pP,pW,pB,_,_,kP,kW,kB,b.nm,b.one.nm,b.other.nm,rfl,R3,fun z=> ?_,?_,?_,m3,?_,fun H' Xm k' R' => ?_⟩
   ·rw [ad1] at z
    obtain ⟨b',fL,e'⟩:=abt.mp z
    exact eI (nm:=a8.nm) gb.nb Vw fL e'
   ·rw [ad1]
    exact abt.mpr ⟨_,m1,rfl⟩
   ·rw [ad1]
    exact abt.mpr ⟨_,m2,rfl⟩
   ·rw [Wp,adZ]
    omega
   ·refine ⟨_,_,_,Xm,rfl,fun c o z=>k' c o (aq z nB) (s3 _ _ z),?_,?_⟩
    ·rw [tk,adR]
     exact R'
    ·refine Paired.bZ W3 fun p' kv z=>⟨z.1,?_⟩
     obtain ⟨l',lZ,z1,z2,z3⟩:=z.2
     refine ⟨l',lZ,z1,k' _ _ (fun z=>by rw [z,R3.br] at z2;cases z2) z2,z3.aS fun c xs r=> ?_⟩
     rcases r with r | ⟨o',r⟩
     ·exact .inl (k' _ _ (fun e=>by rw [e,R3.br] at r;cases r) r)
     ·exact .inr ⟨o',k' _ _ (fun e=>by rw [e,R3.br] at r;cases r) r⟩
  ·rintro σ H3 ⟨o3,o7,o8,kB,rfl,s3,R3,W3⟩
   rw [lv,aea] at R3
   exact ⟨_,rfl,q a H3 s3 ⟨⟨dx,pP,pW,pB,kP,kW,kB,R3,W3⟩⟩⟩
def ax (k:Int)(p:Rat×Rat):Rat:=if k=0 then p.1 else p.2
theorem EJ {K:Frag}{H:Hp}{v:V}{p:Rat×Rat}{k:Int}(hk:k=0∨k=1)(h:eY K H v p):∃(a:Addr) (xs:List V) (u:V),v=.ref a∧cf K H a xs∧fU xs k=some u∧fJ K H u (ax k p):=by
 obtain ⟨a,u1,u2,rfl,hq,h1,h2⟩:=h
 rcases hk with rfl | rfl
 ·exact ⟨a,_,u1,rfl,hq,rfl,h1⟩
 ·exact ⟨a,_,u2,rfl,hq,rfl,h2⟩
theorem EK {n:Nat}{p:Rat×Rat}{k:Int}(h:Sz n p.1∧Sz n p.2):Sz n (ax k p):=by
 unfold ax
 split
 ·exact h.1
 ·exact h.2
theorem EL {K:Frag}{H:Hp}{us:List V}{pins:List aE}{k:Nat}{p:aE}(pp:Paired (jE K H) us pins)(e:pins[k]? =some p):∃(c la:Addr) (sv:V),fU us (k:Int)=some (.ref c)∧cf K H c [.str p.nm,sv,.ref la]∧eY K H sv p.sp:=by
 obtain ⟨u',X3,X4⟩:=aF (bL pp) e
 obtain ⟨c,la,sv,ws,rfl,q1,q2,_⟩:jE K H u' p:=X4
 exact ⟨c,la,sv,bh X3,q1,q2⟩
inductive vQ (K:Frag)(vs:List V)(H:Hp)(Q:VK)(E_:XK):Prop where
 | mk (pA:Addr) (us:List V) (pins:List aE) (u:V) (b:a8) (k:Int) (_:vs=[.ref pA,u,.int k]) (_:H pA=some (.lst us)) (_:Paired (jE K H) us pins) (_:jF pins) (_:lC K H pins u b) (_:(k=0∨k=1)) (_:∀(v:V) (H' :Hp),av H H' →fK K H' v 49 (ax k b.other.sp - ax k b.one.sp)→Q v H'):vQ K vs H Q E_
theorem Rk:aG ["_law_pins_here","_law_bar","_law_axis"] ["_law_pins_here","_law_bar","_law_axis"] (af y8):=sq
theorem Rl (D:Def K mg "_law_arm" y8 ["_law_pins_here","_law_bar","_law_axis"])(nR:Fn P w K mg base (a_ P w) 1 "_law_sum" ["_law_one","_law_other"] (b_ K fH))(EM:Fn P w K mg base (a_ P w) 1 "_law_turned" ["_law_one"] (fB K)):
  Fn P w K mg base (a_ P w) 2 "_law_arm" ["_law_pins_here","_law_bar","_law_axis"] (vQ K):=by
 refine D.ok Rk (fun vs H Q E h=> ?_) (fun f bD A outer s H vs Q E hr h=> ?_)
 ·obtain ⟨pA,us,pins,u,b,k,rfl,_⟩:=h
  rfl
 obtain ⟨pA,us,pins,u,b,k,rfl,hp,pp,gp,⟨ta,i,j,rfl,hb,e1,e2⟩,hk,q⟩:=h
 refine ⟨_,(aj (aL (aC nR hr.mo pX (au (aU mz (aR (aU aK (pv 0) (aR (pv 1)) (fun _ _=>rfl))) (pv 2) (fun _ _=>rfl)) (au (aC EM hr.mo pX (au (aU mz (aR (aU aK (pv 0) (aR (pv 1)) (fun _ _=>rfl))) (pv 2) (fun _ _=>rfl)) aa)) aa))))),?_⟩
 obtain ⟨c1,l1,sv1,X5,q1,r1⟩:=EL pp e1
 obtain ⟨c2,l2,sv2,X6,q2,r2⟩:=EL pp e2
 obtain ⟨a1,xs1,u1,rfl,t1,v1,n1⟩:=EJ hk r1
 obtain ⟨a2,xs2,u2,rfl,t2,v2,n2⟩:=EJ hk r2
 have z1:=EK (k:=k) (gp.sz _ (aa_ e1))
 have z2:=EK (k:=k) (gp.sz _ (aa_ e2))
 have lp:=aV.of (K:=K) hp
 refine ⟨_,rfl,_,rfl,ta,_,_,_,rfl,rfl,hb,rfl,pA,_,_,_,rfl,rfl,lp,X6,c2,_,_,_,rfl,rfl,q2,rfl,_,rfl,a2,_,_,_,rfl,rfl,t2,v2,_,rfl,_,rfl,ta,_,_,_,rfl,rfl,hb,rfl,pA,_,_,_,rfl,rfl,lp,X5,c1,_,_,_,rfl,rfl,q1,rfl,_,rfl,a1,_,_,_,rfl,rfl,t1,v1,?_⟩
 dsimp only [i5]
 show fB K [_] _ _ E0
 refine nO (iM n1 (EA z1 (adL _))) fun p3 H3 s3 n3=> ?_
 show b_ K fH [_,_] _ _ E0
 refine jB ((iM n2 (EA z2 (adL _))).same s3) n3 (by decide) fun p4 H4 s4 n4=> ?_
 refine q (.ref p4) H4 (s3.trans s4) ?_
 rw [Rat.sub_eq_add_neg]
 exact n4
structure Found (K:Frag)(H:Hp)(fA:Addr)(ls:List Addr)(F:Nat→Rat×Rat)(B:Nat):Prop where
 hf:H fA=some (.lst (ls.map V.ref))
 nd:ls.Nodup
 nf:fA∉ls
 row:∀(i:Nat) (l:Addr),ls[i]? =some l→∃v1 v2,H l=some (.lst [v1,v2])∧fK K H v1 B (F i).1∧fK K H v2 B (F i).2
def KL (ls:List Addr)(H H' :Hp):Prop:=∀b o,b∉ls→H b=some o→H' b=some o
theorem Found.same {H H' :Hp}{fA:Addr}{ls:List Addr}{F:Nat→Rat×Rat}{B:Nat}(h:Found K H fA ls F B)(s:av H H'):Found K H' fA ls F B:=⟨s _ _ h.hf,h.nd,h.nf,fun i l e=>by
 obtain ⟨v1,v2,a,b,c⟩:=h.row i l e
 exact ⟨v1,v2,s _ _ a,b.same s,c.same s⟩⟩
theorem Found.up {H:Hp}{fA:Addr}{ls:List Addr}{F:Nat→Rat×Rat}{B B' :Nat}(h:Found K H fA ls F B)(l:B≤B'):Found K H fA ls F B' :=⟨h.hf,h.nd,h.nf,fun i x e=>by
 obtain ⟨v1,v2,a,b,c⟩:=h.row i x e
 exact ⟨v1,v2,a,b.up l,c.up l⟩⟩
theorem Found.aS {H H' :Hp}{fA:Addr}{ls:List Addr}{F:Nat→Rat×Rat}{B:Nat}(h:Found K H fA ls F B)(k:KL ls H H'):bC H H' :=fun b xs r=>by
 have key:∀o,H b=some o→(∀ys,o≠.lst ys)→H' b=some o:=fun o e n=>k b o (fun m=>by
  obtain ⟨i,ei⟩:=adD m
  obtain ⟨v1,v2,a,_⟩:=h.row i b ei
  rw [a] at e
  exact n _ (adX e).symm) e
 rcases r with r | ⟨o',r⟩
 ·exact .inl (key _ r fun ys z=>nomatch z)
 ·exact .inr ⟨o',key _ r fun ys z=>nomatch z⟩
def df (F:Nat→Rat×Rat)(k:Nat)(a:Int)(d:Rat):Nat→Rat×Rat:=fun i=>if i=k then (if a=0 then ((F i).1+d,(F i).2) else ((F i).1,(F i).2+d)) else F i
theorem rF {F:Nat→Rat×Rat}{k:Nat}{a:Int}{d:Rat}(ha:a=0∨a=1){c:Int}(hc:c=0∨c=1)(i:Nat):ax c (df F k a d i)=ax c (F i)+if i=k∧c=a then d else 0:=by
 unfold df ax
 by_cases hi:i=k
 ·subst hi
  rcases ha with rfl | rfl <;> rcases hc with rfl | rfl <;> simp <;> grind
 ·simp [hi]
  grind
inductive vR (K:Frag)(vs:List V)(H:Hp)(Q:VK)(E_:XK):Prop where
 | mk (fA:Addr) (ls:List Addr) (F:Nat→Rat×Rat) (B:Nat) (k:Nat) (a:Int) (v:V) (m:Nat) (d:Rat) (_:vs=[.ref fA,.int (k:Int),.int a,v]) (_:Found K H fA ls F B) (_:k < ls.length) (_:(a=0∨a=1)) (_:fK K H v m d) (_:B+m≤130000000) (_:∀(H' :Hp),KL ls H H' →Found K H' fA ls (df F k a d) (B+m+1)→Q .cA H'):vR K vs H Q E_
theorem Rm:aG ["_law_found","_law_k","_law_axis","_law_draw"] ["_law_found","_law_k","_law_axis","_law_draw"] (af y9):=sq
theorem Rn (D:Def K mg "_law_add" y9 ["_law_found","_law_k","_law_axis","_law_draw"])(nR:Fn P w K mg base (a_ P w) 1 "_law_sum" ["_law_one","_law_other"] (b_ K fH)):
  Fn P w K mg base (a_ P w) 2 "_law_add" ["_law_found","_law_k","_law_axis","_law_draw"] (vR K):=by
 refine D.ok Rm (fun vs H Q E h=> ?_) (fun f bD A outer s H vs Q E hr h=> ?_)
 ·obtain ⟨fA,ls,F,B,k,a,v,m,d,rfl,_⟩:=h
  rfl
 obtain ⟨fA,ls,F,B,k,a,v,m,d,rfl,hF,hk,ha,nv,le,q⟩:=h
 refine ⟨_,(aj (qh (aC nR hr.mo pX (au (aU aK (aU aK (pv 0) (pv 1) (fun _ _=>rfl)) (pv 2) (fun _ _=>rfl)) (au (pv 3) aa))) (qg (aU aK (pv 0) (pv 1) (fun _ _=>rfl)) (pv 2) set_list))),?_⟩
 obtain ⟨l,el⟩:∃l,ls[k]? =some l:=⟨_,gE hk⟩
 obtain ⟨v1,v2,hl,n1,n2⟩:=hF.row k l el
 have ek:fU (ls.map V.ref) (k:Int)=some (.ref l):=bh (by rw [ir,el];rfl)
 have lm:l∈ls:=aa_ el
 have lf:l≠fA:=fun z=>hF.nf (z▸lm)
 obtain ⟨u,ea,nu⟩:∃u,fU [v1,v2] a=some u∧fK K H u B (ax a (F k)):=by
  rcases ha with rfl | rfl
  ·exact ⟨v1,rfl,n1⟩
  ·exact ⟨v2,rfl,n2⟩
 refine ⟨_,rfl,_,rfl,fA,_,_,_,rfl,rfl,aV.of hF.hf,ek,_,rfl,l,_,_,_,rfl,rfl,aV.of hl,ea,_,rfl,?_⟩
 dsimp only [i5]
 show b_ K fH [_,_] _ _ E0
 refine jB nu nv le fun p3 H3 s3 n3=> ?_
 obtain ⟨j,ej,hj⟩:∃j,FF [v1,v2].length a=some j∧((a=0∧j=0)∨(a=1∧j=1)):=by
  rcases ha with rfl | rfl
  ·exact ⟨0,rfl,.inl ⟨rfl,rfl⟩⟩
  ·exact ⟨1,rfl,.inr ⟨rfl,rfl⟩⟩
 refine ⟨_,rfl,_,rfl,fA,_,_,_,rfl,rfl,aV.of (s3 _ _ hF.hf),ek,_,rfl,l,_,_,j,rfl,rfl,s3 _ _ hl,ej,?_⟩
 have F3:=hF.same s3
 have kl:KL ls H (upd H3 l (.lst ([v1,v2].set j (.ref p3)))):=fun b o nb e=>by
  rw [ao (fun z=>nb (by rw [z];exact lm))]
  exact s3 _ _ e
 have k3:KL ls H3 (upd H3 l (.lst ([v1,v2].set j (.ref p3)))):=fun b o nb e=>by
  rw [ao (fun z=>nb (by rw [z];exact lm))]
  exact e
 have st:=F3.aS k3
 refine q _ kl ⟨?_,hF.nd,hF.nf,fun i l' e=> ?_⟩
 ·rw [ao (ad7 lf)]
  exact F3.hf
 ·by_cases c:i=k
  ·subst c
   rw [el] at e
   cases e
   refine ⟨([v1,v2].set j (.ref p3))[0]?.getD .cA,([v1,v2].set j (.ref p3))[1]?.getD .cA,?_,?_,?_⟩
   ·rw [ah]
    rcases hj with ⟨_,rfl⟩ | ⟨_,rfl⟩ <;> rfl
   ·unfold df
    rw [if_pos rfl]
    rcases hj with ⟨rfl,rfl⟩ | ⟨rfl,rfl⟩
    ·exact n3.aS st
    ·exact ((n1.same s3).aS st).up (by omega)
   ·unfold df
    rw [if_pos rfl]
    rcases hj with ⟨rfl,rfl⟩ | ⟨rfl,rfl⟩
    ·exact ((n2.same s3).aS st).up (by omega)
    ·exact n3.aS st
  ·obtain ⟨w1,w2,g1,g2,g3⟩:=F3.row i l' e
   have nl:l' ≠l:=fun z=>c (dH hF.nd e (z▸el))
   refine ⟨w1,w2,?_,?_,?_⟩
   ·rw [ao nl]
    exact g1
   ·unfold df
    rw [if_neg c]
    exact (g2.aS st).up (by omega)
   ·unfold df
    rw [if_neg c]
    exact (g3.aS st).up (by omega)
structure Ms (K:Frag)(H:Hp)(pA bA:Addr)(us vs:List V)(pins:List aE)(bars:List a8):Prop where
 hp:H pA=some (.lst us)
 pp:Paired (jE K H) us pins
 gp:jF pins
 hb:H bA=some (.lst vs)
 pb:Paired (lC K H pins) vs bars
 en:∀b∈bars,b.one.nm≠b.other.nm
 lp:pins.length≤9
 lb:bars.length≤14
theorem Ms.same {H H' :Hp}{pA bA:Addr}{us vs:List V}{pins:List aE}{bars:List a8}(h:Ms K H pA bA us vs pins bars)(s:av H H'):Ms K H' pA bA us vs pins bars:=⟨s _ _ h.hp,Paired.bZ h.pp fun _ _ z=>z.same s,h.gp,s _ _ h.hb,Paired.bZ h.pb fun _ _ z=>z.same s,h.en,h.lp,h.lb⟩
structure Mt (K:Frag)(H:Hp)(tA uA:Addr)(ts xs:List V)(pins:List aE)(bars:List a8)(T:Str→Rat)(U:Str→List Rat)(N:Nat):Prop where
 ht:H tA=some (.lst ts)
 pt:Paired (fun v (b:a8)=>fK K H v N (T b.nm)) ts bars
 hu:H uA=some (.lst xs)
 pu:Paired (fun v (p:aE)=>∃la ys,v=.ref la∧H la=some (.lst ys)∧Paired (fun v r=>fK K H v N r) ys (U p.nm)) xs pins
 lU:∀p∈pins,(U p.nm).length=p.ws.length
 hN:N≤1000000
theorem Mt.same {H H' :Hp}{tA uA:Addr}{ts xs:List V}{pins:List aE}{bars:List a8}{T:Str→Rat}{U:Str→List Rat}{N:Nat}(h:Mt K H tA uA ts xs pins bars T U N)(s:av H H'):Mt K H' tA uA ts xs pins bars T U N:=⟨s _ _ h.ht,Paired.bZ h.pt fun _ _ z=>z.same s,s _ _ h.hu,Paired.bZ h.pu fun _ _ ⟨la,ys,a,b,c⟩=>⟨la,ys,a,s _ _ b,Paired.bZ c fun _ _ z=>z.same s⟩,h.lU,h.hN⟩
theorem KL.same {H H6 H7:Hp}{ls:List Addr}(hn:∀l∈ls,H l=none)(s:av H H6)(k:KL ls H6 H7):av H H7:=fun b o e=>k b o (fun m=>by rw [hn b m] at e;cases e) (s b o e)
def jH (T:Str→Rat)(bs:List a8)(a:Int)(p:aE):Rat:=(bs.map fun b=>T b.nm*ax a (mv (cI b) p.nm)).sum
theorem vS {T:Str→Rat}{bs:List a8}{b:a8}{a:Int}{p:aE}:jH T (bs++[b]) a p=jH T bs a p+T b.nm*ax a (mv (cI b) p.nm):=by
 unfold jH
 rw [adR,amM,ac_,aeb,ad3,aeJ]
 grind
theorem EN {pins:List aE}(nd:(pins.map (·.nm)).Nodup){i j:Nat}{p q:aE}(hi:pins[i]? =some p)(hj:pins[j]? =some q)(e:p.nm=q.nm):i=j:=dH nd (x:=q.nm) (by rw [ir,hi, ← e];rfl) (by rw [ir,hj];rfl)
theorem EO {pins:List aE}(nd:(pins.map (·.nm)).Nodup){b:a8}(hb:b.one.nm≠b.other.nm){i i1 i2:Nat}{p:aE}(hi:pins[i]? =some p)(h1:pins[i1]? =some b.one)(h2:pins[i2]? =some b.other)(t:Rat)(k:Int):
  (if i=i1 then t*(ax k b.other.sp - ax k b.one.sp) else 0)+(if i=i2 then -(t*(ax k b.other.sp - ax k b.one.sp)) else 0)=t*ax k (mv (cI b) p.nm):=by
 have Xh:i1≠i2:=fun z=>by rw [z,h2] at h1;exact hb (by rw [adX h1])
 unfold mv cI
 by_cases c1:i=i1
 ·subst c1
  rw [h1] at hi
  cases hi
  rw [if_pos rfl,if_neg Xh,if_pos rfl]
  show _=t*ax k (gP b.one b.other)
  unfold ax gP
  split <;> grind
 ·rw [if_neg c1,if_neg (fun z=>c1 (EN nd hi h1 z))]
  by_cases c2:i=i2
  ·subst c2
   rw [h2] at hi
   cases hi
   rw [if_pos rfl,if_pos rfl]
   show _=t*ax k (gP b.other b.one)
   unfold ax gP
   split <;> grind
  ·rw [if_neg c2,if_neg (fun z=>c2 (EN nd hi h2 z))]
   show (0:Rat)+0=t*ax k (0,0)
   unfold ax
   split <;> grind
inductive nV (K:Frag)(vs:List V)(H:Hp)(Q:VK)(E_:XK):Prop where
 | mk (pA bA tA uA:Addr) (us ws ts xs:List V) (pins:List aE) (bars:List a8) (T:Str→Rat) (U:Str→List Rat) (N:Nat) (_:vs=[.ref pA,.ref bA,.ref tA,.ref uA]) (_:Ms K H pA bA us ws pins bars) (_:Mt K H tA uA ts xs pins bars T U N) (_:∀(fA:Addr) (ls:List Addr) (F:Nat→Rat×Rat) (H' :Hp),av H H' →ls.length=pins.length→Found K H' fA ls F (1+92*(N+51))→(∀(i:Nat) (p:aE),pins[i]? =some p→(F i).1=b9 bars T U p (·.1)∧(F i).2=b9 bars T U p (·.2))→Q (.ref fA) H'):nV K vs H Q E_
theorem kK:aG ["_law_pins_here","_law_bars_here","_law_pulls","_law_pushes","_law_found","_law_k","_law_axis","_law_draw","_law_j"] ["_law_pins_here","_law_bars_here","_law_pulls","_law_pushes"] (af y_):=sq
theorem Ro (D:Def K mg "_law_forces" y_ ["_law_pins_here","_law_bars_here","_law_pulls","_law_pushes"])(ba:mg "len"=none)(aX:mg "range"=none)(zV:Fn P w K mg base (a_ P w) 1 "_law_times" ["_law_one","_law_other"] (b_ K jA))(EM:Fn P w K mg base (a_ P w) 1 "_law_turned" ["_law_one"] (fB K))(X7:Fn P w K mg base (a_ P w) 2 "_law_arm" ["_law_pins_here","_law_bar","_law_axis"] (vQ K))(Mu:Fn P w K mg base (a_ P w) 2 "_law_add" ["_law_found","_law_k","_law_axis","_law_draw"] (vR K)):
  Fn P w K mg base (a_ P w) 3 "_law_forces" ["_law_pins_here","_law_bars_here","_law_pulls","_law_pushes"] (nV K):=by
 refine D.ok kK (fun vs H Q E h=> ?_) (fun f bD A outer s H vs Q E hr h=> ?_)
 ·obtain ⟨pA,bA,tA,uA,us,ws,ts,xs,pins,bars,T,U,N,rfl,_⟩:=h
  rfl
 obtain ⟨pA,bA,tA,uA,us,ws,ts,xs,pins,bars,T,U,N,rfl,fr,fo,q⟩:=h
 have L2:2≤sizeLine:=by decide
 have hN:=fo.hN
 have lp:=fr.lp
 have lb:=fr.lb
 have lu:us.length=pins.length:=Paired.length fr.pp
 have lw:ws.length=bars.length:=Paired.length fr.pb
 refine ⟨_,(ae (lR (i:=4) kK.nd rfl (adH rfl) (tn:=["_law_pin"]) (fr:=[]) (caps:=[]) rfl ⟨rfl,by decide+kernel,rfl,by decide+kernel,by decide+kernel,rfl,trivial,trivial⟩ (bR (pv 0)) (fun _ _ _ _=>(aH (i:=0) (show (["_law_pin"]:List Str).Nodup from by decide+kernel) rfl (adH rfl))) (fun _ _ _ _=>dA) (fun _ _ _ _=>(bO (au (aZ (au ag (au ag aa))) (au (aZ (au ag (au ag aa))) aa)))))
  (ae (bq PassesOwn.never rfl (bE rfl aX (au (aT aJ rfl ba b7 (au (pv 1) aa)) aa)) (aH (i:=5) kK.nd rfl (adH rfl)) (aj (bq PassesOwn.never rfl (bE rfl aX (au ag aa)) (aH (i:=6) kK.nd rfl (adH rfl)) (ae (ay (i:=7) kK.nd rfl (adH rfl) (aC zV hr.mo pX (au (aU aK (pv 2) (pv 5) (fun _ _=>rfl)) (au (aC X7 hr.mo pX (au (pv 0) (au (aU aK (pv 1) (pv 5) (fun _ _=>rfl)) (au (pv 6) aa)))) aa))))
    (ae (bQ (aC Mu hr.mo pX (au (pv 4) (au (aR (aU aK (pv 1) (pv 5) (fun _ _=>rfl))) (au (pv 6) (au (pv 7) aa))))))
    (aj (bQ (aC Mu hr.mo pX (au (pv 4) (au (aR (aU aK (pv 1) (pv 5) (fun _ _=>rfl))) (au (pv 6) (au (aC EM hr.mo pX (au (pv 7) aa)) aa))))))))))))
  (ae (bq PassesOwn.never rfl (bE rfl aX (au (aT aJ rfl ba b7 (au (pv 0) aa)) aa)) (aH (i:=5) kK.nd rfl (adH rfl)) (aj (bq PassesOwn.never rfl (bE rfl aX (au (aT aJ rfl ba b7 (au (aR (aU aK (pv 0) (pv 5) (fun _ _=>rfl))) aa)) aa)) (aH (i:=8) kK.nd rfl (adH rfl)) (aj (bq PassesOwn.never rfl (bE rfl aX (au ag aa)) (aH (i:=6) kK.nd rfl (adH rfl)) (aj (bQ (aC Mu hr.mo pX (au (pv 4) (au (pv 5) (au (pv 6) (au (aC zV hr.mo pX (au (aU aK (aU aK (pv 3) (pv 5) (fun _ _=>rfl)) (pv 8) (fun _ _=>rfl)) (au (aU mz (aU aK (aR (aU aK (pv 0) (pv 5) (fun _ _=>rfl))) (pv 8) (fun _ _=>rfl)) (pv 6) (fun _ _=>rfl)) aa))) aa))))))))))))
  (aj (aL (pv 4)))))),?_⟩
 refine ⟨_,rfl,pA,rfl,⟨_,aV.of fr.hp⟩,fun fA n1=> ?_⟩
 refine vn (cap:=[]) (K:=K) (a:=pA) (xs:=us) (fun ys H' =>∃ls:List Addr,ys=ls.map V.ref∧ls.Nodup∧fA∉ls∧∀l∈ls,H l=none∧∃p q:Addr,H' l=some (.lst [.ref p,.ref q])∧H' p=some (.tup [.int 0,.int 1])∧H' q=some (.tup [.int 0,.int 1])) n1 (by rw [lu];exact adO (show pins.length≤100 by omega) (by decide)) (fun H2 s2=>aV.of (s2 _ _ fr.hp)) ⟨[],rfl,amV,by simp,fun l h=>by cases h⟩ ?_ ?_
 ·intro i x ys H2 R hx ly hJ s2 hD k
  obtain ⟨ls,rfl,nd,nf,hl⟩:=hJ
  refine ⟨L2,?_⟩
  intro p3 n3;generalize eX:upd _ p3 _=H3;have ⟨s3,e3⟩:=nw n3 eX;clear eX
  refine ⟨L2,?_⟩
  intro p4 n4;generalize eX:upd _ p4 _=H4;have ⟨s4,e4⟩:=nw n4 eX;clear eX
  refine ⟨L2,?_⟩
  intro l5 n5;generalize eX:upd _ l5 _=H5;have ⟨s5,e5⟩:=nw n5 eX;clear eX
  have Jd:=s3.trans (s4.trans s5)
  have D5:=Jd _ _ hD
  have D4:=s4 _ _ (s3 _ _ hD)
  refine k _ _ Jd ⟨ls++[l5],by simp,?_,?_,fun l hm=> ?_⟩
  ·rw [aeS]
   refine ⟨nd,by simp,fun a ha b hb z=> ?_⟩
   have fL :b=l5:=by simpa using hb
   obtain ⟨_,p,q,h1,_⟩:=hl a ha
   rw [z,fL] at h1
   rw [s4 _ _ (s3 _ _ h1)] at n5
   cases n5
  ·intro z
   rcases adQ.mp z with z | z
   ·exact nf z
   ·rw [← adJ.mp z,D4] at n5
    cases n5
  ·rcases adQ.mp hm with z | z
   ·obtain ⟨h0,p,q,h1,h2,h3⟩:=hl l z
    refine ⟨h0,p,q,?_,?_,?_⟩
    ·rw [ao (fun e:l=fA=>nf (by rw [← e];exact z))]
     exact Jd _ _ h1
    ·rw [ao (fun e=>by rw [e,hD] at h2;cases h2)]
     exact Jd _ _ h2
    ·rw [ao (fun e=>by rw [e,hD] at h3;cases h3)]
     exact Jd _ _ h3
   ·have z:=adJ.mp z
    subst z
    refine ⟨(s2.trans (s3.trans s4)).free n5,p3,p4,?_,?_,?_⟩
    ·rw [ao (fun e=>by rw [e,D4] at n5;cases n5)]
     exact e5
    ·rw [ao (fun e=>by rw [e,hD] at n3;cases n3)]
     exact s5 _ _ (s4 _ _ e3)
    ·rw [ao (fun e=>by rw [e,s3 _ _ hD] at n4;cases n4)]
     exact s5 _ _ e4
 intro ys H2 ly hJ s2 hD
 obtain ⟨ls,rfl,nd,nf,hl⟩:=hJ
 have hn:∀l∈ls,H l=none:=fun l m=>(hl l m).1
 have ll:ls.length=pins.length:=by rw [← lu, ← ly,Wp]
 have z0:∀(p:Addr) (H' :Hp),H' p=some (.tup [.int 0,.int 1])→fK K H' (.ref p) 1 0:=fun p H' e=>⟨(0,1),⟨p,rfl,cf.of e⟩,by decide,by decide+kernel,by decide,by decide⟩
 have F0:Found K H2 fA ls (fun _=>(0,0)) (1+0*(4*(N+51))):=⟨hD,nd,nf,fun i l e=>by
  obtain ⟨_,p,q,h1,h2,h3⟩:=hl l (aa_ e)
  rw [ae8]
  exact ⟨_,_,h1,z0 p _ h2,z0 q _ h3⟩⟩
 have en:((ws.length:Nat):Int).toNat=ws.length:=by omega
 refine ⟨_,rfl,bA,_,rfl,.inl (aV.of (s2 _ _ fr.hb)),((ws.length:Nat):Int),rfl,by omega,by omega,bF (lo:=0) (n:=((ws.length:Nat):Int).toNat) (fun t σ H' =>∃(F:Nat→Rat×Rat) (o5 o6 o7:Option V),σ=[some (.ref pA),some (.ref bA),some (.ref tA),some (.ref uA),some (.ref fA),o5,o6,o7,none]∧av H H' ∧Found K H' fA ls F (1+t*(4*(N+51)))∧∀(i:Nat) (p:aE),pins[i]? =some p→∀a:Int,(a=0∨a=1)→ax a (F i)=jH T (bars.take t) a p) ⟨_,none,none,none,rfl,s2,F0,fun i p _ a _=> ?_⟩ ?_ ?_⟩
 ·show ax a (0,0)=0
  unfold ax
  split <;> rfl
 ·rintro t σ H3 ht ⟨F,o5,o6,o7,rfl,s3,F3,hF⟩
  have ek:(0:Int)+(t:Int)=(t:Int):=ad9 _
  rw [ek]
  have htw:t < ws.length:=by omega
  obtain ⟨b,eb,FQ⟩:=aF fr.pb (gE htw)
  have mb:b∈bars:=aa_ eb
  obtain ⟨tv,etv,htv⟩:=aF (bL fo.pt) eb
  have Vx:fU ws (t:Int)=some ws[t]:=bh (gE htw)
  have att:fU ts (t:Int)=some tv:=bh etv
  have bt:t*(4*(N+51))≤13*(4*(N+51)):=ad0 _ (by omega)
  generalize hB:1+t*(4*(N+51))=B at F3
  refine ⟨(2:Int),rfl,by decide,by decide,bF (lo:=0) (n:=2) (fun k σ H' =>∃(F:Nat→Rat×Rat) (o6 o7:Option V),σ=[some (.ref pA),some (.ref bA),some (.ref tA),some (.ref uA),some (.ref fA),some (.int (t:Int)),o6,o7,none]∧av H H' ∧Found K H' fA ls F (B+k*(2*(N+51)))∧∀(i:Nat) (p:aE),pins[i]? =some p→∀a:Int,(a=0∨a=1)→ax a (F i)=jH T (bars.take t) a p+if a < (k:Int) then T b.nm*ax a (mv (cI b) p.nm) else 0) ⟨F,o6,o7,rfl,s3,by rw [ae8];exact F3,fun i p e a ha=> ?_⟩ ?_ ?_⟩
  ·rw [hF i p e a ha,if_neg (by rcases ha with rfl | rfl <;> decide)]
   grind
  ·rintro k σ H4 hk ⟨F,o6,o7,rfl,s4,F4,hF⟩
   have ek:(0:Int)+(k:Int)=(k:Int):=ad9 _
   rw [ek]
   have Ng:(k:Int)=0∨(k:Int)=1:=by omega
   have Nv:=fr.same s4
   have bk:k*(2*(N+51))≤1*(2*(N+51)):=ad0 _ (by omega)
   obtain ⟨ta,i1,i2,eta,zW,e1,e2⟩:=FQ.same s4
   have Oz:i1 < ls.length:=by rw [ll];exact (be.mp e1).1
   have OA:i2 < ls.length:=by rw [ll];exact (be.mp e2).1
   refine ⟨_,rfl,_,rfl,tA,_,_,_,rfl,rfl,aV.of (s4 _ _ fo.ht),att,_,rfl,_,rfl,_,rfl,bA,_,_,_,rfl,rfl,aV.of Nv.hb,Vx,_,rfl,pA,us,pins,_,b,(k:Int),rfl,Nv.hp,Nv.pp,fr.gp,FQ.same s4,Ng,fun v5 H5 s5 n5=> ?_⟩
   dsimp only [i5]
   show b_ K jA [_,_] _ _ E0
   refine mh ((htv.same s4).same s5) n5 (by omega) fun p6 H6 s6 n6=> ?_
   have Vp:=s4.trans (s5.trans s6)
   rw [eta] at Vx
   have F6:=F4.same (s5.trans s6)
   refine ⟨_,rfl,_,rfl,_,rfl,bA,_,_,_,rfl,rfl,aV.of (Vp _ _ fr.hb),Vx,ta,_,_,_,rfl,rfl,Ty.av.cY (s5.trans s6) zW,rfl,_,rfl,_,rfl,fA,ls,F,_,i1,(k:Int),_,_,_,rfl,F6,Oz,Ng,n6,by omega,fun H7 k7 F7=> ?_⟩
   have s07:=KL.same hn Vp k7
   have n7:=n6.aS (F6.aS k7)
   refine ⟨_,rfl,_,rfl,_,rfl,bA,_,_,_,rfl,rfl,aV.of (s07 _ _ fr.hb),Vx,ta,_,_,_,rfl,rfl,(F6.aS k7).cY (Ty.av.cY (s5.trans s6) zW),rfl,_,rfl,_,rfl,?_⟩
   dsimp only [i5]
   show fB K [_] _ _ E0
   refine nO n7 fun p8 H8 s8 n8=> ?_
   have F8:=F7.same s8
   refine ⟨fA,ls,_,_,i2,(k:Int),_,_,_,rfl,F8,OA,Ng,n8,by omega,fun H9 k9 F9=> ?_⟩
   have s09:=KL.same hn (s07.trans s8) k9
   refine ⟨_,_,_,rfl,s09,F9.up (by rw [aev];omega),fun i p e a ha=> ?_⟩
   rw [rF Ng ha,rF Ng ha,hF i p e a ha]
   have bp:=EO fr.gp.np (fr.en b mb) e e1 e2 (T b.nm) (k:Int)
   by_cases ca:a=(k:Int)
   ·subst ca
    rw [if_neg (c:=(k:Int) < (k:Int)) (by omega),if_pos (c:=(k:Int) < ((k+1:Nat):Int)) (by omega), ← bp]
    simp only [and_true]
    grind
   ·have c1:¬ (i=i1∧a=(k:Int)):=fun z=>ca z.2
    have c2:¬ (i=i2∧a=(k:Int)):=fun z=>ca z.2
    rw [if_neg c1,if_neg c2]
    by_cases cl:a < (k:Int)
    ·rw [if_pos cl,if_pos (c:=a < ((k+1:Nat):Int)) (by omega)]
     grind
    ·rw [if_neg cl,if_neg (c:=a < ((k+1:Nat):Int)) (by omega)]
     grind
  ·rintro σ H4 ⟨F,o6,o7,rfl,s4,F4,hF⟩
   refine ⟨F,_,_,_,rfl,s4,F4.up (by rw [aev, ← hB];omega),fun i p e a ha=> ?_⟩
   rw [take_snoc eb,vS,hF i p e a ha,if_pos (by rcases ha with rfl | rfl <;> decide)]
 ·rintro σ H3 ⟨F,o5,o6,o7,rfl,s3,F3,hF⟩
  rw [en,lw] at F3
  rw [en,lw,aea] at hF
  have bl:bars.length*(4*(N+51))≤14*(4*(N+51)):=ad0 _ (by omega)
  generalize hB:1+bars.length*(4*(N+51))=B at F3
  have X8:((us.length:Nat):Int).toNat=us.length:=by omega
  refine ⟨_,rfl,pA,_,rfl,.inl (aV.of (s3 _ _ fr.hp)),((us.length:Nat):Int),rfl,by omega,by omega,bF (lo:=0) (n:=((us.length:Nat):Int).toNat) (fun k σ H' =>∃(F:Nat→Rat×Rat) (o5 o6 o7 o8:Option V),σ=[some (.ref pA),some (.ref bA),some (.ref tA),some (.ref uA),some (.ref fA),o5,o6,o7,o8]∧av H H' ∧Found K H' fA ls F (B+k*(4*(N+51)))∧∀(i:Nat) (p:aE),pins[i]? =some p→∀a:Int,(a=0∨a=1)→ax a (F i)=jH T bars a p+if i < k then sP (U p.nm) (p.ws.map (ax a)) else 0) ⟨F,o5,o6,o7,none,rfl,s3,by rw [ae8];exact F3,fun i p e a ha=> ?_⟩ ?_ ?_⟩
  ·rw [hF i p e a ha,if_neg (by omega)]
   grind
  ·rintro k σ H4 hk ⟨F,o5,o6,o7,o8,rfl,s4,F4,hF⟩
   have ek:(0:Int)+(k:Int)=(k:Int):=ad9 _
   rw [ek]
   have hku:k < us.length:=by omega
   obtain ⟨p,ep,Mr⟩:=aF fr.pp (gE hku)
   have mp:p∈pins:=aa_ ep
   obtain ⟨xv,exv,la,ys,exl,X9,py⟩:=aF (bL fo.pu) ep
   subst exl
   have lup:=fo.lU p mp
   have lwp:=(fr.gp.ws p mp).len
   have ly:ys.length=(U p.nm).length:=Paired.length py
   have akx:fU xs (k:Int)=some (.ref la):=bh exv
   have X_:fU us (k:Int)=some us[k]:=bh (gE hku)
   obtain ⟨pa,l,sv,fV,epa,h1,h2,h3,h4⟩:=Mr
   rw [epa] at X_
   have lv:fV.length=p.ws.length:=Paired.length h4
   have kp:k < pins.length:=by omega
   have bk:k*(4*(N+51))≤8*(4*(N+51)):=ad0 _ (by omega)
   generalize hB2:B+k*(4*(N+51))=B2 at F4
   have en3:((fV.length:Nat):Int).toNat=fV.length:=by omega
   refine ⟨_,rfl,_,rfl,pA,_,_,_,rfl,rfl,aV.of (s4 _ _ fr.hp),X_,pa,_,_,_,rfl,rfl,Ty.av.cY s4 h1,rfl,l,_,rfl,.inl (aV.of (s4 _ _ h3)),((fV.length:Nat):Int),rfl,by omega,by omega,bF (lo:=0) (n:=((fV.length:Nat):Int).toNat) (fun j σ H' =>∃(F:Nat→Rat×Rat) (o6 o7 o8:Option V),σ=[some (.ref pA),some (.ref bA),some (.ref tA),some (.ref uA),some (.ref fA),some (.int (k:Int)),o6,o7,o8]∧av H H' ∧Found K H' fA ls F (B2+j*(2*(N+51)))∧∀(i:Nat) (p:aE),pins[i]? =some p→∀a:Int,(a=0∨a=1)→ax a (F i)=jH T bars a p+if i < k then sP (U p.nm) (p.ws.map (ax a)) else if i=k then sP ((U p.nm).take j) ((p.ws.take j).map (ax a)) else 0) ⟨F,o6,o7,o8,rfl,s4,by rw [ae8];exact F4,fun i p e a ha=> ?_⟩ ?_ ?_⟩
   ·rw [hF i p e a ha,List.take_zero,dk]
    split <;> simp
   ·rintro j σ H5 hj ⟨F,o6,o7,o8,rfl,s5,F5,hF⟩
    have ek:(0:Int)+(j:Int)=(j:Int):=ad9 _
    rw [ek]
    have hj1:j < fV.length:=by omega
    have hj2:j < ys.length:=by omega
    obtain ⟨x,ex,hx⟩:=aF py (gE hj2)
    obtain ⟨wq,ewq,hwq⟩:=aF h4 (gE hj1)
    have zw:=(fr.gp.ws p mp).sz wq (aa_ ewq)
    have axj:fU ys (j:Int)=some ys[j]:=bh (gE hj2)
    have awj:fU fV (j:Int)=some fV[j]:=bh (gE hj1)
    have bj:j*(2*(N+51))≤1*(2*(N+51)):=ad0 _ (by omega)
    generalize hB3:B2+j*(2*(N+51))=B3 at F5
    refine ⟨(2:Int),rfl,by decide,by decide,bF (lo:=0) (n:=2) (fun c σ H' =>∃(F:Nat→Rat×Rat) (o6:Option V),σ=[some (.ref pA),some (.ref bA),some (.ref tA),some (.ref uA),some (.ref fA),some (.int (k:Int)),o6,o7,some (.int (j:Int))]∧av H H' ∧Found K H' fA ls F (B3+c*(N+51))∧∀(i:Nat) (p:aE),pins[i]? =some p→∀a:Int,(a=0∨a=1)→ax a (F i)=(jH T bars a p+if i < k then sP (U p.nm) (p.ws.map (ax a)) else if i=k then sP ((U p.nm).take j) ((p.ws.take j).map (ax a)) else 0)+if i=k∧a < (c:Int) then x*ax a wq else 0) ⟨F,o6,rfl,s5,by rw [ae8];exact F5,fun i p e a ha=> ?_⟩ ?_ ?_⟩
    ·rw [hF i p e a ha,if_neg (c:=i=k∧a < ((0:Nat):Int)) (fun z=>by rcases ha with rfl | rfl <;> exact absurd z.2 (by decide))]
     grind
    ·rintro c σ H6 hc ⟨F,o6,rfl,s6,F6,hF⟩
     have ek:(0:Int)+(c:Int)=(c:Int):=ad9 _
     rw [ek]
     have U4:(c:Int)=0∨(c:Int)=1:=by omega
     have bc:c*(N+51)≤1*(N+51):=ad0 _ (by omega)
     obtain ⟨wa,zs,u,ewa,M7,awc,nwc⟩:=EJ U4 (hwq.same s6)
     rw [ewa] at awj
     refine ⟨_,rfl,_,rfl,_,rfl,_,rfl,_,rfl,uA,_,_,_,rfl,rfl,aV.of (s6 _ _ fo.hu),akx,_,rfl,la,_,_,_,rfl,rfl,aV.of (s6 _ _ X9),axj,_,rfl,_,rfl,pA,_,_,_,rfl,rfl,aV.of (s6 _ _ fr.hp),X_,pa,_,_,_,rfl,rfl,Ty.av.cY s6 h1,rfl,_,rfl,l,_,_,_,rfl,rfl,aV.of (s6 _ _ h3),awj,_,rfl,wa,_,_,_,rfl,rfl,M7,awc,?_⟩
     dsimp only [i5]
     show b_ K jA [_,_] _ _ E0
     refine mh (hx.same s6) (iM nwc (EA (EK zw) (adL _))) (by omega) fun p7 H7 s7 n7=> ?_
     refine ⟨fA,ls,F,_,k,(c:Int),_,_,_,rfl,F6.same s7,by omega,U4,n7,by omega,fun H8 k8 F8=> ?_⟩
     refine ⟨_,_,rfl,KL.same hn (s6.trans s7) k8,F8.up (by rw [aev];omega),fun i p' e a ha=> ?_⟩
     rw [rF U4 ha,hF i p' e a ha]
     by_cases ci:i=k
     ·by_cases ca:a=(c:Int)
      ·subst ca
       rw [if_neg (c:=i=k∧(c:Int) < (c:Int)) (fun z=>by omega),if_pos (c:=i=k∧(c:Int)=(c:Int)) ⟨ci,rfl⟩,if_pos (c:=i=k∧(c:Int) < ((c+1:Nat):Int)) ⟨ci,by omega⟩]
       grind
      ·rw [if_neg (c:=i=k∧a=(c:Int)) (fun z=>ca z.2)]
       by_cases cl:a < (c:Int)
       ·rw [if_pos (c:=i=k∧a < (c:Int)) ⟨ci,cl⟩,if_pos (c:=i=k∧a < ((c+1:Nat):Int)) ⟨ci,by omega⟩]
        grind
       ·rw [if_neg (c:=i=k∧a < (c:Int)) (fun z=>cl z.2),if_neg (c:=i=k∧a < ((c+1:Nat):Int)) (fun z=>by have:=z.2;omega)]
        grind
     ·rw [if_neg (c:=i=k∧a < (c:Int)) (fun z=>ci z.1),if_neg (c:=i=k∧a=(c:Int)) (fun z=>ci z.1),if_neg (c:=i=k∧a < ((c+1:Nat):Int)) (fun z=>ci z.1)]
      grind
    ·rintro σ H6 ⟨F,o6,rfl,s6,F6,hF⟩
     refine ⟨F,_,_,_,rfl,s6,F6.up (by rw [aev, ← hB3];omega),fun i p' e a ha=> ?_⟩
     rw [hF i p' e a ha]
     by_cases ci:i=k
     ·subst ci
      rw [ep] at e
      cases e
      rw [if_neg (aew _),if_pos rfl,if_neg (aew _),if_pos rfl,if_pos (c:=i=i∧a < ((2:Nat):Int)) ⟨rfl,by rcases ha with rfl | rfl <;> decide⟩]
      rw [take_snoc ex,take_snoc ewq,adR,gR _ _ (by rw [Wp,adZ,adZ];omega),ac_,aeb,bT,dk]
      grind
     ·rw [if_neg (c:=i=k∧a < ((2:Nat):Int)) (fun z=>ci z.1),if_neg ci,if_neg ci]
      grind
   ·rintro σ H5 ⟨F,o6,o7,o8,rfl,s5,F5,hF⟩
    rw [en3] at F5 hF
    refine ⟨F,_,_,_,_,rfl,s5,F5.up (by
     have:fV.length*(2*(N+51))≤2*(2*(N+51)):=ad0 _ (by omega)
     rw [aev, ← hB2]
     omega),fun i p' e a ha=> ?_⟩
    rw [hF i p' e a ha]
    by_cases ci:i=k
    ·subst ci
     rw [ep] at e
     cases e
     rw [if_neg (aew _),if_pos rfl,if_pos (aef _),aeI (by omega),aeI (by omega)]
    ·rw [if_neg ci]
     by_cases cl:i < k
     ·rw [if_pos cl,if_pos (by omega)]
     ·rw [if_neg cl,if_neg (by omega)]
  ·rintro σ H4 ⟨F,o5,o6,o7,o8,rfl,s4,F4,hF⟩
   rw [X8,lu] at F4 hF
   have bp:pins.length*(4*(N+51))≤9*(4*(N+51)):=ad0 _ (by omega)
   refine ⟨_,rfl,q fA ls F H4 s4 ll (F4.up (by omega)) fun i p e=> ?_⟩
   have hi:=(be.mp e).1
   have a0:=hF i p e 0 (.inl rfl)
   have a1:=hF i p e 1 (.inr rfl)
   rw [if_pos hi] at a0 a1
   unfold b9
   unfold jH at a0 a1
   have e0:ax 0=fun p:Rat×Rat=>p.1:=rfl
   have e1:ax 1=fun p:Rat×Rat=>p.2:=rfl
   rw [e0] at a0
   rw [e1] at a1
   exact ⟨a0.trans (Rat.add_comm _ _),a1.trans (Rat.add_comm _ _)⟩
theorem dr {x:V}{ys:List V}:fU (x::ys) 0=some x:=bh (xs:=x::ys) (j:=0) rfl
theorem vU {α β:Type}{nm:α→Str}(b0:β){l:List α}(nd:(l.map nm).Nodup)(f:Nat→β):∃T:Str→β,∀(i:Nat) (x:α),l[i]? =some x→T (nm x)=f i:=by
 classical
 refine ⟨fun s=>if h:∃i,(l.map nm)[i]? =some s then f h.choose else b0,fun i x e=> ?_⟩
 have e' :(l.map nm)[i]? =some (nm x):=by rw [ir,e];rfl
 have h:∃i,(l.map nm)[i]? =some (nm x):=⟨i,e'⟩
 show (if h:∃i,(l.map nm)[i]? =some (nm x) then f h.choose else b0)=f i
 rw [dif_pos h]
 exact congrArg f (dH nd h.choose_spec e')
theorem rG {t b:Int}(h:0 < b)(h1:t.natAbs < 2048)(h2:b < 2048):Sz 11 (vl (t,b)):=vh (aeh h) (intBits_le_iff.mpr (by show _ < 2048;omega)) (intBits_le_iff.mpr (by show _ < 2048;omega))
theorem nX {H:Hp}{p:Addr}{t b:Int}(e:H p=some (.tup [.int t,.int b]))(h:0 < b)(h1:t.natAbs < 2048)(h2:b < 2048):fK K H (.ref p) 11 (vl (t,b)):=⟨(t,b),⟨p,rfl,cf.of e⟩,h,rfl,(by show _≤2048;omega),(by show _≤2048;omega)⟩
theorem kN {α:Type}{R:V→α→Prop}:∀(n:Nat) {us:List V} {zs:List α},Paired R us zs→Paired R (us.take n) (zs.take n)
 | 0,_,_,_=>by simpa using Paired.nil
 | n+1,_,_,.nil=>by simpa using Paired.nil
 | n+1,_,_,.cons h t=>by
  rw [am3,am3]
  exact .cons h (kN n t)
inductive rH (K:Frag)(vs:List V)(H:Hp)(Q:VK)(E_:XK):Prop where
 | mk (sA pA bA:Addr) (ns:List Int) (us ws:List V) (pins:List aE) (bars:List a8) (_:vs=[.ref sA,.ref pA,.ref bA]) (_:aV K H sA (ns.map V.int)) (_:Ms K H pA bA us ws pins bars) (_:(bars.map (·.nm)).Nodup) (_:∀(l tA uA:Addr) (ts xs:List V) (T:Str→Rat) (U:Str→List Rat) (H' :Hp),av H H' →H' l=some (.lst [.ref tA,.ref uA])→Mt K H' tA uA ts xs pins bars T U 11→(∀b∈bars,Sz 11 (T b.nm))→(∀p∈pins,∀u∈U p.nm,Sz 11 u)→Q (.ref l) H'):rH K vs H Q E_
theorem kO:aG ["_law_script","_law_pins_here","_law_bars_here","_law_pulls","_law_k","_law_cell","_law_pushes","_law_some"] ["_law_script","_law_pins_here","_law_bars_here"] (af za):=sq
theorem Rp (D:Def K mg "_law_drawn" za ["_law_script","_law_pins_here","_law_bars_here"])(ba:mg "len"=none)(aX:mg "range"=none)(oI:Fn P w K mg base (a_ P w) 1 "_law_cell_at" ["_law_script","_law_k"] (nN K))(cR:Fn P w K mg base (a_ P w) 1 "_law_field" ["_law_cell","_law_prime","_law_many"] fw):
  Fn P w K mg base (a_ P w) 2 "_law_drawn" ["_law_script","_law_pins_here","_law_bars_here"] (rH K):=by
 refine D.ok kO (fun vs H Q E h=> ?_) (fun f bD A outer s H vs Q E hr h=> ?_)
 ·obtain ⟨sA,pA,bA,ns,us,ws,pins,bars,rfl,_⟩:=h
  rfl
 obtain ⟨sA,pA,bA,ns,us,ws,pins,bars,rfl,hS,fr,nb,q⟩:=h
 have L2:2≤sizeLine:=by decide
 have lp:=fr.lp
 have lb:=fr.lb
 have lu:us.length=pins.length:=Paired.length fr.pp
 have lw:ws.length=bars.length:=Paired.length fr.pb
 refine ⟨_,(ae (ay (i:=3) kO.nd rfl (adH rfl) (bO aa))
  (ae (bq PassesOwn.never rfl (bE rfl aX (au (aT aJ rfl ba b7 (au (pv 2) aa)) aa)) (aH (i:=4) kO.nd rfl (adH rfl)) (ae (ay (i:=5) kO.nd rfl (adH rfl) (aC oI hr.mo pX (au (pv 0) (au (aI bU ag (pv 4)) aa))))
   (aj (bQ (kr PySem.F.plainAttrs_list PySem.F.slot_list_append PySem.F.type_list_append c6 (pv 3) (au (aZ (au (aI cG (aC cR hr.mo pX (au (pv 5) (au ag (au ag aa)))) ag) (au (aI bU ag (aC cR hr.mo pX (au (pv 5) (au ag (au ag aa))))) aa))) aa))))))
  (ae (ay (i:=6) kO.nd rfl (adH rfl) (bO aa))
  (ae (bq PassesOwn.never rfl (bE rfl aX (au (aT aJ rfl ba b7 (au (pv 1) aa)) aa)) (aH (i:=4) kO.nd rfl (adH rfl)) (ae (ay (i:=5) kO.nd rfl (adH rfl) (aC oI hr.mo pX (au (pv 0) (au (aI bU ag (pv 4)) aa))))
   (ae (ay (i:=7) kO.nd rfl (adH rfl) (bO (au (aZ (au (aI cG (aC cR hr.mo pX (au (pv 5) (au ag (au ag aa)))) ag) (au ag aa))) (au (aZ (au (aI cG (aC cR hr.mo pX (au (pv 5) (au ag (au ag aa)))) ag) (au ag aa))) aa))))
   (aj (bQ (kr PySem.F.plainAttrs_list PySem.F.slot_list_append PySem.F.type_list_append c6 (pv 6) (au (dI f9 (pv 7) fY (dS (aT aJ rfl ba b7 (au (aR (aU aK (pv 1) (pv 4) (fun _ _=>rfl))) aa)))) aa)))))))
  (aj (aL (bO (au (pv 3) (au (pv 6) aa))))))))),?_⟩
 refine ⟨(by show 0≤sizeLine;decide),?_⟩
 intro lT nT;generalize eX:upd _ lT _=H1;have ⟨s1,eT⟩:=nw nT eX;clear eX
 have en:((ws.length:Nat):Int).toNat=ws.length:=by omega
 refine ⟨_,rfl,bA,_,rfl,.inl (aV.of (s1 _ _ fr.hb)),((ws.length:Nat):Int),rfl,by omega,by omega,bF (lo:=0) (n:=((ws.length:Nat):Int).toNat) (fun i σ H' =>∃(o4 o5:Option V) (ts:List V) (rs:List Rat),σ=[some (.ref sA),some (.ref pA),some (.ref bA),some (.ref lT),o4,o5,none,none]∧av H H' ∧H' lT=some (.lst ts)∧Paired (fun v r=>fK K H' v 11 r) ts rs∧rs.length=i∧∀r∈rs,Sz 11 r) ⟨none,none,[],[],rfl,s1,eT,.nil,rfl,by simp⟩ ?_ ?_⟩
 ·rintro i σ H2 hi ⟨o4,o5,ts,rs,rfl,s2,e2,pt,lr,zr⟩
  have ek:(0:Int)+(i:Int)=(i:Int):=ad9 _
  rw [ek]
  have lt:ts.length=rs.length:=Paired.length pt
  refine ⟨_,rfl,_,rfl,_,_,rfl,rfl,sA,ns,_,rfl,s2.seq hS,by omega,by omega,?_⟩
  generalize cell ns (35+(i:Int))=c0
  have f1:=a9 (c:=c0) (p:=4001) (m:=2001) (by decide)
  have f2:=a9 (c:=c0) (p:=5003) (m:=9) (by decide)
  refine ⟨_,rfl,.inl ⟨rfl,_,aV.of e2⟩,_,rfl,_,_,_,rfl,by decide,by decide,by decide,_,_,rfl,rfl,_,rfl,_,_,_,rfl,by decide,by decide,by decide,_,_,rfl,rfl,L2,?_⟩
  intro p3 n3;generalize eX:upd _ p3 _=H3;have ⟨s3,e3⟩:=nw n3 eX;clear eX
  have e23:=s3 _ _ e2
  refine ⟨lT,_,_,rfl,rfl,e23,adO (show ts.length≤100 by omega) (by decide),?_⟩
  have st:bC H3 (upd H3 lT (.lst (ts++[.ref p3]))):=.list e23
  refine ⟨_,_,ts++[.ref p3],rs++[vl (field c0 4001 2001 - 1000,1+field c0 5003 9)],rfl,fun b o z=> ?_,ah,dO (Paired.bZ pt fun _ _ z=>(z.same s3).aS st) ((nX e3 (by omega) (by omega) (by omega)).aS st),by simp [lr],fun r hr=> ?_⟩
  ·rw [ao (aq z nT)]
   exact s3 _ _ (s2 _ _ z)
  ·rcases adQ.mp hr with z | z
   ·exact zr r z
   ·rw [adJ.mp z]
    exact rG (by omega) (by omega) (by omega)
 rintro σ H2 ⟨o4,o5,ts,rs,rfl,s2,e2,pt,lr,zr⟩
 rw [en,lw] at lr
 refine ⟨(by show 0≤sizeLine;decide),?_⟩
 intro lU nU;generalize eX:upd _ lU _=H3;have ⟨s3,eU⟩:=nw nU eX;clear eX
 have IV:=s2.trans s3
 have X8:((us.length:Nat):Int).toNat=us.length:=by omega
 refine ⟨_,rfl,pA,_,rfl,.inl (aV.of (IV _ _ fr.hp)),((us.length:Nat):Int),rfl,by omega,by omega,bF (lo:=0) (n:=((us.length:Nat):Int).toNat) (fun i σ H' =>∃(o4 o5 o7:Option V) (xs:List V) (AG:List (List Rat)),σ=[some (.ref sA),some (.ref pA),some (.ref bA),some (.ref lT),o4,o5,some (.ref lU),o7]∧av H2 H' ∧H' lU=some (.lst xs)∧Paired (fun v rs=>∃la ys,v=.ref la∧la≠lU∧H' la=some (.lst ys)∧Paired (fun v r=>fK K H' v 11 r) ys rs) xs AG∧AG.length=i∧∀(j:Nat) (rs:List Rat) (p:aE),AG[j]? =some rs→pins[j]? =some p→rs.length=p.ws.length∧∀r∈rs,Sz 11 r) ⟨o4,o5,none,[],[],rfl,s3,eU,.nil,rfl,by simp⟩ ?_ ?_⟩
 ·rintro i σ H4 hi ⟨o4,o5,o7,xs,AG,rfl,s4,e4,J_,Vy,zz⟩
  have ek:(0:Int)+(i:Int)=(i:Int):=ad9 _
  rw [ek]
  have vM:=s2.trans s4
  have lx:xs.length=AG.length:=Paired.length J_
  have Rq:i < us.length:=by omega
  obtain ⟨p,ep,Mr⟩:=aF fr.pp (gE Rq)
  have mp:=aa_ ep
  obtain ⟨ta,l,sv,fV,eu,h1,h2,h3,h4⟩:=Mr.same vM
  have ai:fU us (i:Int)=some (.ref ta):=bh (by rw [gE Rq,eu])
  have lv:fV.length=p.ws.length:=Paired.length h4
  have lwp:=(fr.gp.ws p mp).len
  refine ⟨_,rfl,_,rfl,_,_,rfl,rfl,sA,ns,_,rfl,vM.seq hS,by omega,by omega,?_⟩
  generalize cell ns (26+(i:Int))=c0
  have f1:=a9 (c:=c0) (p:=6007) (m:=201) (by decide)
  have f2:=a9 (c:=c0) (p:=7001) (m:=201) (by decide)
  refine ⟨_,rfl,_,_,_,rfl,by decide,by decide,by decide,_,_,rfl,rfl,L2,?_⟩
  intro p5 n5;generalize eX:upd _ p5 _=H5;have ⟨s5,e5⟩:=nw n5 eX;clear eX
  refine ⟨_,rfl,_,_,_,rfl,by decide,by decide,by decide,_,_,rfl,rfl,L2,?_⟩
  intro p6 n6;generalize eX:upd _ p6 _=H6;have ⟨s6,e6⟩:=nw n6 eX;clear eX
  refine ⟨L2,?_⟩
  intro l7 n7;generalize eX:upd _ l7 _=H7;have ⟨s7,e7⟩:=nw n7 eX;clear eX
  have Je:=s5.trans (s6.trans s7)
  have X':=Je _ _ e4
  refine ⟨_,rfl,.inl ⟨rfl,_,aV.of X'⟩,_,rfl,_,rfl,_,rfl,pA,_,_,_,rfl,rfl,aV.of ((vM.trans Je) _ _ fr.hp),ai,ta,_,_,_,rfl,rfl,Ty.av.cY Je h1,rfl,l,_,rfl,.inl (aV.of (Je _ _ h3)),_,rfl,l7,_,rfl,aV.of e7,?_⟩
  rw [lY (show fV.length≤[V.ref p5,V.ref p6].length by show fV.length≤2;omega)]
  intro la n8;generalize eX:upd _ la _=H8;have ⟨s8,e8⟩:=nw n8 eX;clear eX
  have e48:=s8 _ _ X'
  have Nl:=Je.trans s8
  refine ⟨lU,_,_,rfl,rfl,e48,adO (show xs.length≤100 by omega) (by decide),?_⟩
  have st:bC H8 (upd H8 lU (.lst (xs++[.ref la]))):=.list e48
  have FO:la≠lU:=fun z=>by rw [z,X'] at n8;cases n8
  have two:Paired (fun v r=>fK K H8 v 11 r) [V.ref p5,V.ref p6] [vl (field c0 6007 201 - 100,1),vl (field c0 7001 201 - 100,2)]:=.cons (nX (s8 _ _ (s7 _ _ (s6 _ _ e5))) (by decide) (by omega) (by decide)) (.cons (nX (s8 _ _ (s7 _ _ e6)) (by decide) (by omega) (by decide)) .nil)
  refine ⟨_,_,_,xs++[.ref la],AG++[[vl (field c0 6007 201 - 100,1),vl (field c0 7001 201 - 100,2)].take fV.length],rfl,fun b o z=> ?_,ah,dO (Paired.bZ J_ fun v rs ⟨la',ys,a,b,c,d⟩=>⟨la',ys,a,b,by rw [ao b];exact Nl _ _ c,Paired.bZ d fun _ _ z=>(z.same Nl).aS st⟩) ⟨la,_,rfl,FO,by rw [ao FO];exact e8,Paired.bZ (kN _ two) fun _ _ z=>z.aS st⟩,by simp [Vy],fun j rs p' ej rT => ?_⟩
  ·rw [ao (aq z nU)]
   exact Nl _ _ (s4 _ _ z)
  ·by_cases c:j < AG.length
   ·rw [adI c] at ej
    exact zz j rs p' ej rT
   ·rw [adN (by omega)] at ej
    have Ya:j=i:=by
     by_cases z:j - AG.length=0
     ·omega
     ·rw [ab_ (by simp;omega)] at ej
      cases ej
    subst Ya
    rw [show j - AG.length=0 by omega] at ej
    cases ej
    rw [ep] at rT
    cases rT
    refine ⟨?_,fun r hr=> ?_⟩
    ·rw [adZ]
     show min fV.length 2=p.ws.length
     omega
    ·have:=amZ hr
     rcases adY.mp this with z | z
     ·rw [z]
      exact rG (by decide) (by omega) (by decide)
     ·rw [adJ.mp z]
      exact rG (by decide) (by omega) (by decide)
 rintro σ H4 ⟨o4,o5,o7,xs,AG,rfl,s4,e4,J_,Vy,zz⟩
 rw [X8,lu] at Vy
 refine ⟨_,rfl,_,rfl,L2,?_⟩
 intro l5 n5;generalize eX:upd _ l5 _=H5;have ⟨s5,e5⟩:=nw n5 eX;clear eX
 have Jd:=s4.trans s5
 obtain ⟨T,hT⟩:=vU (nm:=a8.nm) (0:Rat) nb fun i=>rs.getD i 0
 obtain ⟨U,hU⟩:=vU (nm:=aE.nm) ([]:List Rat) fr.gp.np fun i=>AG.getD i []
 have tT:∀(i:Nat) (b:a8),bars[i]? =some b→rs[i]? =some (T b.nm):=fun i b e=>by
  have hi:=(be.mp e).1
  rw [hT i b e,adC,gE (by omega)]
  rfl
 have tU:∀(i:Nat) (p:aE),pins[i]? =some p→AG[i]? =some (U p.nm):=fun i p e=>by
  have hi:=(be.mp e).1
  rw [hU i p e,adC,gE (by omega)]
  rfl
 refine q l5 lT lU ts xs T U H5 (s2.trans Jd) e5 ⟨Jd _ _ e2,kd (by rw [Paired.length pt,lr]) fun i v e=> ?_,s5 _ _ e4,kd (by rw [Paired.length J_,Vy]) fun i v e=> ?_,fun p hp=> ?_,by decide⟩ (fun b hb=> ?_) fun p hp u hu=> ?_
 ·obtain ⟨r,er,nr⟩:=aF pt e
  have hi:=(be.mp er).1
  obtain ⟨b,eb⟩:∃b,bars[i]? =some b:=⟨_,gE (by omega)⟩
  have:=tT i b eb
  rw [er] at this
  exact ⟨b,eb,by rw [← adX this];exact nr.same Jd⟩
 ·obtain ⟨rs',er,la,ys,a,b,c,d⟩:=aF J_ e
  have hi:=(be.mp er).1
  obtain ⟨p,ep⟩:∃p,pins[i]? =some p:=⟨_,gE (by omega)⟩
  have:=tU i p ep
  rw [er] at this
  exact ⟨p,ep,la,ys,a,s5 _ _ c,by rw [← adX this];exact Paired.bZ d fun _ _ z=>z.same s5⟩
 ·obtain ⟨i,ei⟩:=adD hp
  exact (zz i _ p (tU i p ei) ei).1
 ·obtain ⟨i,ei⟩:=adD hb
  exact zr _ (aa_ (tT i b ei))
 ·obtain ⟨i,ei⟩:=adD hp
  exact (zz i _ p (tU i p ei) ei).2 u hu
structure LdG (K:Frag)(H:Hp)(d:Addr)(kvs:List (Key×V))(pins:List aE)(L:Str→Option (Rat×Rat)):Prop where
 hd:H d=some (.dK kvs)
 pt:HW K H kvs L
 nk:(kvs.map (·.1)).Nodup
 ks:∀kv∈kvs,∃x∈pins.map (·.nm),kv.1=.inr x
 sz:mvL L
 ll:kvs.length≤100
theorem ER {α:Type}{k:Nat}{f:α→Rat}:∀{l:List α},(∀x∈l,Sz k (f x))→Sz (l.length*(k+1)+1) (l.map f).sum
 | [],_=>by
  rw [aeb,aeJ]
  exact dF (by simp)
 | x::l,h=>by
  rw [ac_,ad3,ad4]
  refine ((h x adG).add (ER fun y hy=>h y (adE _ hy))).up ?_
  rw [aev]
  omega
theorem Kl {k m:Nat}:∀{us ws:List Rat},(∀u∈us,Sz k u)→(∀w∈ws,Sz m w)→Sz (us.length*(k+m+1)+1) (sP us ws)
 | [],ws,_,_=>by
  rw [dk]
  exact dF (by simp)
 | u::us,[],_,_=>by
  have:sP (u::us) []=0:=by simp [sP]
  rw [this]
  exact dF (by simp)
 | u::us,w::ws,h1,h2=>by
  rw [bT,ad4]
  refine (((h1 u adG).mul (h2 w adG)).add (Kl (us:=us) (ws:=ws) (fun y hy=>h1 y (adE _ hy)) fun y hy=>h2 y (adE _ hy))).up ?_
  rw [aev]
  omega
theorem um {pins:List aE}{bars:List a8}(g:dy pins bars){T:Str→Rat}{U:Str→List Rat}(zT:∀b∈bars,Sz 11 (T b.nm))(zU:∀p∈pins,∀u∈U p.nm,Sz 11 u)(lU:∀p∈pins,(U p.nm).length=p.ws.length){p:aE}(hp:p∈pins){c:Rat×Rat→Rat}(hc:∀{n:Nat} {w:Rat×Rat},Sz n w.1∧Sz n w.2→Sz n (c w)):Sz 1000 (b9 bars T U p c):=by
 unfold b9
 have z1:Sz ((U p.nm).length*(11+22+1)+1) (sP (U p.nm) (p.ws.map c)):=Kl (zU p hp) fun w hw=>by
  obtain ⟨w',IG,rfl⟩:=abt.mp hw
  exact hc ((g.sz p hp).2.2 w' IG)
 have z2:Sz (bars.length*(61+1)+1) (bars.map fun b=>T b.nm*c (mv (cI b) p.nm)).sum:=ER fun b hb=>((zT b hb).mul (hc (DQ g hb p.nm))).up (by decide)
 have l1:=g.lw p hp
 have l2:=g.lb
 have l3:=lU p hp
 have m1:(U p.nm).length*(11+22+1)≤2*34:=ad0 34 (by omega)
 have m2:bars.length*(61+1)≤14*62:=ad0 62 l2
 exact (z1.add z2).up (by omega)
def ES (bars:List a8)(T:Str→Rat)(U:Str→List Rat)(p:aE):Rat×Rat:=(-(b9 bars T U p (·.1)), -(b9 bars T U p (·.2)))
theorem xG {q:Int×Int}{r:Rat}(h:0 < q.2)(e:vl q=r):low (0 - q.1) q.2=qr (-r):=by
 rw [eG (aeh h), ← e]
 congr 1
 unfold vl
 push_cast
 grind
inductive rJ (K:Frag)(vs:List V)(H:Hp)(Q:VK)(E_:XK):Prop where
 | mk (pA bA l tA uA:Addr) (us ws ts xs:List V) (pins:List aE) (bars:List a8) (T:Str→Rat) (U:Str→List Rat) (N:Nat) (_:vs=[.ref pA,.ref bA,.ref l]) (_:Ms K H pA bA us ws pins bars) (_:H l=some (.lst [.ref tA,.ref uA])) (_:Mt K H tA uA ts xs pins bars T U N) (_:dy pins bars) (_:(∀b∈bars,Sz 11 (T b.nm))) (_:(∀p∈pins,∀u∈U p.nm,Sz 11 u)) (_:∀(d:Addr) (kvs:List (Key×V)) (L:Str→Option (Rat×Rat)) (H' :Hp),av H H' →LdG K H' d kvs pins L→kvs.length≤9→iI pins bars T U L→Q (.ref d) H'):rJ K vs H Q E_
theorem pZ:aG ["_law_pins_here","_law_bars_here","_law_drawn_here","_law_found","_law_load_here","_law_k","_law_x","_law_y"] ["_law_pins_here","_law_bars_here","_law_drawn_here"] (af s_by):=sq
theorem Rr (D:Def K mg "_law_load" s_by ["_law_pins_here","_law_bars_here","_law_drawn_here"])(ba:mg "len"=none)(aX:mg "range"=none)(Yb:Fn P w K mg base (a_ P w) 3 "_law_forces" ["_law_pins_here","_law_bars_here","_law_pulls","_law_pushes"] (nV K))(oH:Fn P w K mg base (a_ P w) 33 "_law_lowest" ["_law_top","_law_bottom"] cW):
  Fn P w K mg base (a_ P w) 34 "_law_load" ["_law_pins_here","_law_bars_here","_law_drawn_here"] (rJ K):=by
 refine D.ok pZ (fun vs H Q E h=> ?_) (fun f bD A outer s H vs Q E hr h=> ?_)
 ·obtain ⟨pA,bA,l,tA,uA,us,ws,ts,xs,pins,bars,T,U,N,rfl,_⟩:=h
  rfl
 obtain ⟨pA,bA,l,tA,uA,us,ws,ts,xs,pins,bars,T,U,N,rfl,fr,hl,fo,g,zT,zU,q⟩:=h
 have L2:2≤sizeLine:=by decide
 have lp:=fr.lp
 have lu:us.length=pins.length:=Paired.length fr.pp
 refine ⟨_,(ae (ay (i:=3) pZ.nd rfl (adH rfl) (aC Yb hr.mo pX (au (pv 0) (au (pv 1) (au (gN (pv 2)) (au (gN (pv 2)) aa))))))
  (ae (ay (i:=4) pZ.nd rfl (adH rfl) cV)
  (ae (bq PassesOwn.never rfl (bE rfl aX (au (aT aJ rfl ba b7 (au (pv 0) aa)) aa)) (aH (i:=5) pZ.nd rfl (adH rfl)) (ae (ay (i:=6) pZ.nd rfl (adH rfl) (aC oH hr.mo pX (au (aI cG ag (aR (gN (aU aK (pv 3) (pv 5) (fun _ _=>rfl))))) (au (aR (gN (aU aK (pv 3) (pv 5) (fun _ _=>rfl)))) aa))))
   (ae (ay (i:=7) pZ.nd rfl (adH rfl) (aC oH hr.mo pX (au (aI cG ag (aR (gN (aU aK (pv 3) (pv 5) (fun _ _=>rfl))))) (au (aR (gN (aU aK (pv 3) (pv 5) (fun _ _=>rfl)))) aa))))
   (aj (di (b6 hr) (pv 4) (aR (aU aK (pv 0) (pv 5) (fun _ _=>rfl))) (aZ (au (pv 6) (au (pv 7) aa))) rfl)))))
  (aj (aL (pv 4)))))),?_⟩
 have sl:=aV.of (K:=K) hl
 refine ⟨_,rfl,_,rfl,_,rfl,l,_,_,_,rfl,rfl,sl,rfl,_,rfl,l,_,_,_,rfl,rfl,sl,rfl,pA,bA,tA,uA,us,ws,ts,xs,pins,bars,T,U,N,rfl,fr,fo,fun fA ls F H1 s1 ll hF eF=> ?_⟩
 have L_:=s1
 obtain ⟨L,hL⟩:=vU (nm:=aE.nm) ((0,0):Rat×Rat) fr.gp.np fun i=>(pins[i]?.map (ES bars T U)).getD (0,0)
 have eL:∀(i:Nat) (p:aE),pins[i]? =some p→L p.nm=ES bars T U p:=fun i p e=>by
  rw [hL i p e,e]
  rfl
 intro d nd;generalize eX:upd _ d _=H2;have ⟨s2,e2⟩:=nw nd eX;clear eX
 have rY:=L_.trans s2
 have enb:((us.length:Nat):Int).toNat=us.length:=by omega
 refine ⟨_,rfl,pA,_,rfl,.inl (aV.of (rY _ _ fr.hp)),((us.length:Nat):Int),rfl,by omega,by omega,bF (lo:=0) (n:=((us.length:Nat):Int).toNat) (fun i σ H' =>∃(o5 o6 o7:Option V) (kvs:List (Key×V)),σ=[some (.ref pA),some (.ref bA),some (.ref l),some (.ref fA),some (.ref d),o5,o6,o7]∧av H1 H' ∧H' d=some (.dK kvs)∧kvs.map (·.1)=(pins.take i).map (fun p=>(aee p.nm:Key))∧∀(j:Nat) (p:aE),(pins.take i)[j]? =some p→∃v,kvs[j]? =some (.inr p.nm,v)∧eY K H' v (L p.nm)) ⟨none,none,none,[],rfl,s2,e2,by simp,fun j p e=>by simp at e⟩ ?_ ?_⟩
 ·rintro i σ H3 hi ⟨o5,o6,o7,kvs,rfl,s3,e3,ky,tv⟩
  have ek:(0:Int)+(i:Int)=(i:Int):=ad9 _
  rw [ek]
  have IV:=L_.trans s3
  have Rq:i < us.length:=by omega
  obtain ⟨p,ep,Mr⟩:=aF fr.pp (gE Rq)
  have mp:=aa_ ep
  obtain ⟨ta,lw,sv,fV,eu,h1,_,_,_⟩:=Mr.same IV
  have ai:fU us (i:Int)=some (.ref ta):=bh (by rw [gE Rq,eu])
  have F3:=hF.same s3
  obtain ⟨lr,elr⟩:∃lr,ls[i]? =some lr:=⟨_,gE (by omega)⟩
  obtain ⟨w1,w2,hlr,⟨q1,⟨a1,rfl,m1⟩,b1,c1,_⟩,⟨q2,⟨a2,rfl,m2⟩,b2,c2,_⟩⟩:=F3.row i lr elr
  obtain ⟨f1,f2⟩:=eF i p ep
  have Vz:fU (ls.map V.ref) (i:Int)=some (.ref lr):=bh (by rw [ir,elr];rfl)
  have lf:=aV.of (K:=K) F3.hf
  have lrq:=aV.of (K:=K) hlr
  refine ⟨_,rfl,_,rfl,fA,_,_,_,rfl,rfl,lf,Vz,lr,_,_,_,rfl,rfl,lrq,rfl,a1,_,_,_,rfl,rfl,m1,iW,_,_,rfl,rfl,_,rfl,_,rfl,fA,_,_,_,rfl,rfl,lf,Vz,lr,_,_,_,rfl,rfl,lrq,rfl,a1,_,_,_,rfl,rfl,m1,iX,_,_,rfl,b1,fun p4 H4 s4 e4=> ?_⟩
  rw [xG b1 (c1.trans f1)] at e4
  have lf4:=aV.of (K:=K) (s4 _ _ F3.hf)
  have lr4:=aV.of (K:=K) (s4 _ _ hlr)
  have m24:=Ty.av.cY s4 m2
  refine ⟨_,rfl,_,rfl,fA,_,_,_,rfl,rfl,lf4,Vz,lr,_,_,_,rfl,rfl,lr4,rfl,a2,_,_,_,rfl,rfl,m24,iW,_,_,rfl,rfl,_,rfl,_,rfl,fA,_,_,_,rfl,rfl,lf4,Vz,lr,_,_,_,rfl,rfl,lr4,rfl,a2,_,_,_,rfl,rfl,m24,iX,_,_,rfl,b2,fun p5 H5 s5 e5=> ?_⟩
  rw [xG b2 (c2.trans f2)] at e5
  refine ⟨_,rfl,_,rfl,L2,?_⟩
  intro p6 n6;generalize eX:upd _ p6 _=H6;have ⟨s6,e6⟩:=nw n6 eX;clear eX
  have Rt:=s4.trans (s5.trans s6)
  have Yc:=Rt _ _ e3
  have lk:kvs.length=i:=by
   have:=congrArg aeE ky
   rw [Wp,Wp,adZ] at this
   omega
  refine ⟨_,rfl,_,rfl,_,rfl,pA,_,_,_,rfl,rfl,aV.of ((IV.trans Rt) _ _ fr.hp),ai,ta,_,_,_,rfl,rfl,Ty.av.cY Rt h1,dr,d,_,rfl,h7.k (k:=.inr p.nm) Yc (adO (show kvs.length≤100 by omega) (by decide)),?_⟩
  have new:bV kvs (.inr p.nm)=none:=bY (by
   rw [ky]
   intro z
   obtain ⟨p',ju,e'⟩:=abt.mp z
   exact eI (nm:=aE.nm) fr.gp.np ep ju (by injection e'))
  rw [cF _ new]
  have t6:bC H6 (upd H6 d (.dK (kvs++[(.inr p.nm,.ref p6)]))):=fun b zs r=>by
   rcases r with r | ⟨o',r⟩
   ·exact .inl (by rw [ao (fun e=>by rw [e,Yc] at r;cases r)];exact r)
   ·exact .inr ⟨o',by rw [ao (fun e=>by rw [e,Yc] at r;cases r)];exact r⟩
  have pv:eY K H6 (.ref p6) (L p.nm):=by
   rw [eL i p ep]
   exact ⟨p6,_,_,rfl,cf.of e6,iu (s6 _ _ (s5 _ _ e4)),iu (s6 _ _ e5)⟩
  refine ⟨_,_,_,kvs++[(.inr p.nm,.ref p6)],rfl,fun b o z=> ?_,ah,?_,fun j p' ej=> ?_⟩
  ·rw [ao (aq z nd)]
   exact Rt _ _ (s3 _ _ z)
  ·rw [adR,ky,take_snoc ep,adR]
   rfl
  ·rw [take_snoc ep] at ej
   have l0:(pins.take i).length=i:=by rw [adZ];omega
   by_cases c:j < i
   ·rw [adI (by omega)] at ej
    obtain ⟨v,e1,e2⟩:=tv j p' ej
    exact ⟨v,by rw [adI (by omega)];exact e1,(e2.same Rt).aS t6⟩
   ·have Ya:j=i:=by
     rw [adN (by omega)] at ej
     by_cases z:j - (pins.take i).length=0
     ·omega
     ·rw [ab_ (by simp only [amO];omega)] at ej
      cases ej
    subst Ya
    rw [adN (by omega),show j - (pins.take j).length=0 by omega] at ej
    cases ej
    exact ⟨.ref p6,by rw [adN (by omega),show j - kvs.length=0 by omega];rfl,pv.aS t6⟩
 ·rintro σ H3 ⟨o5,o6,o7,kvs,rfl,s3,e3,ky,tv⟩
  rw [enb,lu,aea] at ky tv
  have lk:kvs.length=pins.length:=by
   have:=congrArg aeE ky
   rw [Wp,Wp] at this
   exact this
  have nk:(kvs.map (·.1)).Nodup:=by
   rw [ky]
   have:(pins.map fun p=>(aee p.nm:Key))=(pins.map (·.nm)).map aee:=by rw [ad1];rfl
   rw [this]
   exact ak_ _ (fun a b n z=>n (by injection z)) fr.gp.np
  have mvp:∀p∈pins,mv (fun x=>if x∈pins.map (·.nm) then some (L x) else none) p.nm=L p.nm:=fun p hp=>by
   show (if p.nm∈pins.map (·.nm) then some (L p.nm) else none).getD (0,0)=L p.nm
   rw [if_pos (abt.mpr ⟨p,hp,rfl⟩)]
   rfl
  refine ⟨_,rfl,q d kvs (fun x=>if x∈pins.map (·.nm) then some (L x) else none) H3 (L_.trans s3) ⟨e3,fun x=> ?_,nk,fun kv XI=> ?_,fun x=> ?_,by omega⟩ (by omega) fun p hp=> ?_⟩
  ·by_cases c:x∈pins.map (·.nm)
   ·obtain ⟨p,mp,rfl⟩:=abt.mp c
    obtain ⟨i,ei⟩:=adD mp
    obtain ⟨v,a,b⟩:=tv i p ei
    exact .inr ⟨v,L p.nm,jg nk a,if_pos c,b⟩
   ·refine .inl ⟨bY (fun z=>c ?_),if_neg c⟩
    rw [ky] at z
    obtain ⟨p,mp,e⟩:=abt.mp z
    exact abt.mpr ⟨p,mp,by injection e⟩
  ·have:kv.1∈kvs.map (·.1):=abt.mpr ⟨kv,XI,rfl⟩
   rw [ky] at this
   obtain ⟨p',mp,e⟩:=abt.mp this
   exact ⟨p'.nm,abt.mpr ⟨p',mp,rfl⟩,e.symm⟩
  ·by_cases c:x∈pins.map (·.nm)
   ·obtain ⟨p,mp,rfl⟩:=abt.mp c
    rw [mvp p mp]
    obtain ⟨i,ei⟩:=adD mp
    rw [eL i p ei]
    exact ⟨(um g zT zU fo.lU mp (fun h=>h.1)).neg,(um g zT zU fo.lU mp (fun h=>h.2)).neg⟩
   ·show Sz 1000 ((if x∈pins.map (·.nm) then some (L x) else none).getD (0,0)).1∧Sz 1000 ((if x∈pins.map (·.nm) then some (L x) else none).getD (0,0)).2
    rw [if_neg c]
    exact ⟨dF (by decide),dF (by decide)⟩
  ·rw [mvp p hp]
   obtain ⟨i,ei⟩:=adD hp
   rw [eL i p ei]
   unfold ES
   constructor <;> grind
inductive mi (K:Frag)(vs:List V)(H:Hp)(Q:VK)(E_:XK):Prop where
 | mk (u v:V) (m n:Nat) (r:Rat) (_:vs=[u,v]) (_:fK K H u m r) (_:fK K H v n r) (_:m+n≤130000000) (_:Q (.bl true) H):mi K vs H Q E_
theorem Ru:aG ["_law_one","_law_other"] ["_law_one","_law_other"] (af zd):=sq
theorem Rv (D:Def K mg "_law_alike" zd ["_law_one","_law_other"]):Fn P w K mg base (a_ P w) 1 "_law_alike" ["_law_one","_law_other"] (mi K):=by
 refine D.ok Ru (fun vs H Q E h=> ?_) (fun f bD A outer s H vs Q E hr h=> ?_)
 ·obtain ⟨u,v,m,n,r,rfl,_⟩:=h
  rfl
 obtain ⟨u,v,m,n,r,rfl,⟨x,⟨p1,rfl,h1⟩,x2,x3,zx⟩,⟨y,⟨p2,rfl,h2⟩,y2,y3,zy⟩,l,q⟩:=h
 refine ⟨_,(aj (aL (wI de (aI fj (aR (pv 0)) (aR (pv 1))) (aI fj (aR (pv 1)) (aR (pv 0))) (bu _)))),?_⟩
 refine ⟨_,rfl,p1,_,_,_,rfl,rfl,h1,iW,_,rfl,p2,_,_,_,rfl,rfl,h2,iX,_,_,rfl,rfl,dJ zx.top zy.bot (by omega),?_⟩
 refine ⟨_,rfl,p2,_,_,_,rfl,rfl,h2,iW,_,rfl,p1,_,_,_,rfl,rfl,h1,iX,_,_,rfl,rfl,dJ zy.top zx.bot (by omega),rfl,?_⟩
 have e:x.1*y.2=y.1*x.2:=by
  have z1:((x.2:Int):Rat)≠0:=cw (aeh x2)
  have z2:((y.2:Int):Rat)≠0:=cw (aeh y2)
  have k:vl x=vl y:=by rw [x3,y3]
  unfold vl at k
  have:((x.1*y.2:Int):Rat)=((y.1*x.2:Int):Rat):=by
   push_cast
   grind
  exact afa.mp this
 have e' :decide (V.int (x.1*y.2)=V.int (y.1*x.2))=true:=decide_eq_true (by rw [e])
 rw [← e'] at q
 exact q
inductive nY (K:Frag)(vs:List V)(H:Hp)(Q:VK)(E_:XK):Prop where
 | mk (u v:V) (m n:Nat) (r z:Rat) (_:vs=[u,v]) (_:fK K H u m r) (_:fK K H v n z) (_:m+n≤100000000) (_:∀(p:V) (H' :Hp),av H H' →fK K H' p (m+n+1) (r - z)→Q p H'):nY K vs H Q E_
theorem uo:aG ["_law_told","_law_drawn_here"] ["_law_told","_law_drawn_here"] (af dC):=sq
theorem uq (D:Def K mg "_law_more" dC ["_law_told","_law_drawn_here"])(nR:Fn P w K mg base (a_ P w) 1 "_law_sum" ["_law_one","_law_other"] (b_ K fH))(EM:Fn P w K mg base (a_ P w) 1 "_law_turned" ["_law_one"] (fB K)):
  Fn P w K mg base (a_ P w) 2 "_law_more" ["_law_told","_law_drawn_here"] (nY K):=by
 refine D.ok uo (fun vs H Q E h=> ?_) (fun f bD A outer s H vs Q E hr h=> ?_)
 ·obtain ⟨u,v,m,n,r,z,rfl,_⟩:=h
  rfl
 obtain ⟨u,v,m,n,r,z,rfl,h1,h2,hm,q⟩:=h
 refine ⟨_,(aj (aL (aC nR hr.mo pX (au (pv 0) (au (aC EM hr.mo pX (au (pv 1) aa)) aa))))),?_⟩
 refine ⟨_,rfl,_,rfl,?_⟩
 dsimp only [i5]
 refine nO h2 fun p3 H3 s3 n3=> ?_
 show b_ K fH [_,_] _ _ E0
 refine jB (h1.same s3) n3 (by omega) fun p4 H4 s4 n4=>q _ H4 (s3.trans s4) ?_
 rw [show r - z=r+ -z by grind]
 exact n4
structure p_ (K:Frag)(H:Hp)(pT l d dm dT dU tA uA:Addr)(ts xs:List V)(kT kU kvs km:List (Key×V))(pins:List aE)(bars:List a8)(os:List jz)(T T0:Str→Rat)(U U0:Str→List Rat):Prop where
 hT:H pT=some (.tup [.str "rest",.ref dT,.ref dU])
 pl:zO K H pins bars dT dU kT kU T U 500000
 nT:dT≠d
 nU:dU≠d
 hl:H l=some (.lst [.ref tA,.ref uA])
 fo:Mt K H tA uA ts xs pins bars T0 U0 11
 hd:H d=some (.dK kvs)
 ow:DY K H pins bars d kvs os 40000
 lo:os.length≤14
 nm:dm≠d
 hm:H dm=some (.dK km)
 mo:∀o∈os,∃v,bV km (.inr o.1)=some v∧fK K H v 500012 (T o.1 - T0 o.1)
theorem DY.same {H H' :Hp}{pins:List aE}{bars:List a8}{d:Addr}{kvs:List (Key×V)}{os:List jz}{N:Nat}(h:DY K H pins bars d kvs os N)(s:av H H'):DY K H' pins bars d kvs os N:=⟨Paired.bZ h.pr fun _ _ z=>z.same s,h.nk,h.XF,h.only⟩
theorem p_.same {H H' :Hp}{pT l d dm dT dU tA uA:Addr}{ts xs:List V}{kT kU kvs km:List (Key×V)}{pins:List aE}{bars:List a8}{os:List jz}{T T0:Str→Rat}{U U0:Str→List Rat}(h:p_ K H pT l d dm dT dU tA uA ts xs kT kU kvs km pins bars os T T0 U U0)(s:av H H'):p_ K H' pT l d dm dT dU tA uA ts xs kT kU kvs km pins bars os T T0 U U0:=
 ⟨s _ _ h.hT,h.pl.same s,h.nT,h.nU,s _ _ h.hl,h.fo.same s,s _ _ h.hd,h.ow.same s,h.lo,h.nm,s _ _ h.hm,fun o ho=>by
  obtain ⟨v,a,b⟩:=h.mo o ho
  exact ⟨v,a,b.same s⟩⟩
theorem qa {H1 H6:Hp}{d:Addr}{o:Obj}{kvs:List (Key×V)}(hd:H1 d=some (.dK kvs))(k:bg d H1 H6):av H1 (upd H6 d (.dK kvs)):=fun b o' e=>by
 by_cases n:b=d
 ·subst n
  rw [hd] at e
  rw [ah]
  exact e
 ·rw [ao n]
  exact k b o' n e
inductive nZ (K:Frag)(vs:List V)(H:Hp)(Q:VK)(E_:XK):Prop where
 | mk (bA pT l d dm dT dU tA uA:Addr) (ws ts xs:List V) (kT kU kvs km:List (Key×V)) (pins:List aE) (bars:List a8) (os:List jz) (T T0:Str→Rat) (U U0:Str→List Rat) (_:vs=[.ref bA,.ref pT,.ref l,.ref d,.ref dm]) (_:H bA=some (.lst ws)) (_:Paired (lC K H pins) ws bars) (_:bars.length≤14) (_:p_ K H pT l d dm dT dU tA uA ts xs kT kU kvs km pins bars os T T0 U U0) (_:(∀b∈bars,T b.nm - T0 b.nm=(os.map fun o=>(T o.1 - T0 o.1)*o.2.1 b.nm).sum)) (_:∀H',av H H' →Q (.bl true) H'):nZ K vs H Q E_
theorem cb:aG ["_law_bars_here","_law_told","_law_drawn_here","_law_owns","_law_more_here","_law_k","_law_total","_law_name_here"] ["_law_bars_here","_law_told","_law_drawn_here","_law_owns","_law_more_here"] (af bS):=sq
theorem iN (D:Def K mg "_law_pulls_right" bS ["_law_bars_here","_law_told","_law_drawn_here","_law_owns","_law_more_here"])(ba:mg "len"=none)(aX:mg "range"=none)(nR:Fn P w K mg base (a_ P w) 1 "_law_sum" ["_law_one","_law_other"] (b_ K fH))(zV:Fn P w K mg base (a_ P w) 1 "_law_times" ["_law_one","_law_other"] (b_ K jA))(Mv:Fn P w K mg base (a_ P w) 1 "_law_alike" ["_law_one","_law_other"] (mi K))(eQ:Fn P w K mg base (a_ P w) 2 "_law_more" ["_law_told","_law_drawn_here"] (nY K)):
  Fn P w K mg base (a_ P w) 3 "_law_pulls_right" ["_law_bars_here","_law_told","_law_drawn_here","_law_owns","_law_more_here"] (nZ K):=by
 refine D.ok cb (fun vs H Q E h=> ?_) (fun f bD A outer s H vs Q E hr h=> ?_)
 ·obtain ⟨bA,pT,l,d,dm,dT,dU,tA,uA,ws,ts,xs,kT,kU,kvs,km,pins,bars,os,T,T0,U,U0,rfl,_⟩:=h
  rfl
 obtain ⟨bA,pT,l,d,dm,dT,dU,tA,uA,ws,ts,xs,kT,kU,kvs,km,pins,bars,os,T,T0,U,U0,rfl,hb,pb,lb,ak,eq,q⟩:=h
 have L2:2≤sizeLine:=by decide
 have lw:ws.length=bars.length:=Paired.length pb
 refine ⟨_,(ae (bq PassesOwn.never rfl (bE rfl aX (au (aT aJ rfl ba b7 (au (pv 0) aa)) aa)) (aH (i:=5) cb.nd rfl (adH rfl)) (ae (ay (i:=6) cb.nd rfl (adH rfl) (aZ (au ag (au ag aa))))
   (ae (jb (bq PassesOwn.never rfl (qK (pv 3)) (aH (i:=7) cb.nd rfl (adH rfl)) (aj (ay (i:=6) cb.nd rfl (adH rfl) (aC nR hr.mo pX (au (pv 6) (au (aC zV hr.mo pX (au (cM (b6 hr) (pv 4) (pv 7) (fun _ _=>rfl)) (au (cM (b6 hr) (aR (cM (b6 hr) (pv 3) (pv 7) (fun _ _=>rfl))) (aR (aU aK (pv 0) (pv 5) (fun _ _=>rfl))) (fun _ _=>rfl)) aa))) aa)))))))
   (aj (bG (qf (mm (aC Mv hr.mo pX (au (aC eQ hr.mo pX (au (cM (b6 hr) (aR (pv 1)) (aR (aU aK (pv 0) (pv 5) (fun _ _=>rfl))) (fun _ _=>rfl)) (au (aU aK (gN (pv 2)) (pv 5) (fun _ _=>rfl)) aa))) (au (pv 6) aa))))) (aj (aL oN)) aY)))))
  (aj (aL oN))),?_⟩
 refine ⟨_,rfl,bA,_,rfl,.inl (aV.of hb),((ws.length:Nat):Int),rfl,by omega,by omega,bF (lo:=0) (n:=((ws.length:Nat):Int).toNat) (fun i σ H' =>∃(o5 o6 o7:Option V),σ=[some (.ref bA),some (.ref pT),some (.ref l),some (.ref d),some (.ref dm),o5,o6,o7]∧av H H') ⟨none,none,none,rfl,av.refl _⟩ ?_ ?_⟩
 ·rintro i σ H1 hi ⟨o5,o6,o7,rfl,s1⟩
  have ek:(0:Int)+(i:Int)=(i:Int):=ad9 _
  rw [ek]
  have Rw:i < ws.length:=by omega
  obtain ⟨b,eb,FQ⟩:=aF pb (gE Rw)
  have mb:=aa_ eb
  refine ⟨L2,?_⟩
  intro t2 n2;generalize eX:upd _ t2 _=H2;have ⟨s2,e2⟩:=nw n2 eX;clear eX
  have rY:=s1.trans s2
  have a2:=ak.same rY
  obtain ⟨ta,i1,i2,Rx,zW,_,_⟩:=FQ.same rY
  have ET:fU ws (i:Int)=some (.ref ta):=bh (by rw [gE Rw,Rx])
  have FJ:=rY _ _ hb
  have t0:fK K H2 (.ref t2) (1+0*540014) ((os.take 0).map fun o=>(T o.1 - T0 o.1)*o.2.1 b.nm).sum:=by
   rw [ae8]
   exact ⟨(0,1),⟨t2,rfl,cf.of e2⟩,by decide,(show vl ((0,1):Int×Int)=0 by decide+kernel),by decide,by decide⟩
  refine ⟨_,rfl,d,kvs,rfl,a2.hd,fun o=> ?_⟩
  have k0:bg d H2 (upd H2 d (.du o (.dK kvs))):=fun b o' n e=>by rw [ao n];exact e
  have VA:kvs.length=os.length:=Paired.length a2.ow.pr
  refine mU (d:=d) (o:=o) (kvs:=kvs) (fun t σ H' =>∃(tv:V) (o7:Option V),σ=[some (.ref bA),some (.ref pT),some (.ref l),some (.ref d),some (.ref dm),some (.int (i:Int)),some tv,o7]∧bg d H2 H' ∧H' d=some (.du o (.dK kvs))∧fK K H' tv (1+t*540014) ((os.take t).map fun o=>(T o.1 - T0 o.1)*o.2.1 b.nm).sum) ⟨.ref t2,o7,rfl,k0,ah,t0.aS (dq (.inl a2.hd) k0)⟩ (fun t σ H' _ h=>by
    obtain ⟨_,_,_,_,h,_⟩:=h
    exact h) ?_ ?_
  ·rintro t k y σ H3 m5 ⟨tv,o7,rfl,k3,d3,nt⟩
   have ht:=(be.mp m5).1
   obtain ⟨ow,eo,hw⟩:=aF a2.ow.pr m5
   have mo:=aa_ eo
   obtain ⟨p,oT,oU,jT,jU,ee,hp,n1,n2',pl⟩:=hw.ks (.inl a2.hd) k3
   have Yd:k=.inr ow.1:=congrArg anb ee
   have Ye:y=.ref p:=congrArg anc ee
   subst Yd
   subst Ye
   have st:=dq (.inl a2.hd) k3
   obtain ⟨Yf,em,Yg⟩:=a2.mo ow mo
   have nk:(kvs.map (·.1)).Nodup:=by
    have:kvs.map (·.1)=(os.map (·.1)).map aee:=by
     refine aec fun j=> ?_
     rw [ir,ir,ir]
     by_cases c:j < kvs.length
     ·obtain ⟨o9,e9,⟨_,_,_,_,_,e8,_⟩⟩:=aF a2.ow.pr (gE c)
      rw [gE c,e9,e8]
      rfl
     ·rw [ab_ (by omega),ab_ (by omega)]
      rfl
    rw [this]
    exact ak_ _ (fun a b n z=>n (by injection z)) a2.ow.nk
   have Yh:cL H3 dm (.str ow.1) (some Yf):=by
    have:=cL.k (k:=.inr ow.1) (k3 _ _ a2.nm a2.hm)
    rw [em] at this
    exact this
   have Yi:cL H3 d (.str ow.1) (some (.ref p)):=.inl ⟨kvs,.inr ow.1,.inr ⟨o,d3⟩,rfl,(mX nk m5).symm⟩
   obtain ⟨v3,Yj,Yk⟩:=pl.Md mb
   have Yl:aV K H3 bA ws:=aV.of (k3 _ _ (fun z=>by rw [z,a2.hd] at FJ;cases FJ) FJ)
   have zb:=pl.zT b mb
   refine ⟨_,rfl,_,rfl,_,rfl,dm,_,rfl,Yh,?_⟩
   refine ⟨_,rfl,_,rfl,d,_,rfl,Yi,p,_,_,_,rfl,rfl,cf.of hp,iW,?_⟩
   have Mw:=st.cY zW
   refine ⟨_,rfl,_,rfl,bA,_,_,_,rfl,rfl,Yl,ET,ta,_,_,_,rfl,rfl,Mw,dr,oT,_,rfl,Yj,?_⟩
   dsimp only [i5]
   show b_ K jA [_,_] _ _ E0
   refine mh (Yg.aS st) (iM Yk zb) (by decide) fun p4 H4 s4 n4=> ?_
   show b_ K fH [_,_] _ _ E0
   have lo:=a2.lo
   refine jB (nt.same s4) n4 (by omega) fun p5 H5 s5 n5=> ?_
   refine ⟨_,_,rfl,fun b' o' n e=>s5 _ _ (s4 _ _ (k3 b' o' n e)),s5 _ _ (s4 _ _ d3),?_⟩
   have ew:((os.take (t+1)).map fun o=>(T o.1 - T0 o.1)*o.2.1 b.nm).sum=((os.take t).map fun o=>(T o.1 - T0 o.1)*o.2.1 b.nm).sum+(T ow.1 - T0 ow.1)*ow.2.1 b.nm:=by
    rw [take_snoc eo,adR,amM,ac_,aeb,ad3,aeJ]
    grind
   rw [ew]
   exact n5.up (by rw [aev];omega)
  ·rintro σ H3 ⟨tv,o7,rfl,k3,d3,nt⟩
   refine ⟨d,o,kvs,d3,fun o' u' z=>(by have z' :H d=some (.du o' u'):=z;rw [ak.hd] at z';cases z'),?_⟩
   have s3:=qa (o:=o) a2.hd k3
   have Mx:=nt.aS (dq (.inr ⟨o,d3⟩) (fun b' o' n e=>(by rw [ao n];exact e:(upd H3 d (.dK kvs)) b' =some o')))
   generalize upd H3 d (.dK kvs)=H4 at s3 Mx ⊢
   have vM:=rY.trans s3
   have a4:=ak.same vM
   rw [VA,aea, ← eq b mb] at Mx
   have Ym:=aV.of (K:=K) (vM _ _ hb)
   have My:=Ty.av.cY s3 zW
   obtain ⟨vT,Ry,Rz⟩:=a4.pl.Md mb
   have zT:=a4.pl.zT b mb
   obtain ⟨v0,RA,Nw⟩:=aF (bL a4.fo.pt) eb
   have lo:=a4.lo
   refine ⟨_,rfl,pT,_,_,_,rfl,rfl,cf.of a4.hT,rfl,_,rfl,_,rfl,bA,_,_,_,rfl,rfl,Ym,ET,ta,_,_,_,rfl,rfl,My,dr,dT,_,rfl,Ry,_,rfl,l,_,_,_,rfl,rfl,aV.of a4.hl,rfl,_,rfl,tA,_,_,_,rfl,rfl,aV.of a4.fo.ht,bh RA,vT,v0,500000,11,_,_,rfl,iM Rz zT,Nw,by decide,fun v6 H6 s6 n6=> ?_⟩
   refine ⟨_,rfl,v6,tv,_,_,_,rfl,n6,Mx.same s6,by omega,_,rfl,?_⟩
   refine bM (fun c=>nomatch c) (fun _=> ?_)
   exact ⟨_,_,_,rfl,vM.trans s6⟩
 ·rintro σ H1 ⟨o5,o6,o7,rfl,s1⟩
  exact q _ s1
theorem xH {H:Hp}{vs:List V}{rs:List Rat}{N:Nat}(p:Paired (fJ K H) vs rs)(z:∀u∈rs,Zb N u){j:Nat}(hj:j < rs.length):∃v,vs[j]? =some v∧fK K H v N (rs.getD j 0):=by
 obtain ⟨v,ev,n⟩:=aF (bL p) (gE hj)
 refine ⟨v,ev,?_⟩
 have e:rs.getD j 0=rs[j]:=by
  rw [adC,gE hj]
  rfl
 rw [e]
 exact iM n (z _ (aeq hj))
inductive kg (K:Frag)(vs:List V)(H:Hp)(Q:VK)(E_:XK):Prop where
 | mk (pA pT l d dm dT dU tA uA:Addr) (us ts xs:List V) (kT kU kvs km:List (Key×V)) (pins:List aE) (bars:List a8) (os:List jz) (T T0:Str→Rat) (U U0:Str→List Rat) (_:vs=[.ref pA,.ref pT,.ref l,.ref d,.ref dm]) (_:H pA=some (.lst us)) (_:Paired (jE K H) us pins) (_:pins.length≤9) (_:(∀p∈pins,p.ws.length≤2)) (_:p_ K H pT l d dm dT dU tA uA ts xs kT kU kvs km pins bars os T T0 U U0) (_:(∀p∈pins,∀j,j < p.ws.length→(U p.nm).getD j 0 - (U0 p.nm).getD j 0=(os.map fun o=>(T o.1 - T0 o.1)*(o.2.2 p.nm).getD j 0).sum)) (_:∀H',av H H' →Q (.bl true) H'):kg K vs H Q E_
theorem bI:aG ["_law_pins_here","_law_told","_law_drawn_here","_law_owns","_law_more_here","_law_k","_law_j","_law_total","_law_name_here"] ["_law_pins_here","_law_told","_law_drawn_here","_law_owns","_law_more_here"] (af bN):=sq
theorem ia (D:Def K mg "_law_pushes_right" bN ["_law_pins_here","_law_told","_law_drawn_here","_law_owns","_law_more_here"])(ba:mg "len"=none)(aX:mg "range"=none)(nR:Fn P w K mg base (a_ P w) 1 "_law_sum" ["_law_one","_law_other"] (b_ K fH))(zV:Fn P w K mg base (a_ P w) 1 "_law_times" ["_law_one","_law_other"] (b_ K jA))(Mv:Fn P w K mg base (a_ P w) 1 "_law_alike" ["_law_one","_law_other"] (mi K))(eQ:Fn P w K mg base (a_ P w) 2 "_law_more" ["_law_told","_law_drawn_here"] (nY K)):
  Fn P w K mg base (a_ P w) 3 "_law_pushes_right" ["_law_pins_here","_law_told","_law_drawn_here","_law_owns","_law_more_here"] (kg K):=by
 refine D.ok bI (fun vs H Q E h=> ?_) (fun f bD A outer s H vs Q E hr h=> ?_)
 ·obtain ⟨pA,pT,l,d,dm,dT,dU,tA,uA,us,ts,xs,kT,kU,kvs,km,pins,bars,os,T,T0,U,U0,rfl,_⟩:=h
  rfl
 obtain ⟨pA,pT,l,d,dm,dT,dU,tA,uA,us,ts,xs,kT,kU,kvs,km,pins,bars,os,T,T0,U,U0,rfl,hp,pp,lp,lw2,ak,eq,q⟩:=h
 have L2:2≤sizeLine:=by decide
 have lu:us.length=pins.length:=Paired.length pp
 refine ⟨_,(ae (bq PassesOwn.never rfl (bE rfl aX (au (aT aJ rfl ba b7 (au (pv 0) aa)) aa)) (aH (i:=5) bI.nd rfl (adH rfl)) (aj (bq PassesOwn.never rfl (bE rfl aX (au (aT aJ rfl ba b7 (au (aR (aU aK (pv 0) (pv 5) (fun _ _=>rfl))) aa)) aa)) (aH (i:=6) bI.nd rfl (adH rfl)) (ae (ay (i:=7) bI.nd rfl (adH rfl) (aZ (au ag (au ag aa))))
    (ae (jb (bq PassesOwn.never rfl (qK (pv 3)) (aH (i:=8) bI.nd rfl (adH rfl)) (aj (ay (i:=7) bI.nd rfl (adH rfl) (aC nR hr.mo pX (au (pv 7) (au (aC zV hr.mo pX (au (cM (b6 hr) (pv 4) (pv 8) (fun _ _=>rfl)) (au (aU aK (cM (b6 hr) (aR (cM (b6 hr) (pv 3) (pv 8) (fun _ _=>rfl))) (aR (aU aK (pv 0) (pv 5) (fun _ _=>rfl))) (fun _ _=>rfl)) (pv 6) (fun _ _=>rfl)) aa))) aa)))))))
    (aj (bG (qf (mm (aC Mv hr.mo pX (au (aC eQ hr.mo pX (au (aU aK (cM (b6 hr) (aR (pv 1)) (aR (aU aK (pv 0) (pv 5) (fun _ _=>rfl))) (fun _ _=>rfl)) (pv 6) (fun _ _=>rfl)) (au (aU aK (aU aK (gN (pv 2)) (pv 5) (fun _ _=>rfl)) (pv 6) (fun _ _=>rfl)) aa))) (au (pv 7) aa))))) (aj (aL oN)) aY)))))))
  (aj (aL oN))),?_⟩
 refine ⟨_,rfl,pA,_,rfl,.inl (aV.of hp),((us.length:Nat):Int),rfl,by omega,by omega,bF (lo:=0) (n:=((us.length:Nat):Int).toNat) (fun i σ H' =>∃(o5 o6 o7 o8:Option V),σ=[some (.ref pA),some (.ref pT),some (.ref l),some (.ref d),some (.ref dm),o5,o6,o7,o8]∧av H H') ⟨none,none,none,none,rfl,av.refl _⟩ ?_ ?_⟩
 ·rintro i σ H0 hi ⟨o5,o6,o7,o8,rfl,s0⟩
  have ek:(0:Int)+(i:Int)=(i:Int):=ad9 _
  rw [ek]
  have Rw:i < us.length:=by omega
  obtain ⟨b,eb,FQ⟩:=aF pp (gE Rw)
  have mb:=aa_ eb
  have lwb:=lw2 b mb
  obtain ⟨ta,la,sv,wv,Rx,RB,_,X9,hwp⟩:=FQ.same s0
  have ET:fU us (i:Int)=some (.ref ta):=bh (by rw [gE Rw,Rx])
  have lwv:wv.length=b.ws.length:=Paired.length hwp
  refine ⟨_,rfl,_,rfl,pA,_,_,_,rfl,rfl,aV.of (s0 _ _ hp),ET,ta,_,_,_,rfl,rfl,RB,rfl,la,_,rfl,.inl (aV.of X9),((wv.length:Nat):Int),rfl,by omega,by omega,bF (lo:=0) (n:=((wv.length:Nat):Int).toNat) (fun j σ H' =>∃(o6 o7 o8:Option V),σ=[some (.ref pA),some (.ref pT),some (.ref l),some (.ref d),some (.ref dm),some (.int (i:Int)),o6,o7,o8]∧av H0 H') ⟨o6,o7,o8,rfl,av.refl _⟩ ?_ ?_⟩
  rotate_left
  ·rintro σ H1 ⟨o6,o7,o8,rfl,s1⟩
   exact ⟨_,_,_,_,rfl,s0.trans s1⟩
  rintro j σ H1 hj ⟨o6,o7,o8,rfl,Yn⟩
  have ekj:(0:Int)+(j:Int)=(j:Int):=ad9 _
  rw [ekj]
  have VB:j < b.ws.length:=by omega
  have s1:=s0.trans Yn
  refine ⟨L2,?_⟩
  intro t2 n2;generalize eX:upd _ t2 _=H2;have ⟨s2,e2⟩:=nw n2 eX;clear eX
  have rY:=s1.trans s2
  have a2:=ak.same rY
  have zW:=Ty.av.cY (Yn.trans s2) RB
  have FJ:=rY _ _ hp
  have t0:fK K H2 (.ref t2) (1+0*540014) ((os.take 0).map fun o=>(T o.1 - T0 o.1)*(o.2.2 b.nm).getD j 0).sum:=by
   rw [ae8]
   exact ⟨(0,1),⟨t2,rfl,cf.of e2⟩,by decide,(show vl ((0,1):Int×Int)=0 by decide+kernel),by decide,by decide⟩
  refine ⟨_,rfl,d,kvs,rfl,a2.hd,fun o=> ?_⟩
  have k0:bg d H2 (upd H2 d (.du o (.dK kvs))):=fun b o' n e=>by rw [ao n];exact e
  have VA:kvs.length=os.length:=Paired.length a2.ow.pr
  refine mU (d:=d) (o:=o) (kvs:=kvs) (fun t σ H' =>∃(tv:V) (o7:Option V),σ=[some (.ref pA),some (.ref pT),some (.ref l),some (.ref d),some (.ref dm),some (.int (i:Int)),some (.int (j:Int)),some tv,o7]∧bg d H2 H' ∧H' d=some (.du o (.dK kvs))∧fK K H' tv (1+t*540014) ((os.take t).map fun o=>(T o.1 - T0 o.1)*(o.2.2 b.nm).getD j 0).sum) ⟨.ref t2,o8,rfl,k0,ah,t0.aS (dq (.inl a2.hd) k0)⟩ (fun t σ H' _ h=>by
    obtain ⟨_,_,_,_,h,_⟩:=h
    exact h) ?_ ?_
  ·rintro t k y σ H3 m5 ⟨tv,o7,rfl,k3,d3,nt⟩
   have ht:=(be.mp m5).1
   obtain ⟨ow,eo,hw⟩:=aF a2.ow.pr m5
   have mo:=aa_ eo
   obtain ⟨p,oT,oU,jT,jU,ee,Px,n1,n2',pl⟩:=hw.ks (.inl a2.hd) k3
   have Yd:k=.inr ow.1:=congrArg anb ee
   have Ye:y=.ref p:=congrArg anc ee
   subst Yd
   subst Ye
   have st:=dq (.inl a2.hd) k3
   obtain ⟨Yf,em,Yg⟩:=a2.mo ow mo
   have nk:(kvs.map (·.1)).Nodup:=by
    have:kvs.map (·.1)=(os.map (·.1)).map aee:=by
     refine aec fun j=> ?_
     rw [ir,ir,ir]
     by_cases c:j < kvs.length
     ·obtain ⟨o9,e9,⟨_,_,_,_,_,e8,_⟩⟩:=aF a2.ow.pr (gE c)
      rw [gE c,e9,e8]
      rfl
     ·rw [ab_ (by omega),ab_ (by omega)]
      rfl
    rw [this]
    exact ak_ _ (fun a b n z=>n (by injection z)) a2.ow.nk
   have Yh:cL H3 dm (.str ow.1) (some Yf):=by
    have:=cL.k (k:=.inr ow.1) (k3 _ _ a2.nm a2.hm)
    rw [em] at this
    exact this
   have Yi:cL H3 d (.str ow.1) (some (.ref p)):=.inl ⟨kvs,.inr ow.1,.inr ⟨o,d3⟩,rfl,(mX nk m5).symm⟩
   obtain ⟨l3,vs3,Yj,Py,pv3⟩:=pl.QR mb
   obtain ⟨v3,ev3,Yk⟩:=xH pv3 (pl.zU b mb) (j:=j) (by rw [pl.lU b mb];exact VB)
   have Yl:aV K H3 pA us:=aV.of (k3 _ _ (fun z=>by rw [z,a2.hd] at FJ;cases FJ) FJ)
   refine ⟨_,rfl,_,rfl,_,rfl,dm,_,rfl,Yh,?_⟩
   refine ⟨_,rfl,_,rfl,d,_,rfl,Yi,p,_,_,_,rfl,rfl,cf.of Px,iX,?_⟩
   have Mw:=st.cY zW
   refine ⟨_,rfl,_,rfl,pA,_,_,_,rfl,rfl,Yl,ET,ta,_,_,_,rfl,rfl,Mw,dr,oU,_,rfl,Yj,_,rfl,l3,_,_,_,rfl,rfl,aV.of Py,bh ev3,?_⟩
   dsimp only [i5]
   show b_ K jA [_,_] _ _ E0
   refine mh (Yg.aS st) Yk (by decide) fun p4 H4 s4 n4=> ?_
   show b_ K fH [_,_] _ _ E0
   have lo:=a2.lo
   refine jB (nt.same s4) n4 (by omega) fun p5 H5 s5 n5=> ?_
   refine ⟨_,_,rfl,fun b' o' n e=>s5 _ _ (s4 _ _ (k3 b' o' n e)),s5 _ _ (s4 _ _ d3),?_⟩
   have ew:((os.take (t+1)).map fun o=>(T o.1 - T0 o.1)*(o.2.2 b.nm).getD j 0).sum=((os.take t).map fun o=>(T o.1 - T0 o.1)*(o.2.2 b.nm).getD j 0).sum+(T ow.1 - T0 ow.1)*(ow.2.2 b.nm).getD j 0:=by
    rw [take_snoc eo,adR,amM,ac_,aeb,ad3,aeJ]
    grind
   rw [ew]
   exact n5.up (by rw [aev];omega)
  ·rintro σ H3 ⟨tv,o7,rfl,k3,d3,nt⟩
   refine ⟨d,o,kvs,d3,fun o' u' z=>(by have z' :H d=some (.du o' u'):=z;rw [ak.hd] at z';cases z'),?_⟩
   have s3:=qa (o:=o) a2.hd k3
   have Mx:=nt.aS (dq (.inr ⟨o,d3⟩) (fun b' o' n e=>(by rw [ao n];exact e:(upd H3 d (.dK kvs)) b' =some o')))
   generalize upd H3 d (.dK kvs)=H4 at s3 Mx ⊢
   have vM:=rY.trans s3
   have a4:=ak.same vM
   rw [VA,aea, ← eq b mb j VB] at Mx
   have Ym:=aV.of (K:=K) (vM _ _ hp)
   have My:=Ty.av.cY s3 zW
   obtain ⟨lT,vsT,Ry,hlT,pvT⟩:=a4.pl.QR mb
   obtain ⟨vT,evT,Rz⟩:=xH pvT (a4.pl.zU b mb) (j:=j) (by rw [a4.pl.lU b mb];exact VB)
   obtain ⟨w0,ew0,⟨l0,Vb,rfl,Yo,py0⟩⟩:=aF (bL a4.fo.pu) eb
   have hj0:j < (U0 b.nm).length:=by rw [a4.fo.lU b mb];exact VB
   obtain ⟨v0,RA,Nw⟩:=aF (bL py0) (gE hj0)
   have e0:(U0 b.nm).getD j 0=(U0 b.nm)[j]:=by
    rw [adC,gE hj0]
    rfl
   rw [← e0] at Nw
   have lo:=a4.lo
   refine ⟨_,rfl,pT,_,_,_,rfl,rfl,cf.of a4.hT,rfl,_,rfl,_,rfl,pA,_,_,_,rfl,rfl,Ym,ET,ta,_,_,_,rfl,rfl,My,dr,dU,_,rfl,Ry,_,rfl,lT,_,_,_,rfl,rfl,aV.of hlT,bh evT,_,rfl,l,_,_,_,rfl,rfl,aV.of a4.hl,rfl,_,rfl,uA,_,_,_,rfl,rfl,aV.of a4.fo.hu,bh ew0,_,rfl,l0,_,_,_,rfl,rfl,aV.of Yo,bh RA,vT,v0,500000,11,_,_,rfl,Rz,Nw,by decide,fun v6 H6 s6 n6=> ?_⟩
   refine ⟨_,rfl,v6,tv,_,_,_,rfl,n6,Mx.same s6,by omega,_,rfl,?_⟩
   refine bM (fun c=>nomatch c) (fun _=> ?_)
   exact ⟨_,_,_,rfl,Yn.trans (s2.trans (s3.trans s6))⟩
 ·rintro σ H1 ⟨o5,o6,o7,o8,rfl,s1⟩
  exact q _ s1
theorem Yp:PySem.W.kitOne K (.type "tuple") (.type "tuple")=some true:=by unfold PySem.W.kitOne;rw [if_pos (by decide)]
theorem xI {α:Type}[DecidableEq α]:∀{l m:List α},l.Nodup→(∀x∈l,x∈m)→l.length≤m.length
 | [],_,_,_=>aeg _
 | x::l,m,n,h=>by
  rw [ad8] at n
  have hx:=h x adG
  have ih:=xI (l:=l) (m:=m.erase x) n.2 fun y hy=>(amW (fun e=>n.1 (by rw [← e];exact hy))).mpr (h y (adE _ hy))
  have:=amu hx
  have:0 < m.length:=amG hx
  rw [ad4]
  omega
theorem Jf {ws:List (Rat×Rat)}(h:gU ws):IT ws:=fun us hl h1 h2 u hu=>by
 rcases h with rfl | ⟨x,y,rfl,ne,_,_⟩ | rfl
 ·rw [afc.mp hl] at hu
  cases hu
 ·obtain ⟨a,rfl⟩:=List.length_eq_one_iff.mp hl
  have e:u=a:=by simpa using hu
  have e1:a*x=0:=by
   have:=h1
   rw [ac_,aeb,bT,dk] at this
   grind
  have e2:a*y=0:=by
   have:=h2
   rw [ac_,aeb,bT,dk] at this
   grind
  rw [e]
  by_cases c:x=0
  ·have:y≠0:=fun z=>ne ⟨c,z⟩
   grind
  ·grind
 ·match us,hl with
  | [a,b],_=>
   rw [ac_,ac_,aeb,bT,bT,dk] at h1 h2
   have ea:a=0:=by grind
   have eb:b=0:=by grind
   rcases adY.mp hu with z | z
   ·rw [z];exact ea
   ·rw [adJ.mp z];exact eb
def lD (a b:List Rat):List Rat:=aeo (fun x y=>x - y) a b
theorem EU:∀{a b:List Rat} (w:List Rat),a.length=b.length→sP (lD a b) w=sP a w - sP b w
 | [],[],w,_=>by
  rw [show lD [] []=[] from rfl,dk]
  grind
 | x::a,y::b,[],_=>by
  simp [sP,lD]
  grind
 | x::a,y::b,c::w,h=>by
  rw [show lD (x::a) (y::b)=(x - y)::lD a b from rfl,bT,bT,bT,EU w (by simpa using h)]
  grind
theorem EV {a b:List Rat}(h:a.length=b.length):(lD a b).length=a.length:=by
 unfold lD
 rw [am1]
 omega
theorem xJ:∀{a b:List Rat} {j:Nat},a.length=b.length→(lD a b).getD j 0=a.getD j 0 - b.getD j 0
 | [],[],j,_=>by
  show (([]:List Rat).getD j 0)=_
  simp
  grind
 | x::a,y::b,0,_=>rfl
 | x::a,y::b,j+1,h=>by
  show (lD a b).getD j 0=a.getD j 0 - b.getD j 0
  exact xJ (by simpa using h)
theorem ur (f h:a8→Rat):∀l:List a8,(l.map fun b=>f b - h b).sum=(l.map f).sum - (l.map h).sum
 | []=>by simp;grind
 | b::l=>by
  rw [ac_,ac_,ac_,ad3,ad3,ad3,ur f h l]
  grind
theorem uu {pins:List aE}{bars:List a8}{T T0:Str→Rat}{U U0:Str→List Rat}{L:Str→Option (Rat×Rat)}(h:iI pins bars T U L)(h0:iI pins bars T0 U0 L)(hl:∀q∈pins,(U q.nm).length=q.ws.length)(Yo:∀q∈pins,(U0 q.nm).length=q.ws.length):iK pins bars (fun x=>T x - T0 x) (fun x=>lD (U x) (U0 x)):=fun p hp=>by
 have k:∀c:Rat×Rat→Rat,b9 bars (fun x=>T x - T0 x) (fun x=>lD (U x) (U0 x)) p c=b9 bars T U p c - b9 bars T0 U0 p c:=fun c=>by
  unfold b9
  rw [EU _ (by rw [hl p hp,Yo p hp])]
  have:(bars.map fun b=>(T b.nm - T0 b.nm)*c (mv (cI b) p.nm))=bars.map fun b=>T b.nm*c (mv (cI b) p.nm) - T0 b.nm*c (mv (cI b) p.nm):=ad2 fun b _=>by grind
  rw [this,ur]
  grind
 obtain ⟨a1,a2⟩:=h p hp
 obtain ⟨b1,b2⟩:=h0 p hp
 refine ⟨?_,?_⟩
 ·rw [k]
  grind
 ·rw [k]
  grind
theorem gm:aG ["_law_script","_law_pins_here","_law_bars_here","_law_frame_here","_law_drawn_here","_law_told","_law_owns","_law_more_here","_law_k"] ["_law_script"] (af je):=sq
theorem Mz {f:Addr}{fd:FuncData}{C:Addr}(F:oi K "law" "law" je f fd)(aX:mg "range"=none)(ba:mg "len"=none)(gs:mg "isinstance"=none)(rK:mg "tuple"=none)
  (Yq:Fn P w K mg base (a_ P w) 35 "_law_pins" ["_law_script"] (rD K)) (Yr:Fn P w K mg base (a_ P w) 3 "_law_bars" ["_law_script","_law_pins_here"] (rE K)) (Ys:Fn P w K mg base (a_ P w) 4 "_law_frame" ["_law_pins_here","_law_bars_here"] (nS K C))
  (Yt:Fn P w K mg base (a_ P w) 2 "_law_drawn" ["_law_script","_law_pins_here","_law_bars_here"] (rH K)) (Yu:Fn P w K mg base (a_ P w) 34 "_law_load" ["_law_pins_here","_law_bars_here","_law_drawn_here"] (rJ K)) (Yv:Fn P w K mg base (a_ P w) 39 "rest_of" ["F","load"] (vL K C)) (uv:Fn P w K mg base (a_ P w) 39 "spares_of" ["F"] (D_ K C))
  (eQ:Fn P w K mg base (a_ P w) 2 "_law_more" ["_law_told","_law_drawn_here"] (nY K)) (jI:Fn P w K mg base (a_ P w) 3 "_law_pulls_right" ["_law_bars_here","_law_told","_law_drawn_here","_law_owns","_law_more_here"] (nZ K)) (iO:Fn P w K mg base (a_ P w) 3 "_law_pushes_right" ["_law_pins_here","_law_told","_law_drawn_here","_law_owns","_law_more_here"] (kg K)):
  cH P w K mg base (a_ P w) 42 f fd ["_law_script"] (BM K):=by
 refine F.okG gm (fun vs H Q E h=> ?_) (fun bD A outer s H vs Q E hr h=> ?_)
 ·obtain ⟨a,ns,rfl,_⟩:=h
  rfl
 obtain ⟨sA,ns,rfl,hS,hn,hb,q⟩:=h
 refine ⟨_,(ae (ay (i:=1) gm.nd rfl (adH rfl) (aC Yq hr.mo pX (au (pv 0) aa)))
  (ae (ay (i:=2) gm.nd rfl (adH rfl) (aC Yr hr.mo pX (au (pv 0) (au (pv 1) aa))))
  (ae (ay (i:=3) gm.nd rfl (adH rfl) (aC Ys hr.mo pX (au (pv 1) (au (pv 2) aa))))
  (ae (ay (i:=4) gm.nd rfl (adH rfl) (aC Yt hr.mo pX (au (pv 0) (au (pv 1) (au (pv 2) aa)))))
  (ae (ay (i:=5) gm.nd rfl (adH rfl) (aC Yv hr.mo pX (au (pv 3) (au (aC Yu hr.mo pX (au (pv 1) (au (pv 2) (au (pv 4) aa)))) aa))))
  (ae (bG (PW.pt (NJ (qf (mm (aT BL rfl gs qC (au (pv 5) (au (Oi rfl rK HI) aa))))) (KU (bf sf (aR (pv 5)) d6 (bu _))))) (aj (aL oN)) aY)
  (ae (ay (i:=6) gm.nd rfl (adH rfl) (aC uv hr.mo pX (au (pv 3) aa)))
  (ae (ay (i:=7) gm.nd rfl (adH rfl) cV)
  (ae (bq PassesOwn.never rfl (bE rfl aX (au (aT aJ rfl ba b7 (au (pv 2) aa)) aa)) (aH (i:=8) gm.nd rfl (adH rfl)) (aj (bG (jR (vb (b6 hr) (aR (aU aK (pv 2) (pv 8) (fun _ _=>rfl))) (pv 6))) (aj (di (b6 hr) (pv 7) (aR (aU aK (pv 2) (pv 8) (fun _ _=>rfl))) (aC eQ hr.mo pX (au (cM (b6 hr) (aR (pv 5)) (aR (aU aK (pv 2) (pv 8) (fun _ _=>rfl))) (fun _ _=>rfl)) (au (aU aK (gN (pv 4)) (pv 8) (fun _ _=>rfl)) aa))) rfl)) aY)))
  (ae (bG (qf (mm (aC jI hr.mo pX (au (pv 2) (au (pv 5) (au (pv 4) (au (pv 6) (au (pv 7) aa)))))))) (aj (aL oN)) aY)
  (aj (aL (aC iO hr.mo pX (au (pv 1) (au (pv 5) (au (pv 4) (au (pv 6) (au (pv 7) aa)))))))))))))))))),?_⟩
 refine ⟨_,rfl,sA,ns,rfl,hS,fun lP us pins H1 s1 nP eP pp gp lp pn=> ?_⟩
 have lu:us.length=pins.length:=Paired.length pp
 refine ⟨_,rfl,_,rfl,sA,lP,ns,us,pins,rfl,s1.seq hS,eP,lu,gp.np,by omega,fun lB vs bars H2 s2 nB eB pb gb lb=> ?_⟩
 have lv:vs.length=bars.length:=Paired.length pb
 have pp2:Paired (jE K H2) us pins:=Paired.bZ pp fun _ _ z=>z.same s2
 have eP2:=s2 _ _ eP
 refine ⟨_,rfl,_,rfl,lP,lB,us,vs,pins,bars,rfl,eP2,pp2,eB,pb,gp,gb,by omega,by omega,fun fA H3 s3 R=> ?_⟩
 have g:=Rb gp gb (by omega) (by omega)
 have NU:Ms K H3 lP lB us vs pins bars:=⟨s3 _ _ eP2,Paired.bZ pp2 fun _ _ z=>z.same s3,gp,s3 _ _ eB,Paired.bZ pb fun _ _ z=>z.same s3,fun b hb=>(gb.ends b hb).2.2,lp,by omega⟩
 have IV:=s1.trans (s2.trans s3)
 refine ⟨_,rfl,_,rfl,_,rfl,sA,lP,lB,ns,us,vs,pins,bars,rfl,IV.seq hS,NU,gb.nb,fun l tA uA ts xs T0 U0 H4 s4 hl fo zT zU=> ?_⟩
 have Nv:=NU.same s4
 refine ⟨_,rfl,_,rfl,_,rfl,_,rfl,lP,lB,l,tA,uA,us,vs,ts,xs,pins,bars,T0,U0,11,rfl,Nv,hl,fo,g,zT,zU,fun dL kL L H5 s5 ld lk ar=> ?_⟩
 have R5:=(R.same s4).same s5
 refine ⟨fA,dL,pins,bars,kL,L,rfl,R5,g,lp,ld.hd,ld.pt,ld.sz,ld.ks,fun M p dM kM H6 _ _ _ mo wk _=>(DV g ar mo wk).elim,fun T U Lx pT dT dU kT kU H6 s6 e6 pr rest z1 z2=> ?_⟩
 have z9:=zL9 lp
 refine ⟨_,rfl,_,_,_,true,rfl,rfl,.tup e6,Yp,_,rfl,?_⟩
 refine bM (fun c=>nomatch c) (fun _=> ?_)
 refine ⟨_,rfl,pT,_,_,_,rfl,rfl,cf.of e6,rfl,rfl,_,rfl,?_⟩
 refine bM (fun c=>absurd c (by simp [oh])) (fun _=> ?_)
 have R6:=R5.same s6
 refine ⟨_,rfl,fA,pins,bars,rfl,R6,g,fun p hp=>Jf (gp.ws p hp),fun d kvs os H7 s7 nd hd ow=> ?_⟩
 intro dm n8;generalize eX:upd _ dm _=H8;have ⟨s8,e8⟩:=nw n8 eX;clear eX
 have pl:zO K H6 pins bars dT dU kT kU T U 500000:=⟨pr.hT,pr.hU,pr.zH,pr.zI,pr.tT,fun q' i6 =>by
    obtain ⟨vs,a1,_,c1,d1⟩:=pr.tU q' i6
    exact ⟨_,vs,a1,c1,d1⟩,pr.lU,fun b hb=>(z1 b hb).up z9,fun p hp u hu=>(z2 p hp u hu).up z9,by decide⟩
 have nT:dT≠d:=fun z=>by
  have:=pr.hT
  rw [z,nd] at this
  cases this
 have nU:dU≠d:=fun z=>by
  have:=pr.hU
  rw [z,nd] at this
  cases this
 have nm:dm≠d:=fun z=>by rw [z,hd] at n8;cases n8
 have Je:=s5.trans (s6.trans s7)
 have Oo:=Nv.same Je
 have fo7:=fo.same Je
 have hl7:=Je _ _ hl
 have Yw:=pl.same s7
 have e67:=s7 _ _ e6
 have lo:os.length≤14:=by
  have h1:(os.map (·.1)).length≤(bars.map (·.nm)).length:=xI ow.nk fun x hx=>by
   obtain ⟨o,ho,rfl⟩:=abt.mp hx
   exact ow.XF o ho
  rw [Wp,Wp] at h1
  omega
 have inO:∀{H' :Hp},av H7 H' →∀b∈bars,(b.nm∈os.map (·.1)∧∃v,cL H' d (.str b.nm) (some v))∨(b.nm∉os.map (·.1)∧cL H' d (.str b.nm) none):=fun {H'} s9 b hb=>by
  have kk:kvs.map (·.1)=(os.map (·.1)).map aee:=by
   refine aec fun j=> ?_
   have VA:kvs.length=os.length:=Paired.length ow.pr
   rw [ir,ir,ir]
   by_cases c:j < kvs.length
   ·obtain ⟨o9,e9,⟨_,_,_,_,_,e8,_⟩⟩:=aF ow.pr (gE c)
    rw [gE c,e9,e8]
    rfl
   ·rw [ab_ (by omega),ab_ (by omega)]
    rfl
  have dg:=cL.k (k:=.inr b.nm) (s9 _ _ hd)
  by_cases c:b.nm∈os.map (·.1)
  ·obtain ⟨v,ev⟩:=g7 (k:=(aee b.nm:Key)) (kvs:=kvs) (by rw [kk];exact abt.mpr ⟨_,c,rfl⟩)
   rw [ev] at dg
   exact .inl ⟨c,v,dg⟩
  ·rw [bY (fun z=>c (by
    rw [kk] at z
    obtain ⟨y,hy,e⟩:=abt.mp z
    rw [← aem e]
    exact hy))] at dg
   exact .inr ⟨c,dg⟩
 refine ⟨_,rfl,lB,_,rfl,.inl (aV.of (s8 _ _ Oo.hb)),((vs.length:Nat):Int),rfl,by omega,by omega,bF (lo:=0) (n:=((vs.length:Nat):Int).toNat) (fun i σ H' =>∃(o8:Option V) (km:List (Key×V)),σ=[some (.ref sA),some (.ref lP),some (.ref lB),some (.ref fA),some (.ref l),some (.ref pT),some (.ref d),some (.ref dm),o8]∧av H7 H' ∧H' dm=some (.dK km)∧km.length≤i∧∀(j:Nat) (b:a8),j < i→bars[j]? =some b→b.nm∈os.map (·.1)→∃v,bV km (.inr b.nm)=some v∧fK K H' v 500012 (T b.nm - T0 b.nm)) ⟨none,[],rfl,s8,e8,adL _,fun j b hj=>by omega⟩ ?_ ?_⟩
 ·rintro i σ H9 hi ⟨o8,km,rfl,s9,e9,lkm,mo⟩
  have ek:(0:Int)+(i:Int)=(i:Int):=ad9 _
  rw [ek]
  have hiv:i < vs.length:=by omega
  have MA:=Oo.same s9
  obtain ⟨b,eb,FQ⟩:=aF MA.pb (gE hiv)
  have mb:=aa_ eb
  obtain ⟨ta,i1,i2,Rx,zW,_,_⟩:=FQ
  have ET:fU vs (i:Int)=some (.ref ta):=bh (by rw [gE hiv,Rx])
  have Yx:=aV.of (K:=K) MA.hb
  rcases inO s9 b mb with ⟨inn,v9,dg⟩ | ⟨out,dg⟩
  ·refine ⟨_,rfl,_,rfl,lB,_,_,_,rfl,rfl,Yx,ET,ta,_,_,_,rfl,rfl,zW,dr,_,rfl,d,_,rfl,dg,_,rfl,?_⟩
   refine bM (fun _=> ?_) (fun c=>absurd rfl c)
   obtain ⟨vT,Ry,Rz⟩:=(Yw.same s9).Md mb
   have zTb:=Yw.zT b mb
   have fo9:=fo7.same s9
   obtain ⟨v0,RA,Nw⟩:=aF (bL fo9.pt) eb
   refine ⟨_,rfl,pT,_,_,_,rfl,rfl,cf.of (s9 _ _ e67),rfl,_,rfl,_,rfl,lB,_,_,_,rfl,rfl,Yx,ET,ta,_,_,_,rfl,rfl,zW,dr,dT,_,rfl,Ry,_,rfl,l,_,_,_,rfl,rfl,aV.of (s9 _ _ hl7),rfl,_,rfl,tA,_,_,_,rfl,rfl,aV.of fo9.ht,bh RA,vT,v0,500000,11,_,_,rfl,iM Rz zTb,Nw,by decide,fun v10 Lc x9 n10=> ?_⟩
   have J':=x9 _ _ e9
   refine ⟨_,rfl,_,rfl,_,rfl,lB,_,_,_,rfl,rfl,aV.of (x9 _ _ MA.hb),ET,ta,_,_,_,rfl,rfl,Ty.av.cY x9 zW,dr,dm,_,rfl,h7.k (k:=.inr b.nm) J' (adO (show km.length≤1000 by omega) (by decide)),?_⟩
   have ks:bg dm Lc (upd Lc dm (.dK (putK km (.inr b.nm) v10))):=fun b' o' n e=>by rw [ao n];exact e
   have st:=dq (.inl J') ks
   refine ⟨_,putK km (.inr b.nm) v10,rfl,fun b' o' e=>ks _ _ (aq e n8) (x9 _ _ (s9 _ _ e)),ah,adF (fh _ _ _) (by omega),fun j b' hj tZ VC=> ?_⟩
   rw [mL]
   by_cases c:b'.nm=b.nm
   ·rw [if_pos (by rw [c])]
    exact ⟨v10,rfl,by rw [c];exact n10.aS st⟩
   ·rw [if_neg (fun z=>c (aem z))]
    have ji:j≠i:=fun z=>by
     rw [z,eb] at tZ
     exact c (by rw [adX tZ])
    obtain ⟨v,ev,nv⟩:=mo j b' (by omega) tZ VC
    exact ⟨v,ev,(nv.same x9).aS st⟩
  ·refine ⟨_,rfl,_,rfl,lB,_,_,_,rfl,rfl,Yx,ET,ta,_,_,_,rfl,rfl,zW,dr,_,rfl,d,_,rfl,dg,_,rfl,?_⟩
   refine bM (fun c=>nomatch c) (fun _=> ?_)
   refine ⟨_,km,rfl,s9,e9,by omega,fun j b' hj tZ VC=> ?_⟩
   have ji:j≠i:=fun z=>by
    rw [z,eb] at tZ
    cases tZ
    exact out VC
   exact mo j b' (by omega) tZ VC
 ·rintro σ H9 ⟨o8,km,rfl,s9,e9,lkm,mo⟩
  have en:((vs.length:Nat):Int).toNat=vs.length:=by omega
  rw [en,lv] at mo
  have ak:p_ K H9 pT l d dm dT dU tA uA ts xs kT kU kvs km pins bars os T T0 U U0:=⟨s9 _ _ e67,Yw.same s9,nT,nU,s9 _ _ hl7,fo7.same s9,s9 _ _ hd,ow.same s9,lo,nm,e9,fun o ho=>by
   obtain ⟨b,fL,en'⟩:=abt.mp (ow.XF o ho)
   obtain ⟨j,ej⟩:=adD fL
   have:=mo j b (be.mp ej).1 ej (by rw [en'];exact abt.mpr ⟨o,ho,rfl⟩)
   rw [en'] at this
   exact this⟩
  have MA:=Oo.same s9
  have only:=ow.only _ _ (uu rest ar pr.lU fo.lU) (fun p hp=>by
   show (lD (U p.nm) (U0 p.nm)).length=_
   rw [EV (by rw [pr.lU p hp,fo.lU p hp]),pr.lU p hp])
  refine ⟨_,rfl,_,rfl,_,rfl,_,rfl,_,rfl,lB,pT,l,d,dm,dT,dU,tA,uA,vs,ts,xs,kT,kU,kvs,km,pins,bars,os,T,T0,U,U0,rfl,MA.hb,MA.pb,by omega,ak,only.1,fun Lc x9=>⟨_,rfl,?_⟩⟩
  refine bM (fun c=>nomatch c) (fun _=> ?_)
  have RC:=MA.same x9
  refine ⟨_,rfl,_,rfl,_,rfl,_,rfl,_,rfl,lP,pT,l,d,dm,dT,dU,tA,uA,us,ts,xs,kT,kU,kvs,km,pins,bars,os,T,T0,U,U0,rfl,RC.hp,RC.pp,lp,g.lw,ak.same x9,fun p hp j hj=> ?_,fun Ld _=>q _⟩
  have:=only.2 p hp j hj
  rw [xJ (by rw [pr.lU p hp,fo.lU p hp])] at this
  exact this
end
theorem all_mk {l:PySem.W.OpenLaw}{w:World}{K:Frag}{h:Heap}{mg:Str→Option Value}{fa:Addr}(X:K.In h)(G:h.Ns mainGlobals mg)(hfa:mg "law"=some (.ref fa))
  (Yy:nsIn K mainGlobals "difference_of"=some (some (.ref RD))) (Yz:K.lookup RD=some ⟨afx,afy,.func (fnOf "difference_of" "difference_of" (aA vq) (aw vq) (af vq) .none afz afA afB afC RE afD),afE⟩) (YA:codeIn K RE "difference_of"=true) (YB:keepIn K (.ref RD)=true) (YC:nsIn K mainGlobals "lowest_terms"=some (some (.ref RF))) (YD:K.lookup RF=some ⟨afF,afG,.func (fnOf "lowest_terms" "lowest_terms" (aA tR) (aw tR) (af tR) .none afH afI afJ afK RG afL),afM⟩) (YE:codeIn K RG "lowest_terms"=true) (YF:keepIn K (.ref RF)=true) (YG:nsIn K mainGlobals "greatest_shared"=some (some (.ref RH))) (YH:K.lookup RH=some ⟨afN,afO,.func (fnOf "greatest_shared" "greatest_shared" (aA yA) (aw yA) (af yA) .none afP afQ afR afS RI afT),afU⟩) (YI:codeIn K RI "greatest_shared"=true) (YJ:keepIn K (.ref RH)=true) (YK:nsIn K mainGlobals "arm_between"=some (some (.ref RJ))) (YL:K.lookup RJ=some ⟨afV,afW,.func (fnOf "arm_between" "arm_between" (aA yB) (aw yB) (af yB) .none afX afY afZ af0 RK af1),af2⟩) (YM:codeIn K RK "arm_between"=true) (YN:keepIn K (.ref RJ)=true) (YO:nsIn K mainGlobals "pair_difference"=some (some (.ref RL))) (YQ:K.lookup RL=some ⟨af3,af4,.func (fnOf "pair_difference" "pair_difference" (aA vt) (aw vt) (af vt) .none af5 af6 af7 af8 RM af9),af'⟩) (YR:codeIn K RM "pair_difference"=true) (YS:keepIn K (.ref RL)=true) (YT:nsIn K mainGlobals "pair_row"=some (some (.ref RO))) (YU:K.lookup RO=some ⟨aga,agb,.func (fnOf "pair_row" "pair_row" (aA yC) (aw yC) (af yC) .none agc agd age agf RP agg),agh⟩) (YV:codeIn K RP "pair_row"=true) (YW:keepIn K (.ref RO)=true) (YX:nsIn K mainGlobals "load_row"=some (some (.ref RQ))) (YY:K.lookup RQ=some ⟨agi,agj,.func (fnOf "load_row" "load_row" (aA yD) (aw yD) (af yD) .none agk agl agm agn RS ago),agp⟩) (YZ:codeIn K RS "load_row"=true) (Y0:keepIn K (.ref RQ)=true) (Y1:nsIn K mainGlobals "bar_row"=some (some (.ref RT))) (Y2:K.lookup RT=some ⟨agq,agr,.func (fnOf "bar_row" "bar_row" (aA yE) (aw yE) (af yE) .none ags agt agu agv RU agw),agx⟩) (Y3:codeIn K RU "bar_row"=true) (Y4:keepIn K (.ref RT)=true) (Y5:nsIn K mainGlobals "draw_rows"=some (some (.ref RV))) (Y6:K.lookup RV=some ⟨agy,agz,.func (fnOf "draw_rows" "draw_rows" (aA yF) (aw yF) (af yF) .none agA agB agC agD RW agE),agF⟩) (Y7:codeIn K RW "draw_rows"=true) (Y8:keepIn K (.ref RV)=true) (Y9:nsIn K mainGlobals "pulls_and_pushes"=some (some (.ref RX))) (Y_:K.lookup RX=some ⟨agG,agH,.func (fnOf "pulls_and_pushes" "pulls_and_pushes" (aA yG) (aw yG) (af yG) .none agI agJ agK agL RY agM),agN⟩) (Y':codeIn K RY "pulls_and_pushes"=true) (Za:keepIn K (.ref RX)=true) (Zc:nsIn K mainGlobals "motion_from"=some (some (.ref R7))) (Zd:K.lookup R7=some ⟨agO,agP,.func (fnOf "motion_from" "motion_from" (aA yH) (aw yH) (af yH) .none agQ agR agS agT R9 agU),agV⟩) (Ze:codeIn K R9 "motion_from"=true) (Zf:keepIn K (.ref R7)=true) (Zg:nsIn K mainGlobals "solve_rows"=some (some (.ref R_))) (Zh:K.lookup R_=some ⟨agW,agX,.func (fnOf "solve_rows" "solve_rows" (aA yI) (aw yI) (af yI) .none agY agZ ag0 ag1 Sa ag2),ag3⟩) (Zi:codeIn K Sa "solve_rows"=true) (Zj:keepIn K (.ref R_)=true) (lE:nsIn K mainGlobals "spare_columns"=some (some (.ref gy))) (lF:K.lookup gy=some ⟨zX,zY,.func (fnOf "spare_columns" "spare_columns" (aA cj) (aw cj) (af cj) .none zZ z4 z5 z6 kh z7),z8⟩) (lG:codeIn K kh "spare_columns"=true) (lH:keepIn K (.ref gy)=true) (rL:nsIn K mainGlobals "spare_list"=some (some (.ref jJ))) (rM:K.lookup jJ=some ⟨FR,FT,.func (fnOf "spare_list" "spare_list" (aA cN) (aw cN) (af cN) .none FU FV FW FX oJ FY),FZ⟩) (rN:codeIn K oJ "spare_list"=true) (rO:keepIn K (.ref jJ)=true) (Zk:nsIn K mainGlobals "turned"=some (some (.ref Sb))) (Zl:K.lookup Sb=some ⟨ag4,ag5,.func (fnOf "turned" "turned" (aA yJ) (aw yJ) (af yJ) .none ag6 ag7 ag8 ag9 Sd ag'),aha⟩) (Zm:codeIn K Sd "turned"=true) (Zn:keepIn K (.ref Sb)=true) (Zo:nsIn K mainGlobals "whole_row"=some (some (.ref Se))) (Zp:K.lookup Se=some ⟨ahb,ahc,.func (fnOf "whole_row" "whole_row" (aA yK) (aw yK) (af yK) .none ahd ahe ahf ahg Sf ahh),ahi⟩) (Zq:codeIn K Sf "whole_row"=true) (Zr:keepIn K (.ref Se)=true) (Zs:nsIn K mainGlobals "solution_of"=some (some (.ref Sg))) (Zt:K.lookup Sg=some ⟨ahj,ahk,.func (fnOf "solution_of" "solution_of" (aA yL) (aw yL) (af yL) .none ahl ahm ahn aho Sh ahp),ahq⟩) (Zu:codeIn K Sh "solution_of"=true) (Zv:keepIn K (.ref Sg)=true) (Zw:nsIn K mainGlobals "reduced"=some (some (.ref Si))) (Zx:K.lookup Si=some ⟨ahr,ahs,.func (fnOf "reduced" "reduced" (aA yM) (aw yM) (af yM) .none aht ahu ahv ahw Sj ahx),ahy⟩) (Zy:codeIn K Sj "reduced"=true) (Zz:keepIn K (.ref Si)=true) (ZA:nsIn K mainGlobals "first_not_nought"=some (some (.ref Sk))) (ZC:K.lookup Sk=some ⟨ahz,ahA,.func (fnOf "first_not_nought" "first_not_nought" (aA yN) (aw yN) (af yN) .none ahB ahC ahD ahE Sl ahF),ahG⟩) (ZD:codeIn K Sl "first_not_nought"=true) (ZE:keepIn K (.ref Sk)=true) (ZF:nsIn K mainGlobals "cleared"=some (some (.ref Sn))) (ZG:K.lookup Sn=some ⟨ahH,ahI,.func (fnOf "cleared" "cleared" (aA yO) (aw yO) (af yO) .none ahJ ahK ahL ahM So ahN),ahO⟩) (ZH:codeIn K So "cleared"=true) (ZI:keepIn K (.ref Sn)=true) (ZJ:nsIn K mainGlobals "divided"=some (some (.ref Sq))) (ZK:K.lookup Sq=some ⟨ahP,ahQ,.func (fnOf "divided" "divided" (aA yP) (aw yP) (af yP) .none ahR ahS ahT ahU Sr ahV),ahW⟩) (ZL:codeIn K Sr "divided"=true) (ZM:keepIn K (.ref Sq)=true) (ZN:nsIn K mainGlobals "rest_of"=some (some (.ref Ss))) (ZO:K.lookup Ss=some ⟨ahX,ahY,.func (fnOf "rest_of" "rest_of" (aA yQ) (aw yQ) (af yQ) .none ahZ ah0 ah1 ah2 Su ah3),ah4⟩) (ZP:codeIn K Su "rest_of"=true) (ZQ:keepIn K (.ref Ss)=true) (uw:nsIn K mainGlobals "spares_of"=some (some (.ref kQ))) (uB:K.lookup kQ=some ⟨Jg,Jh,.func (fnOf "spares_of" "spares_of" (aA c7) (aw c7) (af c7) .none Ji Jj Jk Jl rP Jm),Jn⟩) (uC:codeIn K rP "spares_of"=true) (uD:keepIn K (.ref kQ)=true) (ZR:nsIn K mainGlobals "_law_cell_at"=some (some (.ref Sv))) (ZS:K.lookup Sv=some ⟨ah5,ah6,.func (fnOf "_law_cell_at" "_law_cell_at" (aA yR) (aw yR) (af yR) .none ah7 ah8 ah9 ah' Sw aia),aic⟩) (ZT:codeIn K Sw "_law_cell_at"=true) (ZU:keepIn K (.ref Sv)=true) (ZV:nsIn K mainGlobals "_law_field"=some (some (.ref Sx))) (ZW:K.lookup Sx=some ⟨aid,aie,.func (fnOf "_law_field" "_law_field" (aA yS) (aw yS) (af yS) .none aif aih aii aij Sy aik),ail⟩) (ZX:codeIn K Sy "_law_field"=true) (ZY:keepIn K (.ref Sx)=true) (ZZ:nsIn K mainGlobals "_law_lowest"=some (some (.ref SA))) (Z0:K.lookup SA=some ⟨aim,ain,.func (fnOf "_law_lowest" "_law_lowest" (aA yT) (aw yT) (af yT) .none aio aip aiq air SD ais),ait⟩) (Z1:codeIn K SD "_law_lowest"=true) (Z2:keepIn K (.ref SA)=true) (Z3:nsIn K mainGlobals "_law_sum"=some (some (.ref SE))) (Z4:K.lookup SE=some ⟨aiu,aiv,.func (fnOf "_law_sum" "_law_sum" (aA yU) (aw yU) (af yU) .none aiw aix aiy aiz SF aiA),aiB⟩) (Z5:codeIn K SF "_law_sum"=true) (Z6:keepIn K (.ref SE)=true) (Z7:nsIn K mainGlobals "_law_times"=some (some (.ref SG))) (Z8:K.lookup SG=some ⟨aiC,aiD,.func (fnOf "_law_times" "_law_times" (aA yV) (aw yV) (af yV) .none aiE aiF aiG aiH SH aiI),aiJ⟩) (Z9:codeIn K SH "_law_times"=true) (Z_:keepIn K (.ref SG)=true) (Z':nsIn K mainGlobals "_law_turned"=some (some (.ref SI))) (aaa:K.lookup SI=some ⟨aiK,aiL,.func (fnOf "_law_turned" "_law_turned" (aA yW) (aw yW) (af yW) .none aiM aiN aiO aiP SJ aiQ),aiR⟩) (aab:codeIn K SJ "_law_turned"=true) (aac:keepIn K (.ref SI)=true) (aad:nsIn K mainGlobals "_law_name"=some (some (.ref SK))) (aae:K.lookup SK=some ⟨aiS,aiT,.func (fnOf "_law_name" "_law_name" (aA vv) (aw vv) (af vv) .none aiU aiV aiW aiX SM aiY),aiZ⟩) (aaf:codeIn K SM "_law_name"=true) (aag:keepIn K (.ref SK)=true) (aah:nsIn K mainGlobals "_law_spot"=some (some (.ref SN))) (aai:K.lookup SN=some ⟨ai0,ai1,.func (fnOf "_law_spot" "_law_spot" (aA yX) (aw yX) (af yX) .none ai2 ai3 ai4 ai5 SO ai6),ai7⟩) (aaj:codeIn K SO "_law_spot"=true) (aak:keepIn K (.ref SN)=true) (aal:nsIn K mainGlobals "_law_ways"=some (some (.ref SQ))) (aam:K.lookup SQ=some ⟨ai8,ai9,.func (fnOf "_law_ways" "_law_ways" (aA yY) (aw yY) (af yY) .none ai' aja ajb ajc SR ajd),aje⟩) (aan:codeIn K SR "_law_ways"=true) (aao:keepIn K (.ref SQ)=true) (aap:nsIn K mainGlobals "_law_pins"=some (some (.ref SS))) (aaq:K.lookup SS=some ⟨ajf,ajg,.func (fnOf "_law_pins" "_law_pins" (aA yZ) (aw yZ) (af yZ) .none ajh aji ajj ajk SU ajl),ajm⟩) (aar:codeIn K SU "_law_pins"=true) (aas:keepIn K (.ref SS)=true) (aat:nsIn K mainGlobals "_law_bars"=some (some (.ref SV))) (aau:K.lookup SV=some ⟨ajn,ajo,.func (fnOf "_law_bars" "_law_bars" (aA y4) (aw y4) (af y4) .none ajp ajq ajr ajs SW ajt),aju⟩) (aav:codeIn K SW "_law_bars"=true) (aaw:keepIn K (.ref SV)=true) (aax:nsIn K mainGlobals "_law_frame"=some (some (.ref SX))) (aay:K.lookup SX=some ⟨ajv,ajw,.func (fnOf "_law_frame" "_law_frame" (aA y6) (aw y6) (af y6) .none ajx ajy ajz ajA SY ajB),ajC⟩) (aaz:codeIn K SY "_law_frame"=true) (aaA:keepIn K (.ref SX)=true) (aaB:nsIn K mainGlobals "_law_arm"=some (some (.ref S0))) (aaC:K.lookup S0=some ⟨ajD,ajE,.func (fnOf "_law_arm" "_law_arm" (aA y8) (aw y8) (af y8) .none ajF ajG ajH ajI S1 ajJ),ajK⟩) (aaD:codeIn K S1 "_law_arm"=true) (aaE:keepIn K (.ref S0)=true) (aaF:nsIn K mainGlobals "_law_add"=some (some (.ref S2))) (aaG:K.lookup S2=some ⟨ajL,ajM,.func (fnOf "_law_add" "_law_add" (aA y9) (aw y9) (af y9) .none ajN ajO ajP ajQ S3 ajR),ajS⟩) (aaH:codeIn K S3 "_law_add"=true) (aaI:keepIn K (.ref S2)=true) (aaJ:nsIn K mainGlobals "_law_forces"=some (some (.ref S4))) (aaK:K.lookup S4=some ⟨ajT,ajU,.func (fnOf "_law_forces" "_law_forces" (aA y_) (aw y_) (af y_) .none ajV ajW ajX ajY S5 ajZ),aj0⟩) (aaL:codeIn K S5 "_law_forces"=true) (aaM:keepIn K (.ref S4)=true) (aaN:nsIn K mainGlobals "_law_drawn"=some (some (.ref S6))) (aaO:K.lookup S6=some ⟨aj1,aj2,.func (fnOf "_law_drawn" "_law_drawn" (aA za) (aw za) (af za) .none aj3 aj4 aj5 aj6 S7 aj7),aj8⟩) (aaP:codeIn K S7 "_law_drawn"=true) (aaQ:keepIn K (.ref S6)=true) (aaR:nsIn K mainGlobals "_law_load"=some (some (.ref S8))) (aaS:K.lookup S8=some ⟨aj9,aj',.func (fnOf "_law_load" "_law_load" (aA s_by) (aw s_by) (af s_by) .none aka akb akc akd S9 ake),akf⟩) (aaT:codeIn K S9 "_law_load"=true) (aaU:keepIn K (.ref S8)=true) (vV:nsIn K mainGlobals "_law_more"=some (some (.ref n_))) (vW:K.lookup n_=some ⟨Km,Kn,.func (fnOf "_law_more" "_law_more" (aA dC) (aw dC) (af dC) .none Ko Kp Kq Kr uE Ks),Kt⟩) (vX:codeIn K uE "_law_more"=true) (vY:keepIn K (.ref n_)=true) (aaV:nsIn K mainGlobals "_law_alike"=some (some (.ref S_))) (aaW:K.lookup S_=some ⟨akg,akh,.func (fnOf "_law_alike" "_law_alike" (aA zd) (aw zd) (af zd) .none aki akj akk akl S' akm),akn⟩) (aaX:codeIn K S' "_law_alike"=true) (aaY:keepIn K (.ref S_)=true) (jK:nsIn K mainGlobals "_law_pulls_right"=some (some (.ref fC))) (jL:K.lookup fC=some ⟨vZ,v7,.func (fnOf "_law_pulls_right" "_law_pulls_right" (aA bS) (aw bS) (af bS) .none v8 v_ wd we iP wg),wj⟩) (jM:codeIn K iP "_law_pulls_right"=true) (jN:keepIn K (.ref fC)=true) (iQ:nsIn K mainGlobals "_law_pushes_right"=some (some (.ref eR))) (iR:K.lookup eR=some ⟨uM,uN,.func (fnOf "_law_pushes_right" "_law_pushes_right" (aA bN) (aw bN) (af bN) .none uO uP uQ uR ib uS),uT⟩) (iS:codeIn K ib "_law_pushes_right"=true) (iT:keepIn K (.ref eR)=true) (Ta:nsIn K mainGlobals "law"=some (some (.ref Ku))) (Tb:K.lookup Ku=some ⟨aaZ,aa0,.func (fnOf "law" "law" (aA je) (aw je) (af je) .none MD MF MG MI EW MJ),aa1⟩) (Tc:codeIn K EW "law"=true) (Td:keepIn K (.ref Ku)=true) (aa2:nsIn K mainGlobals "MOST_PINS"=some (some (.int 24 ako))) (aa3:nsIn K mainGlobals "MOST_BARS"=some (some (.int 60 akp))) (aa4:nsIn K mainGlobals "NOUGHT"=some (some (.ref MK))) (aa5:K.lookup MK=some ⟨.type "tuple",akq,.seq #[.int 0 aa6,.int 1 aa7] akr,aks⟩) (aa8:nsIn K mainGlobals "ONE"=some (some (.ref MM))) (aa9:K.lookup MM=some ⟨.type "tuple",akt,.seq #[.int 1 aa',.int 1 aba] akv,akw⟩) (abb:nsIn K mainGlobals "NO_MOVE"=some (some (.ref MO))) (abc:K.lookup MO=some ⟨.type "tuple",aky,.seq #[.ref Te,.ref Tf] akz,akA⟩) (abd:K.lookup Te=some ⟨.type "tuple",akB,.seq #[.int 0 abe,.int 1 abf] akC,akD⟩) (abg:K.lookup Tf=some ⟨.type "tuple",akE,.seq #[.int 0 abh,.int 1 abi] akF,akG⟩) (rQ:nsIn K mainGlobals "ValueError"=some none) (Tg:nsIn K mainGlobals "abs"=some none) (Th:nsIn K mainGlobals "any"=some none) (MQ:nsIn K mainGlobals "dict"=some none) (uF:nsIn K mainGlobals "enumerate"=some none) (rR:nsIn K mainGlobals "isinstance"=some none) (Ti:nsIn K mainGlobals "len"=some none) (MR:nsIn K mainGlobals "list"=some none) (Tj:nsIn K mainGlobals "min"=some none) (Jo:nsIn K mainGlobals "range"=some none) (Tn:nsIn K mainGlobals "str"=some none) (Jp:nsIn K mainGlobals "tuple"=some none) (To:nsIn K mainGlobals "zip"=some none) (abj:nsIn K mainGlobals "YardError"=some (some (.ref abk))) (abl:nsIn K mainGlobals "NoWay"=some (some (.ref abm))) (abn:nsIn K mainGlobals "PinThere"=some (some (.ref abo))) (abp:nsIn K mainGlobals "SpotTaken"=some (some (.ref abq))) (abr:nsIn K mainGlobals "NoPin"=some (some (.ref abu))) (abv:nsIn K mainGlobals "BarThere"=some (some (.ref abw))) (abx:nsIn K mainGlobals "NoBar"=some (some (.ref aby))) (abz:nsIn K mainGlobals "NoLength"=some (some (.ref abA))) (abB:nsIn K mainGlobals "TooMany"=some (some (.ref abC))) (abD:nsIn K mainGlobals "Frame"=some (some (.ref bP))) (abE:nsIn K mainGlobals "Hold"=some (some (.ref lI))) (abF:nsIn K mainGlobals "Roller"=some (some (.ref ie))) (abG:nsIn K mainGlobals "Fixed"=some (some (.ref ki))) (Tp:PySem.W.plainGet K bP Str.empty=true) (Tq:PySem.W.hasDictIn K bP=true) (Tr:PySem.W.plainOver K bP=true) (Ts:PySem.W.findIn K (.ref bP) "__setattr__"=some (some (.builtin "object.__setattr__"))) (Tt:PySem.W.makesIn K bP=true) (Tu:keepIn K (.ref bP)=true) (Tv:PySem.W.findIn K (.ref bP) "__init__"=some (some (.ref EX))) (Tw:PySem.W.isFn K (.ref EX)=true) (abH:K.lookup EX=some ⟨akH,akI,.func (fnOf "__init__" "Frame.__init__" (aA ze) (aw ze) (af ze) .none akJ akK akL akM Tx akN),akO⟩) (abI:codeIn K Tx "Frame.__init__"=true) (Tz:keepIn K (.ref EX)=true) (abJ:PySem.W.findIn K (.ref bP) "put_pin"=some (some (.ref Jq))) (abK:PySem.W.isFn K (.ref Jq)=true) (abL:K.lookup Jq=some ⟨akP,akQ,.func (fnOf "put_pin" "Frame.put_pin" (aA k_) (aw k_) (af k_) (.ref EY) Kv Kw Kx Ky EZ Kz),akR⟩) (TB:K.lookup EY=some ⟨akS,abM,.seq #[.none] akT,abN⟩) (abO:codeIn K EZ "Frame.put_pin"=true) (TC:keepIn K (.ref Jq)=true) (abP:PySem.W.findIn K (.ref bP) "put_bar"=some (some (.ref Jr))) (abQ:PySem.W.isFn K (.ref Jr)=true) (abR:K.lookup Jr=some ⟨akU,akV,.func (fnOf "put_bar" "Frame.put_bar" (aA zf) (aw zf) (af zf) .none akW akX akY akZ TF ak0),ak1⟩) (abS:codeIn K TF "Frame.put_bar"=true) (TH:keepIn K (.ref Jr)=true) (abT:PySem.W.findIn K (.ref bP) "check_bar"=some (some (.ref Js))) (abU:PySem.W.isFn K (.ref Js)=true) (abV:K.lookup Js=some ⟨ak2,ak3,.func (fnOf "check_bar" "Frame.check_bar" (aA zg) (aw zg) (af zg) .none ak4 ak5 ak6 ak7 TJ ak8),ak9⟩) (abW:codeIn K TJ "Frame.check_bar"=true) (TK:keepIn K (.ref Js)=true) (abX:PySem.W.findIn K (.ref bP) "check_pin"=some (some (.ref Jt))) (abY:PySem.W.isFn K (.ref Jt)=true) (abZ:K.lookup Jt=some ⟨ak',ala,.func (fnOf "check_pin" "Frame.check_pin" (aA zh) (aw zh) (af zh) .none alb alc ald ale TL alf),alg⟩) (ab0:codeIn K TL "Frame.check_pin"=true) (TM:keepIn K (.ref Jt)=true) (ab1:PySem.W.findIn K (.ref bP) "pins"=some (some (.ref Ju))) (ab2:PySem.W.isFn K (.ref Ju)=true) (ab3:K.lookup Ju=some ⟨alh,ali,.func (fnOf "pins" "Frame.pins" (aA zi) (aw zi) (af zi) .none alj alk alm aln TN alo),alp⟩) (ab4:codeIn K TN "Frame.pins"=true) (TQ:keepIn K (.ref Ju)=true) (ab5:PySem.W.findIn K (.ref bP) "bars"=some (some (.ref Jv))) (ab6:PySem.W.isFn K (.ref Jv)=true) (ab7:K.lookup Jv=some ⟨alq,alr,.func (fnOf "bars" "Frame.bars" (aA zk) (aw zk) (af zk) .none als alu alv alw TR alx),aly⟩) (ab8:codeIn K TR "Frame.bars"=true) (TU:keepIn K (.ref Jv)=true) (ab9:PySem.W.findIn K (.ref bP) "place"=some (some (.ref Jw))) (ab':PySem.W.isFn K (.ref Jw)=true) (aca:K.lookup Jw=some ⟨alz,alA,.func (fnOf "place" "Frame.place" (aA zo) (aw zo) (af zo) .none alB alC alD alE TV alF),alG⟩) (acb:codeIn K TV "Frame.place"=true) (TX:keepIn K (.ref Jw)=true) (acd:PySem.W.findIn K (.ref bP) "ways"=some (some (.ref Jx))) (ace:PySem.W.isFn K (.ref Jx)=true) (acf:K.lookup Jx=some ⟨alH,alI,.func (fnOf "ways" "Frame.ways" (aA zp) (aw zp) (af zp) .none alJ alK alL alM TY alN),alO⟩) (acg:codeIn K TY "Frame.ways"=true) (TZ:keepIn K (.ref Jx)=true) (ach:PySem.W.findIn K (.ref bP) "ends"=some (some (.ref Jy))) (aci:PySem.W.isFn K (.ref Jy)=true) (acj:K.lookup Jy=some ⟨alP,alQ,.func (fnOf "ends" "Frame.ends" (aA zq) (aw zq) (af zq) .none alR alS alT alU T1 alV),alW⟩) (ack:codeIn K T1 "Frame.ends"=true) (T2:keepIn K (.ref Jy)=true) (T3:PySem.W.plainGet K lI Str.empty=true) (T4:PySem.W.hasDictIn K lI=true) (T5:PySem.W.plainOver K lI=true) (T6:PySem.W.findIn K (.ref lI) "__setattr__"=some (some (.builtin "object.__setattr__"))) (T7:PySem.W.makesIn K lI=true) (T8:keepIn K (.ref lI)=true) (T9:PySem.W.findIn K (.ref lI) "__init__"=some (some (.builtin "object.__init__"))) (acm:PySem.W.findIn K (.ref lI) "ways"=some (some (.ref Jz))) (acn:PySem.W.isFn K (.ref Jz)=true) (aco:K.lookup Jz=some ⟨alX,alY,.func (fnOf "ways" "Hold.ways" (aA H_) (aw H_) (af H_) .none alZ al0 al1 al2 T_ al3),al4⟩) (acp:codeIn K T_ "Hold.ways"=true) (Ua:keepIn K (.ref Jz)=true) (Ub:PySem.W.plainGet K ie Str.empty=true) (Uc:PySem.W.hasDictIn K ie=true) (Ud:PySem.W.plainOver K ie=true) (Ue:PySem.W.findIn K (.ref ie) "__setattr__"=some (some (.builtin "object.__setattr__"))) (Ug:PySem.W.makesIn K ie=true) (Uh:keepIn K (.ref ie)=true) (Ui:PySem.W.findIn K (.ref ie) "__init__"=some (some (.ref FA))) (Uj:PySem.W.isFn K (.ref FA)=true) (acq:K.lookup FA=some ⟨al5,al6,.func (fnOf "__init__" "Roller.__init__" (aA zu) (aw zu) (af zu) .none al7 al8 al9 al' Uk ama),amb⟩) (acr:codeIn K Uk "Roller.__init__"=true) (Ul:keepIn K (.ref FA)=true) (acs:PySem.W.findIn K (.ref ie) "ways"=some (some (.ref JA))) (acu:PySem.W.isFn K (.ref JA)=true) (acv:K.lookup JA=some ⟨amc,amd,.func (fnOf "ways" "Roller.ways" (aA zv) (aw zv) (af zv) .none ame amf amg amh Um ami),amj⟩) (acw:codeIn K Um "Roller.ways"=true) (Uo:keepIn K (.ref JA)=true) (Up:PySem.W.plainGet K ki Str.empty=true) (Uq:PySem.W.hasDictIn K ki=true) (Ur:PySem.W.plainOver K ki=true) (Us:PySem.W.findIn K (.ref ki) "__setattr__"=some (some (.builtin "object.__setattr__"))) (Ut:PySem.W.makesIn K ki=true) (Uu:keepIn K (.ref ki)=true) (Uv:PySem.W.findIn K (.ref ki) "__init__"=some (some (.builtin "object.__init__"))) (acx:PySem.W.findIn K (.ref ki) "ways"=some (some (.ref JB))) (acy:PySem.W.isFn K (.ref JB)=true) (acz:K.lookup JB=some ⟨amk,aml,.func (fnOf "ways" "Fixed.ways" (aA zA) (aw zA) (af zA) .none amm amn amo amq Uw amr),ams⟩) (acA:codeIn K Uw "Fixed.ways"=true) (Ux:keepIn K (.ref JB)=true) (FC:PySem.W.findIn K (.ref bP) "pin_places"=some none) (MS:PySem.W.findIn K (.ref bP) "pin_ways"=some none) (MT:PySem.W.findIn K (.ref bP) "bar_ends"=some none) (KA:PySem.W.findIn K (.ref ie) "way"=some none) (ht:l.prog.given.tree=none):
  ∃fd:FuncData,(∀(s:Shared) (v:Value),BindsTo s fd ⟨[v],[]⟩ [("_law_script",v)])∧∀base:Heap,K.In base→base.Ns mainGlobals mg→cH l.prog w K mg base (a_ l.prog w) 42 fa fd ["_law_script"] (BM K):=by
 have e:=hfa.symm.trans (mg_of X G Ta)
 cases e
 have acB:Def K mg "difference_of" vq ["one","other"]:=ft X G Yz YA YB Yy
 have acC:Def K mg "lowest_terms" tR ["top","bottom"]:=ft X G YD YE YF YC
 have acD:Def K mg "greatest_shared" yA ["one","other"]:=ft X G YH YI YJ YG
 have acE:Def K mg "arm_between" yB ["F","one","other"]:=ft X G YL YM YN YK
 have acF:Def K mg "pair_difference" vt ["one","other"]:=ft X G YQ YR YS YO
 have acG:Def K mg "pair_row" yC ["F","draws"]:=ft X G YU YV YW YT
 have acH:Def K mg "load_row" yD ["F","load"]:=ft X G YY YZ Y0 YX
 have acI:Def K mg "bar_row" yE ["F","one","other"]:=ft X G Y2 Y3 Y4 Y1
 have acJ:Def K mg "draw_rows" yF ["F"]:=ft X G Y6 Y7 Y8 Y5
 have acK:Def K mg "pulls_and_pushes" yG ["F","numbers"]:=ft X G Y_ Y' Za Y9
 have acL:Def K mg "motion_from" yH ["F","numbers"]:=ft X G Zd Ze Zf Zc
 have acM:Def K mg "solve_rows" yI ["rows","due","many"]:=ft X G Zh Zi Zj Zg
 have lJ:Def K mg "spare_columns" cj ["rows","many"]:=ft X G lF lG lH lE
 have rS:Def K mg "spare_list" cN ["needed","column","many"]:=ft X G rM rN rO rL
 have Uy:Def K mg "turned" yJ ["rows","many"]:=ft X G Zl Zm Zn Zk
 have acN:Def K mg "whole_row" yK ["row"]:=ft X G Zp Zq Zr Zo
 have acO:Def K mg "solution_of" yL ["lines","many"]:=ft X G Zt Zu Zv Zs
 have acP:Def K mg "reduced" yM ["lines","many"]:=ft X G Zx Zy Zz Zw
 have acQ:Def K mg "first_not_nought" yN ["lines","column"]:=ft X G ZC ZD ZE ZA
 have acR:Def K mg "cleared" yO ["line","lead","column"]:=ft X G ZG ZH ZI ZF
 have acS:Def K mg "divided" yP ["line"]:=ft X G ZK ZL ZM ZJ
 have acT:Def K mg "rest_of" yQ ["F","load"]:=ft X G ZO ZP ZQ ZN
 have uG:Def K mg "spares_of" c7 ["F"]:=ft X G uB uC uD uw
 have acU:Def K mg "_law_cell_at" yR ["_law_script","_law_k"]:=ft X G ZS ZT ZU ZR
 have acV:Def K mg "_law_field" yS ["_law_cell","_law_prime","_law_many"]:=ft X G ZW ZX ZY ZV
 have acW:Def K mg "_law_lowest" yT ["_law_top","_law_bottom"]:=ft X G Z0 Z1 Z2 ZZ
 have acX:Def K mg "_law_sum" yU ["_law_one","_law_other"]:=ft X G Z4 Z5 Z6 Z3
 have acY:Def K mg "_law_times" yV ["_law_one","_law_other"]:=ft X G Z8 Z9 Z_ Z7
 have acZ:Def K mg "_law_turned" yW ["_law_one"]:=ft X G aaa aab aac Z'
 have ac0:Def K mg "_law_name" vv ["_law_cell","_law_k"]:=ft X G aae aaf aag aad
 have ac1:Def K mg "_law_spot" yX ["_law_cell","_law_kind"]:=ft X G aai aaj aak aah
 have ac2:Def K mg "_law_ways" yY ["_law_cell"]:=ft X G aam aan aao aal
 have ac3:Def K mg "_law_pins" yZ ["_law_script"]:=ft X G aaq aar aas aap
 have ac4:Def K mg "_law_bars" y4 ["_law_script","_law_pins_here"]:=ft X G aau aav aaw aat
 have ac5:Def K mg "_law_frame" y6 ["_law_pins_here","_law_bars_here"]:=ft X G aay aaz aaA aax
 have ac6:Def K mg "_law_arm" y8 ["_law_pins_here","_law_bar","_law_axis"]:=ft X G aaC aaD aaE aaB
 have ac7:Def K mg "_law_add" y9 ["_law_found","_law_k","_law_axis","_law_draw"]:=ft X G aaG aaH aaI aaF
 have ac8:Def K mg "_law_forces" y_ ["_law_pins_here","_law_bars_here","_law_pulls","_law_pushes"]:=ft X G aaK aaL aaM aaJ
 have ac9:Def K mg "_law_drawn" za ["_law_script","_law_pins_here","_law_bars_here"]:=ft X G aaO aaP aaQ aaN
 have ac':Def K mg "_law_load" s_by ["_law_pins_here","_law_bars_here","_law_drawn_here"]:=ft X G aaS aaT aaU aaR
 have wm:Def K mg "_law_more" dC ["_law_told","_law_drawn_here"]:=ft X G vW vX vY vV
 have ada:Def K mg "_law_alike" zd ["_law_one","_law_other"]:=ft X G aaW aaX aaY aaV
 have jO:Def K mg "_law_pulls_right" bS ["_law_bars_here","_law_told","_law_drawn_here","_law_owns","_law_more_here"]:=ft X G jL jM jN jK
 have iU:Def K mg "_law_pushes_right" bN ["_law_pins_here","_law_told","_law_drawn_here","_law_owns","_law_more_here"]:=ft X G iR iS iT iQ
 have eV:sk K bP:=⟨Tp,Tq,Tr,Ts⟩
 have Mi:Mk K bP EX:=⟨Tt,Tv,Tw,Tu⟩
 have Uz:=cQ (st:=ze) abH abI Tz
 have Ml:=Uz.yz (ps:=["self"])
 have apT:Meth K bP "__init__" EX:=⟨Tv,Tw,Tz⟩
 have adb:=HS (st:=k_) abL abO TC
 have ade:Binds K (fnOf "put_pin" "Frame.put_pin" (aA k_) (aw k_) (af k_) (.ref EY) Kv Kw Kx Ky EZ Kz) ["self","name","x","y","hold"] []:=fun s us X hl=>match us,hl with | [_,_,_,_,_],_=>BindsTo.of_defaults rfl (X _ _ TB) rfl rfl rfl
 have UA:Binds K (fnOf "put_pin" "Frame.put_pin" (aA k_) (aw k_) (af k_) (.ref EY) Kv Kw Kx Ky EZ Kz) ["self","name","x","y","hold"] [.none]:=fun s us X hl=>match us,(show us.length=4 by simpa using hl) with | [_,_,_,_],_=>BindsTo.of_defaults rfl (X _ _ TB) rfl rfl rfl
 have UB:Meth K bP "put_pin" Jq:=⟨abJ,abK,TC⟩
 have UC:=cQ (st:=zf) abR abS TH
 have adf:=UC.yz (ps:=["self","name","one","other"])
 have adg:Meth K bP "put_bar" Jr:=⟨abP,abQ,TH⟩
 have UD:=cQ (st:=zg) abV abW TK
 have adh:=UD.yz (ps:=["self","name","one","other"])
 have adi:Meth K bP "check_bar" Js:=⟨abT,abU,TK⟩
 have UE:=cQ (st:=zh) abZ ab0 TM
 have adj:=UE.yz (ps:=["self","pin"])
 have adk:Meth K bP "check_pin" Jt:=⟨abX,abY,TM⟩
 have UG:=cQ (st:=zi) ab3 ab4 TQ
 have adl:=UG.yz (ps:=["self"])
 have adm:Meth K bP "pins" Ju:=⟨ab1,ab2,TQ⟩
 have UH:=cQ (st:=zk) ab7 ab8 TU
 have adn:=UH.yz (ps:=["self"])
 have ado:Meth K bP "bars" Jv:=⟨ab5,ab6,TU⟩
 have UI:=cQ (st:=zo) aca acb TX
 have adp:=UI.yz (ps:=["self","pin"])
 have adq:Meth K bP "place" Jw:=⟨ab9,ab',TX⟩
 have UJ:=cQ (st:=zp) acf acg TZ
 have ads:=UJ.yz (ps:=["self","pin"])
 have adt:Meth K bP "ways" Jx:=⟨acd,ace,TZ⟩
 have UK:=cQ (st:=zq) acj ack T2
 have adu:=UK.yz (ps:=["self","bar"])
 have adv:Meth K bP "ends" Jy:=⟨ach,aci,T2⟩
 have cls_cm:sk K lI:=⟨T3,T4,T5,T6⟩
 have apU:Ot K lI:=⟨T7,T9,T8⟩
 have adw:=cQ (st:=H_) aco acp Ua
 have apV:=adw.yz (ps:=["self"])
 have apW:Meth K lI "ways" Jz:=⟨acm,acn,Ua⟩
 have wo:sk K ie:=⟨Ub,Uc,Ud,Ue⟩
 have Mp:Mk K ie FA:=⟨Ug,Ui,Uj,Uh⟩
 have UL:=cQ (st:=zu) acq acr Ul
 have Mq:=UL.yz (ps:=["self","x","y"])
 have apX:Meth K ie "__init__" FA:=⟨Ui,Uj,Ul⟩
 have UM:=cQ (st:=zv) acv acw Uo
 have adx:=UM.yz (ps:=["self"])
 have ady:Meth K ie "ways" JA:=⟨acs,acu,Uo⟩
 have MU:sk K ki:=⟨Up,Uq,Ur,Us⟩
 have Mo:Ot K ki:=⟨Ut,Uv,Uu⟩
 have UN:=cQ (st:=zA) acz acA Ux
 have adz:=UN.yz (ps:=["self"])
 have adA:Meth K ki "ways" JB:=⟨acx,acy,Ux⟩
 have LU:=mg_of X G aa2
 have LW:=mg_of X G aa3
 have qU:mg "NOUGHT"=some (.ref MK):=mg_of X G aa4
 have zK:mg "ONE"=some (.ref MM):=mg_of X G aa8
 have LX:mg "NO_MOVE"=some (.ref MO):=mg_of X G abb
 have apY:mg "YardError"=some (.ref abk):=mg_of X G abj
 have apZ:mg "NoWay"=some (.ref abm):=mg_of X G abl
 have ap0:mg "PinThere"=some (.ref abo):=mg_of X G abn
 have ap1:mg "SpotTaken"=some (.ref abq):=mg_of X G abp
 have ap2:mg "NoPin"=some (.ref abu):=mg_of X G abr
 have ap3:mg "BarThere"=some (.ref abw):=mg_of X G abv
 have ap4:mg "NoBar"=some (.ref aby):=mg_of X G abx
 have ap5:mg "NoLength"=some (.ref abA):=mg_of X G abz
 have ap6:mg "TooMany"=some (.ref abC):=mg_of X G abB
 have Mj:mg "Frame"=some (.ref bP):=mg_of X G abD
 have ap7:mg "Hold"=some (.ref lI):=mg_of X G abE
 have Mm:mg "Roller"=some (.ref ie):=mg_of X G abF
 have Mn:mg "Fixed"=some (.ref ki):=mg_of X G abG
 have JC:mg "ValueError"=none:=mg_none_of X G rQ
 have pH:mg "abs"=none:=mg_none_of X G Tg
 have C_:mg "any"=none:=mg_none_of X G Th
 have vK:mg "dict"=none:=mg_none_of X G MQ
 have c8:mg "enumerate"=none:=mg_none_of X G uF
 have gs:mg "isinstance"=none:=mg_none_of X G rR
 have ba:mg "len"=none:=mg_none_of X G Ti
 have cZ:mg "list"=none:=mg_none_of X G MR
 have EI:mg "min"=none:=mg_none_of X G Tj
 have aX:mg "range"=none:=mg_none_of X G Jo
 have ED:mg "str"=none:=mg_none_of X G Tn
 have rK:mg "tuple"=none:=mg_none_of X G Jp
 have iq:mg "zip"=none:=mg_none_of X G To
 have F:=cQ (st:=je) Tb Tc Td
 refine ⟨fnOf "law" "law" (aA je) (aw je) (af je) .none MD MF MG MI EW MJ,fun s v=>.of_eq rfl,fun base _ _=> ?_⟩
 have hM:sR (a_ l.prog w):=a_.sT
 have hN:∀H:Hp,cf K H MK [.int 0,.int 1]:=fun H=>.inr ⟨_,_,_,aa5,rfl,rfl,(by show 2≤sizeLine;decide),.cons ⟨_,rfl⟩ (.cons ⟨_,rfl⟩ .nil)⟩
 have hO:∀H:Hp,cf K H MM [.int 1,.int 1]:=fun H=>.inr ⟨_,_,_,aa9,rfl,rfl,(by show 2≤sizeLine;decide),.cons ⟨_,rfl⟩ (.cons ⟨_,rfl⟩ .nil)⟩
 have nm:∀{c:Addr} {o:Option Addr} {k0 k1:Tok} {n:Nat} {sl:Array (Option Value)},K.lookup c=some ⟨.type "tuple",o,.seq #[.int 0 k0,.int 1 k1] n,sl⟩→∀H:Hp,fJ K H (.ref c) 0:=fun t H=>⟨_,rfl,by rw [c_];exact .inr ⟨_,_,_,t,rfl,rfl,(by show 2≤sizeLine;decide),.cons ⟨_,rfl⟩ (.cons ⟨_,rfl⟩ .nil)⟩⟩
 have hMo:∀H:Hp,eY K H (.ref MO) (0,0):=fun H=>⟨_,.ref Te,.ref Tf,rfl,.inr ⟨_,_,_,abc,rfl,rfl,(by show 2≤sizeLine;decide),.cons rfl (.cons rfl .nil)⟩,nm abd H,nm abg H⟩
 have fc:CH K bP:=⟨eV,FC,MS,MT⟩
 have G1:=O8 (P:=l.prog) (w:=w) (base:=base) (CX:=a_ l.prog w) acD pH
 have G2:=O9 ht acC G1
 have GW:=Pa acN G1
 have GDv:=Pb ht acS G1
 have GCl:=Pc ht acR iq G1 GDv
 have GF:=Pd (P:=l.prog) (w:=w) (base:=base) acQ c8
 have GR:=Pf acP aX cZ GF GCl
 have GS:=Pm hN qU acO C_ GR G2
 have adB:=Pq acM iq ba GW GS (Ka Uy aX) G2
 have GD:=LR (PZ hM acB G2)
 have GPD:=P1 hM acF GD
 have GI:=P5 (P:=l.prog) (w:=w) (mg:=mg) (base:=base) Uz fc
 have MBs:bK l.prog w K mg base (a_ l.prog w) 1 bP "bars" ["self"] (kb K bP):=⟨_,_,eV,ado,P7 UH fc cZ,adn⟩
 have MV:bK l.prog w K mg base (a_ l.prog w) 1 bP "pins" ["self"] (fG K bP):=⟨_,_,eV,adm,P9 UG fc cZ,adl⟩
 have MCp:bK l.prog w K mg base (a_ l.prog w) 1 bP "check_pin" ["self","pin"] (dD K bP):=⟨_,_,eV,adk,Qa UE fc,adj⟩
 have MCb:bK l.prog w K mg base (a_ l.prog w) 2 bP "check_bar" ["self","name","one","other"] (gd K bP):=⟨_,_,eV,adi,Qq UD fc LW ba MCp,adh⟩
 have XZ:bK l.prog w K mg base (a_ l.prog w) 3 bP "put_bar" ["self","name","one","other"] (jr K bP):=⟨_,_,eV,adg,Qs UC fc MCb,adf⟩
 have okP:=Qo (P:=l.prog) (w:=w) (mg:=mg) (base:=base) adb fc LU ba cZ
 have Vu:bK l.prog w K mg base (a_ l.prog w) 3 bP "put_pin" ["self","name","x","y","hold"] (dE l.prog w K mg base bP):=⟨_,_,eV,UB,okP,ade⟩
 have X0:vg l.prog w K mg base (a_ l.prog w) 3 bP "put_pin" ["self","name","x","y","hold"] [.none] (dE l.prog w K mg base bP):=⟨_,_,eV,UB,okP,UA⟩
 have MPl:bK l.prog w K mg base (a_ l.prog w) 2 bP "place" ["self","pin"] (l_ K bP):=⟨_,_,eV,adq,Qc UI fc MCp,adp⟩
 have ME:bK l.prog w K mg base (a_ l.prog w) 1 bP "ends" ["self","bar"] (qZ K bP):=⟨_,_,eV,adv,Qe UK fc,adu⟩
 have MW:bK l.prog w K mg base (a_ l.prog w) 2 bP "ways" ["self","pin"] (m8 K bP):=⟨_,_,eV,adt,Qg UJ fc cZ MCp,ads⟩
 have wR:bK l.prog w K mg base (a_ l.prog w) 1 ie "ways" ["self"] (jo K ie):=⟨_,_,wo,ady,Qk UM wo KA,adx⟩
 have wF:bK l.prog w K mg base (a_ l.prog w) 1 ki "ways" ["self"] (jq K):=⟨_,_,MU,adA,Qm UN,adz⟩
 have GRI:=Qi (P:=l.prog) (w:=w) (mg:=mg) (base:=base) UL wo KA
 have GA:=Qv acE MPl GPD
 have GPR:=Qw hMo LX acG MV
 have GBR:=Qz acI GA GPR
 have GDR:=QD acJ MV MW MBs ME GPR GBR
 have GPP:=QE acK ba vK iq MV MW MBs
 have GMF:=QH acL c8 MV
 have GLR:=Qx acH MV GPR
 have GRO:=QJ hN qU hO zK acT ba MV GDR GLR adB GMF GPP
 have GC:=QW (P:=l.prog) (w:=w) (base:=base) (CX:=a_ l.prog w) acU ba
 have Ny:=QY (P:=l.prog) (w:=w) (base:=base) (CX:=a_ l.prog w) acV
 have GLo:=QZ (w:=w) (base:=base) ht acW pH
 have Nz:=Q3 (P:=l.prog) (w:=w) (base:=base) acX
 have GTi:=Q6 (P:=l.prog) (w:=w) (base:=base) acY
 have GTu:=Q8 (P:=l.prog) (w:=w) (base:=base) acZ
 have GNa:=Q9 hM ac0 ED Ny
 have GSp:=Q_ ac1 Ny GLo
 have GWy:=Ra ac2 Ny GLo
 have GPi:=Rg ac3 aX EI GC Ny GSp GWy GNa Nz
 have GBa:=Rh ac4 aX ba GC Ny GNa
 have GFr:=Ri ac5 ba Mi Mj GI Ml Mm Mn Mo Mp GRI Mq (wR.mono (by decide)) (wF.mono (by decide)) XZ Vu X0
 have GAr:=Rl ac6 Nz GTu
 have GAd:=Rn ac7 Nz
 have GFo:=Ro ac8 ba aX GTi GTu GAr GAd
 have GSL:=oG hN qU hO zK rS G2
 have GSC:=ke lJ aX GW GR GSL
 have GTn:=Ka (P:=l.prog) (w:=w) (base:=base) Uy aX
 have GSO:=rn uG ba MV MBs GDR GTn GSC GPP
 have GDw:=Rp ac9 ba aX GC Ny
 have GLd:=Rr ac' ba aX GFo GLo
 have GAl:=Rv (P:=l.prog) (w:=w) (base:=base) ada
 have GMo:=uq wm Nz GTu
 have GPu:=iN jO ba aX Nz GTi GAl GMo
 have GPs:=ia iU ba aX Nz GTi GAl GMo
 exact Mz F aX ba gs rK GPi GBa GFr GDw GLd GRO GSO GMo GPu GPs
end T_k46
open PySem PySem.W PyProof.Rows
set_option maxRecDepth 100000 in
set_option maxHeartbeats 0 in
theorem PySem.Challenge.cw_trussyard_k46_whole_the_only_forces_holds : PySem.Challenge.rw_trussyard_k46_whole_the_only_forces.Holds := by
 w_on;o_law;k_head;(case hw=>w_witness2)
 k_fill
 refine Ty.walk (l:=PySem.Challenge.rw_trussyard_k46_whole_the_only_forces) (x:="_law_script") (k:=42) (CX:=fun w=>Ty.a_ (PySem.Challenge.rw_trussyard_k46_whole_the_only_forces).prog w) rfl rfl (by first | rfl | decide+kernel) ⟨rfl,by decide,by decide⟩ (fun w h Y=>PySem.W.kIn_of Y) (fun w=>Ty.a_.sT) ?F
 case F=>
  intro w mg fa h KX G Oj
  refine' T_k46.all_mk KX G Oj ?A0 ?A1 ?A2 ?A3 ?A4 ?A5 ?A6 ?A7 ?A8 ?A9 ?Aa ?Ab ?Ac ?Ad ?Ae ?Af ?Ag ?Ah ?Ai ?Aj ?Ak ?Al ?Am ?An ?Ao ?Ap ?Aq ?Ar ?As ?At ?Au ?Av ?Aw ?Ax ?Ay ?Az ?B0 ?B1 ?B2 ?B3 ?B4 ?B5 ?B6 ?B7 ?B8 ?B9 ?Ba ?Bb ?Bc ?Bd ?Be ?Bf ?Bg ?Bh ?Bi ?Bj ?Bk ?Bl ?Bm ?Bn ?Bo ?Bp ?Bq ?Br ?Bs ?Bt ?Bu ?Bv ?Bw ?Bx ?By ?Bz ?C0 ?C1 ?C2 ?C3 ?C4 ?C5 ?C6 ?C7 ?C8 ?C9 ?Ca ?Cb ?Cc ?Cd ?Ce ?Cf ?Cg ?Ch ?Ci ?Cj ?Ck ?Cl ?Cm ?Cn ?Co ?Cp ?Cq ?Cr ?Cs ?Ct ?Cu ?Cv ?Cw ?Cx ?Cy ?Cz ?D0 ?D1 ?D2 ?D3 ?D4 ?D5 ?D6 ?D7 ?D8 ?D9 ?Da ?Db ?Dc ?Dd ?De ?Df ?Dg ?Dh ?Di ?Dj ?Dk ?Dl ?Dm ?Dn ?Do ?Dp ?Dq ?Dr ?Ds ?Dt ?Du ?Dv ?Dw ?Dx ?Dy ?Dz ?E0 ?E1 ?E2 ?E3 ?E4 ?E5 ?E6 ?E7 ?E8 ?E9 ?Ea ?Eb ?Ec ?Ed ?Ee ?Ef ?Eg ?Eh ?Ei ?Ej ?Ek ?El ?Em ?En ?Eo ?Ep ?Eq ?Er ?Es ?Et ?Eu ?Ev ?Ew ?Ex ?Ey ?Ez ?F0 ?F1 ?F2 ?F3 ?F4 ?F5 ?F6 ?F7 ?F8 ?F9 ?Fa ?Fb ?Fc ?Fd ?Fe ?Ff ?Fg ?Fh ?Fi ?Fj ?Fk ?Fl ?Fm ?Fn ?Fo ?Fp ?Fq ?Fr ?Fs ?Ft ?Fu ?Fv ?Fw ?Fx ?Fy ?Fz ?G0 ?G1 ?G2 ?G3 ?G4 ?G5 ?G6 ?G7 ?G8 ?G9 ?Ga ?Gb ?Gc ?Gd ?Ge ?Gf ?Gg ?Gh ?Gi ?Gj ?Gk ?Gl ?Gm ?Gn ?Go ?Gp ?Gq ?Gr ?Gs ?Gt ?Gu ?Gv ?Gw ?Gx ?Gy ?Gz ?H0 ?H1 ?H2 ?H3 ?H4 ?H5 ?H6 ?H7 ?H8 ?H9 ?Ha ?Hb ?Hc ?Hd ?He ?Hf ?Hg ?Hh ?Hi ?Hj ?Hk ?Hl ?Hm ?Hn ?Ho ?Hp ?Hq ?Hr ?Hs ?Ht ?Hu ?Hv ?Hw ?Hx ?Hy ?Hz ?I0 ?I1 ?I2 ?I3 ?I4 ?I5 ?I6 ?I7 ?I8 ?I9 ?Ia ?Ib ?Ic ?Id ?Ie ?If ?Ig ?Ih ?Ii ?Ij ?Ik ?Il ?Im ?In ?Io ?Ip ?Iq ?Ir ?Is ?It
  (case A0=>k_is);(case A1=>k_is);(case A2=>k_is);(case A3=>k_is);(case A4=>k_is);(case A5=>k_is);(case A6=>k_is);(case A7=>k_is);(case A8=>k_is);(case A9=>k_is);(case Aa=>k_is);(case Ab=>k_is);(case Ac=>k_is);(case Ad=>k_is);(case Ae=>k_is);(case Af=>k_is);(case Ag=>k_is);(case Ah=>k_is);(case Ai=>k_is);(case Aj=>k_is);(case Ak=>k_is);(case Al=>k_is);(case Am=>k_is);(case An=>k_is);(case Ao=>k_is);(case Ap=>k_is);(case Aq=>k_is);(case Ar=>k_is);(case As=>k_is);(case At=>k_is);(case Au=>k_is);(case Av=>k_is);(case Aw=>k_is);(case Ax=>k_is);(case Ay=>k_is);(case Az=>k_is);(case B0=>k_is);(case B1=>k_is);(case B2=>k_is);(case B3=>k_is);(case B4=>k_is);(case B5=>k_is);(case B6=>k_is);(case B7=>k_is);(case B8=>k_is);(case B9=>k_is);(case Ba=>k_is);(case Bb=>k_is);(case Bc=>k_is);(case Bd=>k_is);(case Be=>k_is);(case Bf=>k_is);(case Bg=>k_is);(case Bh=>k_is);(case Bi=>k_is);(case Bj=>k_is);(case Bk=>k_is);(case Bl=>k_is);(case Bm=>k_is);(case Bn=>k_is);(case Bo=>k_is);(case Bp=>k_is);(case Bq=>k_is);(case Br=>k_is);(case Bs=>k_is);(case Bt=>k_is);(case Bu=>k_is);(case Bv=>k_is);(case Bw=>k_is);(case Bx=>k_is);(case By=>k_is);(case Bz=>k_is);(case C0=>k_is);(case C1=>k_is);(case C2=>k_is);(case C3=>k_is);(case C4=>k_is);(case C5=>k_is);(case C6=>k_is);(case C7=>k_is);(case C8=>k_is);(case C9=>k_is);(case Ca=>k_is);(case Cb=>k_is);(case Cc=>k_is);(case Cd=>k_is);(case Ce=>k_is);(case Cf=>k_is);(case Cg=>k_is);(case Ch=>k_is);(case Ci=>k_is);(case Cj=>k_is);(case Ck=>k_is);(case Cl=>k_is);(case Cm=>k_is);(case Cn=>k_is);(case Co=>k_is);(case Cp=>k_is);(case Cq=>k_is);(case Cr=>k_is);(case Cs=>k_is);(case Ct=>k_is);(case Cu=>k_is);(case Cv=>k_is);(case Cw=>k_is);(case Cx=>k_is);(case Cy=>k_is);(case Cz=>k_is);(case D0=>k_is);(case D1=>k_is);(case D2=>k_is);(case D3=>k_is);(case D4=>k_is);(case D5=>k_is);(case D6=>k_is);(case D7=>k_is);(case D8=>k_is);(case D9=>k_is);(case Da=>k_is);(case Db=>k_is);(case Dc=>k_is);(case Dd=>k_is);(case De=>k_is);(case Df=>k_is);(case Dg=>k_is);(case Dh=>k_is);(case Di=>k_is);(case Dj=>k_is);(case Dk=>k_is);(case Dl=>k_is);(case Dm=>k_is);(case Dn=>k_is);(case Do=>k_is);(case Dp=>k_is);(case Dq=>k_is);(case Dr=>k_is);(case Ds=>k_is);(case Dt=>k_is);(case Du=>k_is);(case Dv=>k_is);(case Dw=>k_is);(case Dx=>k_is);(case Dy=>k_is);(case Dz=>k_is);(case E0=>k_is);(case E1=>k_is);(case E2=>k_is);(case E3=>k_is);(case E4=>k_is);(case E5=>k_is);(case E6=>k_is);(case E7=>k_is);(case E8=>k_is);(case E9=>k_is);(case Ea=>k_is);(case Eb=>k_is);(case Ec=>k_is);(case Ed=>k_is);(case Ee=>k_is);(case Ef=>k_is);(case Eg=>k_is);(case Eh=>k_is);(case Ei=>k_is);(case Ej=>k_is);(case Ek=>k_is);(case El=>k_is);(case Em=>k_is);(case En=>k_is);(case Eo=>k_is);(case Ep=>k_is);(case Eq=>k_is);(case Er=>k_is);(case Es=>k_is);(case Et=>k_is);(case Eu=>k_is);(case Ev=>k_is);(case Ew=>k_is);(case Ex=>k_is);(case Ey=>k_is);(case Ez=>k_is);(case F0=>k_is);(case F1=>k_is);(case F2=>k_is);(case F3=>k_is);(case F4=>k_is);(case F5=>k_is);(case F6=>k_is);(case F7=>k_is);(case F8=>k_is);(case F9=>k_is);(case Fa=>k_is);(case Fb=>k_is);(case Fc=>k_is);(case Fd=>k_is);(case Fe=>k_is);(case Ff=>k_is);(case Fg=>k_is);(case Fh=>k_is);(case Fi=>k_is);(case Fj=>k_is);(case Fk=>k_is);(case Fl=>k_is);(case Fm=>k_is);(case Fn=>k_is);(case Fo=>k_is);(case Fp=>k_is);(case Fq=>k_is);(case Fr=>k_is);(case Fs=>k_is);(case Ft=>k_is);(case Fu=>k_is);(case Fv=>k_is);(case Fw=>k_is);(case Fx=>k_is);(case Fy=>k_is);(case Fz=>k_is);(case G0=>k_is);(case G1=>k_is);(case G2=>k_is);(case G3=>k_is);(case G4=>k_is);(case G5=>k_is);(case G6=>k_is);(case G7=>k_is);(case G8=>k_is);(case G9=>k_is);(case Ga=>k_is);(case Gb=>k_is);(case Gc=>k_is);(case Gd=>k_is);(case Ge=>k_is);(case Gf=>k_is);(case Gg=>k_is);(case Gh=>k_is);(case Gi=>k_is);(case Gj=>k_is);(case Gk=>k_is);(case Gl=>k_is);(case Gm=>k_is);(case Gn=>k_is);(case Go=>k_is);(case Gp=>k_is);(case Gq=>k_is);(case Gr=>k_is);(case Gs=>k_is);(case Gt=>k_is);(case Gu=>k_is);(case Gv=>k_is);(case Gw=>k_is);(case Gx=>k_is);(case Gy=>k_is);(case Gz=>k_is);(case H0=>k_is);(case H1=>k_is);(case H2=>k_is);(case H3=>k_is);(case H4=>k_is);(case H5=>k_is);(case H6=>k_is);(case H7=>k_is);(case H8=>k_is);(case H9=>k_is);(case Ha=>k_is);(case Hb=>k_is);(case Hc=>k_is);(case Hd=>k_is);(case He=>k_is);(case Hf=>k_is);(case Hg=>k_is);(case Hh=>k_is);(case Hi=>k_is);(case Hj=>k_is);(case Hk=>k_is);(case Hl=>k_is);(case Hm=>k_is);(case Hn=>k_is);(case Ho=>k_is);(case Hp=>k_is);(case Hq=>k_is);(case Hr=>k_is);(case Hs=>k_is);(case Ht=>k_is);(case Hu=>k_is);(case Hv=>k_is);(case Hw=>k_is);(case Hx=>k_is);(case Hy=>k_is);(case Hz=>k_is);(case I0=>k_is);(case I1=>k_is);(case I2=>k_is);(case I3=>k_is);(case I4=>k_is);(case I5=>k_is);(case I6=>k_is);(case I7=>k_is);(case I8=>k_is);(case I9=>k_is);(case Ia=>k_is);(case Ib=>k_is);(case Ic=>k_is);(case Id=>k_is);(case Ie=>k_is);(case If=>k_is);(case Ig=>k_is);(case Ih=>k_is);(case Ii=>k_is);(case Ij=>k_is);(case Ik=>k_is);(case Il=>k_is);(case Im=>k_is);(case In=>k_is);(case Io=>k_is);(case Ip=>k_is);(case Iq=>k_is);(case Ir=>k_is);(case Is=>k_is);(case It=>rfl)
#print axioms PySem.Challenge.cw_trussyard_k46_whole_the_only_forces_holds
