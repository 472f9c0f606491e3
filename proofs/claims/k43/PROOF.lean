import PyProof.Rows.All
import Wide.All
import OpenK.AllK
import Wide.FinOn
import Lean
import PyProof.EqAt
import PyProof.EqKinds
import PyProof.TupleCall
import PyProof.ZipIter
import PyProof.SumWalkG
import PyProof.ListCopy
import PyProof.ListStr
import PyProof.DictItems
import PyProof.DictWalks
import PyProof.DictTruth
import PyProof.EnumMake
import PyProof.InstStoreFacts
import PyProof.Rows.SortWalk
import PyProof.ListRange
import PyProof.DictValues
import KE.KRevSl
import KE.KDictOf
import PyProof.DictIter
import PyProof.FactsAll.dict_1
import PyProof.AttrMissHeap
import KE.KEqDict
import KE.KDictList
import KE.KItemsList
import PySem.Challenge.RW_trussyard_k43_free_pairs
set_option Elab.async false
set_option linter.all false
set_option maxRecDepth 100000
theorem gE.{u}{α:Type u}{l:List α}{i:Nat}(h:i < l.length):l[i]? =some l[i]:=List.getElem?_eq_getElem h
namespace PySem.W.Fast
def tw6445588107630693341:Unit:=()
def tw4363540069023464025:Unit:=()
def tw7059406182217124609:Unit:=()
def tw12313315357264646823:Unit:=()
def tw6608644692112441436:Unit:=()
def tw2728806635339402872:Unit:=()
def tw6944140060905026790:Unit:=()
def tw3515724406943319321:Unit:=()
def tw16026233967509736359:Unit:=()
def tw8506491542006331506:Unit:=()
def tw5307662787270043677:Unit:=()
def tw4858300546567672311:Unit:=()
def tw4190652128531335220:Unit:=()
def tw12980129245452628457:Unit:=()
def tw10761692274319442399:Unit:=()
def tw14844681332063373565:Unit:=()
def tw12490287579872908583:Unit:=()
def tw5905375964571184857:Unit:=()
def tw16033357943497810034:Unit:=()
def tw9983182668923825446:Unit:=()
def tw1053953761828807254:Unit:=()
def tw14428690518538608910:Unit:=()
def tw2050663038663101746:Unit:=()
def tw13328399246515853080:Unit:=()
def tw13683626491628275097:Unit:=()
def tw12138759076652322355:Unit:=()
def tw4976731567032391658:Unit:=()
def tw15929419384521135251:Unit:=()
def tw3613556973753684880:Unit:=()
def tw15635528610164935875:Unit:=()
def tw11285337214887856603:Unit:=()
def tw8457414066753810418:Unit:=()
def tw7493375811027833031:Unit:=()
def tw6466730269833625838:Unit:=()
def tw2524901959434205642:Unit:=()
def tw10583322497868730941:Unit:=()
def tw11457408263349053048:Unit:=()
def tw15768122509559303578:Unit:=()
def tw11445294158364655958:Unit:=()
def tw17165327988324561807:Unit:=()
def tw2897350065072986652:Unit:=()
def tw4903856279485284776:Unit:=()
def tw11003704867341231779:Unit:=()
def tw11433170927358162864:Unit:=()
def tw11154442132934723431:Unit:=()
def tw17282271894985430755:Unit:=()
def tw2189609007245785549:Unit:=()
def tw18207104527407787076:Unit:=()
def tw512392958652781509:Unit:=()
def tw8039231053652265231:Unit:=()
def tw12974484553488341209:Unit:=()
def tw9448717703748143314:Unit:=()
def tw2335747554518878586:Unit:=()
def tw6790545073688662859:Unit:=()
def tw6420892509986659098:Unit:=()
def tw6624955696404419532:Unit:=()
def tw10073402195796026274:Unit:=()
def tw12580645251526602227:Unit:=()
def tw5600524517188749306:Unit:=()
def tw6032669214826804485:Unit:=()
def tw6125191673574814688:Unit:=()
def tw12679406452583019943:Unit:=()
def tw15075913233870403667:Unit:=()
def tw16010502625342632954:Unit:=()
def tw14984423594396717554:Unit:=()
def tw17094585438337087634:Unit:=()
def tw16921865009436978756:Unit:=()
def tw608235929104248238:Unit:=()
def tw13552492359678201944:Unit:=()
def tw10174295233601004804:Unit:=()
def tw2308410570271619845:Unit:=()
def tw15254975365343351159:Unit:=()
def tw5877619148322765403:Unit:=()
def tw12168924627513599550:Unit:=()
def tw6560411953969898735:Unit:=()
def tw16976707221741965002:Unit:=()
def tw14015667554286814735:Unit:=()
def tw16613183720725690891:Unit:=()
def tw2161756513709347581:Unit:=()
def tw17086184939702428530:Unit:=()
def tw17718562226940461249:Unit:=()
def tw13025959487711802480:Unit:=()
def tw5176822029831757885:Unit:=()
def tw1918648501281523996:Unit:=()
def tw1470214851107307731:Unit:=()
def tw4984557162715478220:Unit:=()
def tw7965435906793413862:Unit:=()
def tw1457035862011380029:Unit:=()
def tw6344662250617765292:Unit:=()
def tw16686507459962262971:Unit:=()
def tw4207820424072315067:Unit:=()
def tw10018740071646923263:Unit:=()
def tw9375572965580691104:Unit:=()
def tw9020313217071039692:Unit:=()
def tw15654265194064721256:Unit:=()
def tw5527437360008350609:Unit:=()
def tw8754533806798600949:Unit:=()
def tw17750801181971461961:Unit:=()
def tw11488303915568421227:Unit:=()
def tw4389790380284527174:Unit:=()
def tw8737097809948448295:Unit:=()
def tw2183230026568107298:Unit:=()
def tw15535950659493046994:Unit:=()
def tw11863948670221646117:Unit:=()
def tw2827702840028219934:Unit:=()
def tw17187535260418645721:Unit:=()
def tw6825439362539931954:Unit:=()
def tw3261506222305068242:Unit:=()
def tw6371179066482310166:Unit:=()
def tw18276227697330082146:Unit:=()
def tw12546174078504835691:Unit:=()
def tw12314098339578201371:Unit:=()
def tw7560234770141881718:Unit:=()
def tw13884554360613839368:Unit:=()
def tw10633817912609838130:Unit:=()
def tw9700037188916356055:Unit:=()
def tw17045281064864588218:Unit:=()
def tw3695998206635666533:Unit:=()
def tw10427241400483317780:Unit:=()
def tw10841949859382958029:Unit:=()
def tw12296471965316503267:Unit:=()
def tw1964940360298968767:Unit:=()
def tw6431061376786351320:Unit:=()
def tw15920933318004325200:Unit:=()
def tw7173596198707343877:Unit:=()
def tw2224115366174002113:Unit:=()
def tw3903291605161716279:Unit:=()
def tw517461317562034357:Unit:=()
def tw5369600212759166606:Unit:=()
def tw10316816743523358282:Unit:=()
def tw7689939683712756265:Unit:=()
def tw13843195136994785098:Unit:=()
def tw12138836362481361191:Unit:=()
def tw1231540808232708615:Unit:=()
def tw14131925788283003192:Unit:=()
def tw9086127350241830274:Unit:=()
def tw1495849318749483085:Unit:=()
def tw6994780023321951475:Unit:=()
def tw14306645094551287565:Unit:=()
def tw2207769743897823351:Unit:=()
def tw3130776939170271814:Unit:=()
def tw279069045013186182:Unit:=()
def tw18207429561884258659:Unit:=()
def tw1971710687315345419:Unit:=()
def tw6594276675038126683:Unit:=()
def tw757596438124765027:Unit:=()
def tw9173978087448709944:Unit:=()
def tw17720674928888314385:Unit:=()
def tw15902461072836627798:Unit:=()
def tw9992043838294483915:Unit:=()
def tw1420517143659898518:Unit:=()
def tw2670139658550680434:Unit:=()
def tw10549857489192663876:Unit:=()
def tw11338065220060729015:Unit:=()
def tw2949702428282519755:Unit:=()
def tw4446448129523863964:Unit:=()
def tw10966432841010886836:Unit:=()
def tw4334625072178020420:Unit:=()
def tw10418056999766988408:Unit:=()
def tw14203191305693419341:Unit:=()
def tw8512171682332472759:Unit:=()
def tw12535987679493616008:Unit:=()
def tw1539559854354659498:Unit:=()
def tw793112198177490856:Unit:=()
def tw7741730533530100609:Unit:=()
def tw17068561119167140634:Unit:=()
def tw2105776462370614084:Unit:=()
def tw10007266399329687263:Unit:=()
def tw4379856001060541462:Unit:=()
def tw3074916427386984622:Unit:=()
def tw17707397595662569554:Unit:=()
def tw11512445764391893410:Unit:=()
def tw3245644853609650045:Unit:=()
def tw9690376391072690331:Unit:=()
def tw14895281986611889017:Unit:=()
def tw1746173213383374791:Unit:=()
def tw8548834339727638435:Unit:=()
def tw13110813325413621731:Unit:=()
def tw11922647356067460210:Unit:=()
def tw4477748913144879974:Unit:=()
def tw3997064322853796519:Unit:=()
def tw931691230253435779:Unit:=()
def tw15167851511515959143:Unit:=()
def tw1461413932897460886:Unit:=()
def tw12008199445353471636:Unit:=()
def tw7052465822705486811:Unit:=()
def tw5306450698960785921:Unit:=()
def tw17546715264873629180:Unit:=()
def tw9149383060205854819:Unit:=()
def tw415579053072605540:Unit:=()
def tw13517552734567838829:Unit:=()
def tw3961697337942367320:Unit:=()
def tw15273569802240513014:Unit:=()
def tw14940070930681854139:Unit:=()
def tw3566961770657872388:Unit:=()
def tw15899987225475491291:Unit:=()
def tw16132714840249232848:Unit:=()
def tw8471726010379235101:Unit:=()
def tw8439765057622967763:Unit:=()
def tw10819313814983712542:Unit:=()
def tw12743911408537285524:Unit:=()
def tw14580258272229303954:Unit:=()
def tw8421592899195081968:Unit:=()
def tw11288727657412528127:Unit:=()
def tw8025532497485799604:Unit:=()
def tw2137407400980567979:Unit:=()
def tw14140206642548195805:Unit:=()
def tw13125156888373175599:Unit:=()
def tw16898278415819902262:Unit:=()
def tw7185895811372125516:Unit:=()
def tw4483450407161332656:Unit:=()
def tw12250154624631111054:Unit:=()
def tw1067540773256029721:Unit:=()
def tw14342728390409970593:Unit:=()
def tw10913028902677475477:Unit:=()
def tw6062041439461038351:Unit:=()
def tw15877591768892774116:Unit:=()
end PySem.W.Fast
open Array renaming length_toList→af9, getElem?_toList→agr, toList→aoB
open Bool renaming false_ne_true→ad_, eq_iff_iff→afA, and_eq_true→afB, false_eq_true→agb, and_false→amW, eq_false_iff→am1, and_true→anr, or_false→anL
open Classical renaming byContradiction→afw, propDecidable→afM, not_imp→anp, not_forall→anK
open Int renaming gcd→afE, ne_of_gt→afS, zero_add→afU, natAbs_mul→af3, gcd_dvd_right→agc, mul_comm→agd, gcd_dvd_left→agk, fmod_nonneg_of_pos→agm, natAbs_dvd_natAbs→ags, toNat_natCast→agu, fdiv_eq_of_eq_mul_right→agv, natAbs_add_le→agw, mul_pos→agB, mul_zero→amX, mul_assoc→am7, fmod_lt_of_pos→ani, mul_neg_of_pos_of_neg→anj, lt_trichotomy→ank, mul_eq_zero→anA, natAbs_neg→anF, gcd_zero_right→anP, fmod_def→anR, emod_eq_of_lt→anY, gcd_mul_left→an6, gcd_pos_iff→aoa, mul_ne_zero→aob, dvd_coe_gcd→aog
open List renaming getElem?_eq_some_iff→be, mem_of_getElem?→ir, getElem?_map→Wp, length_map→aaa, mem_map→aah, getElem?_of_mem→aak, getElem?_eq_none→aal, mem_cons_of_mem→aa_, map_cons→ac_, mem_singleton→ae_, mem_cons_self→ae', size_toArray→afa, getD_eq_getElem?_getD→afb, getElem?_append_left→afd, mem_append→afg, replicate→afh, length_append→afi, map_map→afj, mem_append_right→afl, getElem?_append_right→afm, mem_cons→afo, map_append→afq, mem_append_left→afr, nodup_cons→afs, length_cons→afu, length_take→afv, flatMap_cons→afy, range→afz, take_length→afC, getElem?_set→afD, mem_filter→afG, length→afH, ext_getElem?→afI, mem_range→afJ, mem_iff_getElem→afN, filter_cons_of_pos→afO, filter_cons_of_neg→afP, getElem?_eraseIdx→afT, length_filter_le→afX, filter_cons→afY, getElem_mem→afZ, mem_flatMap→af0, length_eraseIdx→af5, append_assoc→af6, replicate_succ→af_, lookup→af', sum_cons→aga, zipWith→age, mem_of_mem_eraseIdx→agf, map_congr_left→agg, flatMap_append→agh, getElem?_replicate→agi, filter_append→agn, find?_cons→agq, getElem?_zipWith→agt, length_range→agy, nodup_append→agz, getElem?_set_ne→agA, nodup_range→agC, filterMap_cons→agD, any_cons→ah_, append_nil→ai_, length_eraseIdx_le→ak_, getElem?_set_self→al_, flatten_cons→amV, range_succ_eq_map→amY, getElem?_inj→am0, length_replicate→am2, lookup_cons→am3, cons_append→am4, any_eq_true→am5, all_cons→am6, range_succ→am_, map_nil→anc, Sublist→ane, mem_filterMap→anf, take_add_one→anm, getElem?_take_of_lt→anq, length_eq_zero_iff→ant, zipWith_cons_cons→anw, of_mem_zip→anx, nil_append→anz, length_singleton→anB, eq_nil_or_concat→anC, concat_eq_append→anD, eraseIdx_sublist→anE, nodup_nil→anI, pairwise_cons→anO, getElem_take→anV, pairwise_map→anW, filter_congr→anZ, getElem_inj→an3, length_drop→an4, cons_ne_nil→an7, all_eq_true→an8, length_set→an', length_nil→aoc, foldl→aok
open Nat renaming le_refl→aai, le_trans→aaj, lt_of_lt_of_le→afc, lt_of_le_of_lt→afe, ne_of_lt→afn, pow_le_pow_right→afp, zero_le→aft, lt_succ_self→afF, lt_succ_iff_lt_or_eq→afK, lt_irrefl→afQ, mul_le_mul→afR, not_lt_zero→afW, le_of_lt→af2, mul_le_mul_right→af4, lt_succ_of_lt→af7, le_succ→agl, one_le_two_pow→ago, ne_of_gt→amU, pow_succ→amZ, pow_add→am8, pow_le_pow_left→am', mul_comm→anb, add_mul→ano, le_of_not_lt→ans, le_of_eq→anu, add_comm→anv, one_mul→anJ, min_self→anS, le_succ_of_le→anU, two_pow_pos→aoe, min_eq_left→aoh, not_lt→aom
open Ne renaming symm→afk
open Option renaming map_eq_some_iff→ae9, map_some→af8, isSome_iff_exists→ag_, isSome_map→anl, isSome_some→anM, getD_none→an5, none→aoP
open Option.some renaming inj→aff
open Or renaming inl→ab_, inr→afx
open Prod renaming ext→agj, fst→anG, snd→anH
open Prod.mk renaming inj→an_, injEq→aou
open Rat renaming intCast_mul→afL, intCast_le_intCast→agp, intCast_inj→am9, num_divInt_den→anN, sub_eq_add_neg→anQ, divInt_eq_div→anT, intCast_add→aod, intCast_sub→aof
open Sum renaming inr→af1, inl→ana
open Sum.inl renaming inj→aj_
open Sum.inr renaming inj→afV
open PySem.W (Frag nsIn codeIn keepIn fnOf mg_of mg_none_of)
namespace L2
open PySem PySem.Spec PyProof.Rows
abbrev Key:=Sum Int Str
def pC:Key→Value→Bool
 | .inl k,v=>Value.isInt k v
 | .inr x,v=>Value.isStrOf x v
def Xj (w:World):Key→Int
 | .inl k=>hashInt k
 | .inr x=>hashStr w x
theorem bR:∀{k:Key} {v:Value},pC k v=true→(∃i t,k=ana i∧v=Value.int i t)∨(∃x t,k=af1 x∧v=Value.str x t)
 | .inl i,v,h=>by
  obtain ⟨t,e⟩:=Value.isInt_shape (k:=i) (v:=v) h
  exact .inl ⟨i,t,rfl,e⟩
 | .inr x,v,h=>by
  obtain ⟨t,e⟩:=Value.isStrOf_shape (x:=x) (v:=v) h
  exact .inr ⟨x,t,rfl,e⟩
theorem ye (i:Int)(t:Tok):pC (.inl i) (.int i t)=true:=by simp [pC,Value.isInt]
theorem yf (x:Str)(t:Tok):pC (.inr x) (.str x t)=true:=by simp [pC,Value.isStrOf]
theorem Mn (a b:Int):decide ((ana a:Key)=ana b)=(a==b):=by
 by_cases e:a=b
 ·subst e;simp
 ·have h:¬ (ana a:Key)=ana b:=fun q=>e (aj_ q)
  rw [decide_eq_false h]
  exact (beq_eq_false_iff_ne.mpr e).symm
theorem Mo (a b:Str):decide ((af1 a:Key)=af1 b)=decide (a=b):=by
 by_cases e:a=b
 ·subst e;simp
 ·have h:¬ (af1 a:Key)=af1 b:=fun q=>e (afV q)
  rw [decide_eq_false h,decide_eq_false e]
theorem Mp (a:Int)(b:Str):decide ((ana a:Key)=af1 b)=false:=decide_eq_false (fun q=>nomatch q)
theorem Mq (a:Str)(b:Int):decide ((af1 a:Key)=ana b)=false:=decide_eq_false (fun q=>nomatch q)
def aZ (prog:Program)(w:World):PySem.KeyKind prog w Key where
 is:=pC
 hash:=Xj w
 inj:=fun v a b ha hb=>by
  rcases bR ha with ⟨i,t,rfl,rfl⟩ | ⟨x,t,rfl,rfl⟩
  ·rcases bR hb with ⟨j,u,rfl,e⟩ | ⟨y,u,rfl,e⟩
   ·injection e with e1 _;rw [e1]
   ·exact nomatch e
  ·rcases bR hb with ⟨j,u,rfl,e⟩ | ⟨y,u,rfl,e⟩
   ·exact nomatch e
   ·injection e with e1 _;rw [e1]
 byValue:=fun k v h=>by
  rcases bR h with ⟨i,t,rfl,rfl⟩ | ⟨x,t,rfl,rfl⟩ <;> rfl
 pyHash:=fun hv h=>by
  rcases bR hv with ⟨i,t,rfl,rfl⟩ | ⟨x,t,rfl,rfl⟩
  ·exact wpAny_pyHash_int h
  ·exact wpAny_pyHash_str h
 eqBool:=fun hu hv h=>by
  rcases bR hu with ⟨i,t,rfl,rfl⟩ | ⟨x,t,rfl,rfl⟩
  ·rcases bR hv with ⟨j,u,rfl,rfl⟩ | ⟨y,u,rfl,rfl⟩
   ·rw [Mn] at h;exact wpAny_eqBool_int h
   ·rw [Mp] at h;exact SeqAt.EqAt.int_str i t y u _ _ _ _ h
  ·rcases bR hv with ⟨j,u,rfl,rfl⟩ | ⟨y,u,rfl,rfl⟩
   ·rw [Mq] at h;exact SeqAt.EqAt.str_int x t j u _ _ _ _ h
   ·rw [Mo] at h;exact wpAny_eqBool_str h
 «strs»:=fun k x t v h=>by
  rcases bR h with ⟨i,u,rfl,e⟩ | ⟨y,u,rfl,e⟩
  ·exact nomatch e
  ·injection e with e1 _
   subst e1
   cases v <;> rfl
theorem sH (prog:Program)(w:World)(i:Int)(t:Tok):(aZ prog w).is (.inl i) (.int i t)=true:=ye i t
theorem sI (prog:Program)(w:World)(x:Str)(t:Tok):(aZ prog w).is (.inr x) (.str x t)=true:=yf x t
end L2
namespace L2
open PySem PySem.Spec PyProof.Rows
inductive V where
 | cb | bl (b:Bool) | int (i:Int) | str (x:Str) | byt (b:Array UInt8) | Mr (b:UInt64) | ref (a:Addr) | ty (n:String)
 deriving DecidableEq
def RelV:V→Value→Prop
 | .cb,u=>u=Value.none
 | .bl b,u=>u=Value.bool b
 | .int i,u=>∃t,u=Value.int i t
 | .str x,u=>∃t,u=Value.str x t
 | .byt b,u=>∃t,u=Value.bytes b t
 | .Mr b,u=>∃t,u=Value.float b t
 | .ref a,u=>u=Value.ref a
 | .ty n,u=>u=Value.type n
abbrev Vals:List V→List Value→Prop:=Paired RelV
theorem Vals.length {xs:List V}{us:List Value}(r:Vals xs us):xs.length=us.length:=Paired.length r
theorem Vals.get:∀{xs:List V} {us:List Value} {i:Nat} {x:V},Vals xs us→xs[i]? =some x→∃u,us[i]? =some u∧RelV x u
 | _,_,_,_,.nil,e=>by simp at e
 | _,_,0,_,.cons r _,e=>by simp at e;subst e;exact ⟨_,rfl,r⟩
 | _,_,i+1,x,.cons _ t,e=>by
  obtain ⟨u,h1,h2⟩:=Vals.get (i:=i) (x:=x) t (by simpa using e)
  exact ⟨u,by simpa using h1,h2⟩
theorem Vals.set {x:V}{u:Value}(r:RelV x u):∀{xs:List V} {us:List Value} (i:Nat),Vals xs us→Vals (xs.set i x) (us.set i u)
 | _,_,_,.nil=>.nil
 | _,_,0,.cons _ t=>.cons r t
 | _,_,i+1,.cons q t=>.cons q (Vals.set r i t)
theorem Vals.append:∀{xs ys:List V} {us ws:List Value},Vals xs us→Vals ys ws→Vals (xs++ys) (us++ws)
 | _,_,_,_,.nil,s=>s
 | _,_,_,_,.cons r t,s=>.cons r (Vals.append t s)
theorem Vals.take:∀{xs:List V} {us:List Value} (n:Nat),Vals xs us→Vals (xs.take n) (us.take n)
 | _,_,0,_=>.nil
 | _,_,_+1,.nil=>.nil
 | _,_,n+1,.cons r t=>.cons r (Vals.take n t)
theorem Vals.drop:∀{xs:List V} {us:List Value} (n:Nat),Vals xs us→Vals (xs.drop n) (us.drop n)
 | _,_,0,r=>r
 | _,_,_+1,.nil=>.nil
 | _,_,n+1,.cons _ t=>Vals.drop n t
def f7:Option V→Option Value→Prop
 | some v,some u=>RelV v u
 | none,none=>True
 | _,_=>False
def KV {κ:Type}:List (κ×V)→List (κ×Value)→Prop:=Paired fun (p:κ×V) (q:κ×Value)=>p.1=q.1∧RelV p.2 q.2
def kV:Key→V
 | .inl i=>.int i
 | .inr x=>.str x
inductive HO where
 | lst (xs:List V)
 | tup (xs:List V)
 | dK (kvs:List (Key×V)) | dT (kvs:List (List Key×V))
 | set (S:Int→Bool) (n:Nat)
 | ins (C dx:Addr) (fs:List (Str×V))
 | own (x:Addr)
 | xd (fs:List (Str×V))
 | met (f x:Addr)
 | Xk (lo hi:Int)
 | cf (o:Obj) (u:HO)
 | Ms (ps:Array Value)
 | ext (φ:Heap→Prop)
abbrev Hp:=Addr→Option HO
def upd (H:Hp)(a:Addr)(o:HO):Hp:=fun b=>if b=a then some o else H b
theorem ak {H:Hp}{a:Addr}{o:HO}:upd H a o a=some o:=by unfold upd;rw [if_pos rfl]
theorem ao {H:Hp}{a b:Addr}{o:HO}(h:b≠a):upd H a o b=H b:=by unfold upd;rw [if_neg h]
theorem Pq {H:Hp}{a b:Addr}{o u:HO}(h:H a=some o)(h' :H b=some u)(d:o≠u):a≠b:=by
 intro e;subst e;rw [h] at h';exact d (aff h')
theorem aq {H:Hp}{a b:Addr}{o:HO}(h:H a=some o)(h' :H b=none):a≠b:=by
 intro e;subst e;rw [h] at h';cases h'
section
variable (P:Program)(w:World)
def bS (H:Hp)(h:Heap)(a:Addr):HO→Prop
 | .lst xs=>xs.length≤sizeLine∧∃(its:List Value) (n:Nat),Vals xs its∧h.get? a=some {cls:=.type "list",data:=.seq its.toArray n}
 | .tup xs=>xs.length≤sizeLine∧∃its:List Value,Vals xs its∧IsTup h a its.toArray
 | .dK kvs=>kvs.length≤sizeLine∧(a==sysModules)=false∧∃vs,KV kvs vs∧h.DictOf (aZ P w) a vs
 | .dT kvs=>kvs.length≤sizeLine∧(a==sysModules)=false∧∃xs:List (List Key×Addr×Value),
   Paired (fun (p:List Key×V) (q:List Key×Addr×Value)=>p.1=q.1∧H q.2.1=some (.tup (p.1.map kV))∧RelV p.2 q.2.2) kvs xs∧
   ∃o es ep,h.get? a=some o∧o.ExactDict∧o.data=.dict es ep∧es.toList=xs.map (entryOfKey (tupleKind (aZ P w)))∧(xs.map (·.1)).Nodup
 | .set S n=>h.SetOf (intKind P w) a S n
 | .ins C dx fs=>H dx=some (.own a)∧fs.length≤1000∧dx≠a∧h.get? a=some (PySem.W.instObj C dx)∧
   ∃mA,h.Ns1 dx mA∧(∀f,f7 (fs.lookup f) (mA f))∧PySem.Within mA (fs.map (·.1))
 | .own _=>∃o,h.get? a=some o
 | .xd fs=>∃mA,h.Ns1 a mA∧∀f,f7 (fs.lookup f) (mA f)
 | .Xk lo hi=>∃t u v,h.get? a=some {cls:=.type "range",data:=.fields #[.int lo t,.int hi u,.int 1 v]}
 | .cf o u=>h.get? a=some o∧bS H h a u
 | .Ms ps=>h.get? a=some {cls:=.none,data:=.fields ps}
 | .met f x=>h.get? a=some (PySem.W.methodObj (.ref f) (.ref x))
 | .ext φ=>φ h∧(∃o,h.get? a=some o)∧∀h1 h2:Heap,φ h1→(∀o,h1.get? a=some o→h2.get? a=some o)→φ h2
def h8 (H:Hp)(h:Heap):Prop:=∀a o,H a=some o→bS P w H h a o
end
section
variable {P:Program}{w:World}{H H' :Hp}{h h' :Heap}{a:Addr}{o:HO}
theorem bS.lt (x:bS P w H h a o):a < h.objs.size:=by
 cases o with
 | lst xs=>obtain ⟨_,_,_,_,e⟩:=x;exact Heap.lt_size e
 | tup xs=>obtain ⟨_,_,_,p⟩:=x;exact p.lt
 | dK kvs=>obtain ⟨_,_,_,_,o,_,_,e,_⟩:=x;exact Heap.lt_size e
 | dT kvs=>obtain ⟨_,_,_,_,o,_,_,e,_⟩:=x;exact Heap.lt_size e
 | set S n=>obtain ⟨o,_,_,_,e,_⟩:=x;exact Heap.lt_size e
 | ins C dx fs=>obtain ⟨_,_,_,e,_⟩:=x;exact Heap.lt_size e
 | own y=>obtain ⟨_,e⟩:=x;exact Heap.lt_size e
 | xd fs=>obtain ⟨_,⟨_,_,_,e,_⟩,_⟩:=x;exact Heap.lt_size e
 | Xk lo hi=>obtain ⟨_,_,_,e⟩:=x;exact Heap.lt_size e
 | cf ob u=>obtain ⟨e,_⟩:=x;exact Heap.lt_size e
 | Ms ps=>exact Heap.lt_size (show h.get? a=some _ from x)
 | met f y=>exact Heap.lt_size (show h.get? a=some _ from x)
 | ext φ=>obtain ⟨_,⟨_,e⟩,_⟩:=x;exact Heap.lt_size e
theorem Paired.bq {α β:Type}{F G:α→β→Prop}:∀{l₁:List α} {l₂:List β},Paired F l₁ l₂→(∀a b,F a b→G a b)→Paired G l₁ l₂
 | _,_,.nil,_=>.nil
 | _,_,.cons r t,f=>.cons (f _ _ r) (Paired.bq t f)
theorem bS.lZ (x:bS P w H h a o)(k:∀b u,(b=a∨H b=some (.own a))→h.get? b=some u→h'.get? b=some u)
  (ho:∀b,H b=some (.own a)→H' b=some (.own a)) (ht:∀b xs,H b=some (.tup xs)→H' b=some (.tup xs)):bS P w H' h' a o:=by
 induction o with
 | lst xs=>obtain ⟨z,its,n,r,e⟩:=x;exact ⟨z,its,n,r,k _ _ (.inl rfl) e⟩
 | tup xs=>obtain ⟨z,its,r,ob,e,c⟩:=x;exact ⟨z,its,r,ob,k _ _ (.inl rfl) e,c⟩
 | dK kvs=>obtain ⟨z,y,vs,r,ob,es,ep,e,c⟩:=x;exact ⟨z,y,vs,r,ob,es,ep,k _ _ (.inl rfl) e,c⟩
 | dT kvs=>
  obtain ⟨z,y,xs,r,ob,es,ep,e,c⟩:=x
  exact ⟨z,y,xs,Paired.bq r fun p q z=>⟨z.1,ht _ _ z.2.1,z.2.2⟩,ob,es,ep,k _ _ (.inl rfl) e,c⟩
 | set S n=>obtain ⟨ob,es,ep,t,e,c⟩:=x;exact ⟨ob,es,ep,t,k _ _ (.inl rfl) e,c⟩
 | ins C dx fs=>
  obtain ⟨d,z,ne,e,mA,⟨od,es,ep,e2,c⟩,r⟩:=x
  exact ⟨ho _ d,z,ne,k _ _ (.inl rfl) e,mA,⟨od,es,ep,k _ _ (.inr d) e2,c⟩,r⟩
 | own y=>obtain ⟨ob,e⟩:=x;exact ⟨ob,k _ _ (.inl rfl) e⟩
 | xd fs=>obtain ⟨mA,⟨od,es,ep,e,c⟩,r⟩:=x;exact ⟨mA,⟨od,es,ep,k _ _ (.inl rfl) e,c⟩,r⟩
 | Xk lo hi=>obtain ⟨t,u,v,e⟩:=x;exact ⟨t,u,v,k _ _ (.inl rfl) e⟩
 | cf ob u ih=>obtain ⟨e,q⟩:=x;exact ⟨k _ _ (.inl rfl) e,ih q⟩
 | Ms ps=>
  have e:h.get? a=some {cls:=.none,data:=.fields ps}:=x
  show h'.get? a=some {cls:=.none,data:=.fields ps}
  exact k a _ (.inl rfl) e
 | met f y=>
  have e:h.get? a=some (PySem.W.methodObj (.ref f) (.ref y)):=x
  show h'.get? a=some (PySem.W.methodObj (.ref f) (.ref y))
  exact k a _ (.inl rfl) e
 | ext φ=>obtain ⟨p,⟨o,e⟩,st⟩:=x;exact ⟨st _ _ p fun o q=>k _ _ (.inl rfl) q,⟨o,k _ _ (.inl rfl) e⟩,st⟩
theorem h8.lt (x:h8 P w H h)(e:H a=some o):a < h.objs.size:=(x a o e).lt
theorem h8.fresh (x:h8 P w H h)(e:h.objs.size≤a):H a=none:=by
 cases q:H a with
 | none=>rfl
 | some u=>exact absurd (afc (x.lt q) e) (afQ _)
theorem h8.kept (x:h8 P w H h)(k:∀b u,h.get? b=some u→h'.get? b=some u):h8 P w H h' :=fun a o e=>
 (x a o e).lZ (fun b u _ q=>k b u q) (fun _ q=>q) fun _ _ q=>q
theorem h8.laid (x:h8 P w H h)(k:∀b u,h.get? b=some u→h'.get? b=some u)(hp:h.objs.size≤a)(new:bS P w (upd H a o) h' a o):h8 P w (upd H a o) h' :=fun b u e=>by
 have hn:=x.fresh hp
 by_cases hb:b=a
 ·subst hb;rw [ak] at e;cases e;exact new
 ·rw [ao hb] at e
  exact (x b u e).lZ (fun c v _ q=>k c v q) (fun c q=>by rw [ao (aq q hn)];exact q) fun c xs q=>by rw [ao (aq q hn)];exact q
end
def Rd (H:Hp)(a:Addr)(u:HO):Prop:=H a=some u∨∃o,H a=some (.cf o u)
theorem Rd.of {H:Hp}{a:Addr}{u:HO}(h:H a=some u):Rd H a u:=.inl h
theorem Rd.ok {P:Program}{w:World}{H:Hp}{h:Heap}{a:Addr}{u:HO}(r:Rd H a u)(x:h8 P w H h):bS P w H h a u:=by
 rcases r with r | ⟨o,r⟩
 ·exact x a u r
 ·obtain ⟨_,q⟩:=x a _ r
  exact q
def Pu:Option HO→Prop
 | some (.lst _)=>True
 | some (.dK _)=>True
 | some (.dT _)=>True
 | some (.set _ _)=>True
 | some (.ins _ _ _)=>True
 | some (.ext _)=>True
 | _=>False
section
variable {P:Program}{w:World}{H:Hp}{h h' :Heap}{x e:Addr}{o' :HO}
theorem h8.write (ok:h8 P w H h)(mu:Pu (H x))(he:e=x∨H e=some (.own x))(k:∀b u,b≠e→h.get? b=some u→h'.get? b=some u)(OT:∃u,h'.get? e=some u)
  (new:bS P w (upd H x o') h' x o'):h8 P w (upd H x o') h' :=fun b u q=>by
 have Pw:∀c y,H c=some (.own y)→c≠x:=fun c y r z=>by subst z;rw [r] at mu;exact mu
 have Xl:∀c xs,H c=some (.tup xs)→c≠x:=fun c xs r z=>by subst z;rw [r] at mu;exact mu
 by_cases hb:b=x
 ·subst hb;rw [ak] at q;cases q;exact new
 ·rw [ao hb] at q
  by_cases Mt:b=e
  ·have q' :H b=some (.own x):=by
    rcases he with z | z
    ·exact absurd (Mt.trans z) hb
    ·rw [Mt];exact z
   rw [q] at q';cases q'
   obtain ⟨v,hv⟩:=OT
   exact ⟨v,by rw [Mt];exact hv⟩
  ·refine (ok b u q).lZ (fun c v hc r=>k c v ?_ r) (fun c r=>by rw [ao (Pw c b r)];exact r) fun c xs r=>by rw [ao (Xl c xs r)];exact r
   rcases hc with rfl | hc
   ·exact Mt
   ·rintro rfl
    rcases he with z | z
    ·exact Pw c b hc z
    ·rw [hc] at z;cases z;exact hb rfl
end
structure Un (fs ex:List Addr)(H H' :Hp)(h h' :Heap):Prop where
 keep:∀b o,h.get? b=some o→H b=none→b∉fs→b∉ex→h'.get? b=some o
 slot:∀b o,h.get? b=some o→H b=none→b∈fs→b∉ex→∃sl,h'.get? b=some {o with slots:=sl}
 free:∀b o,h.get? b=some o→H b=none→b∉ex→H' b=none
 there:∀b o,h.get? b=some o→b∉ex→∃o',h'.get? b=some o'
 ow:∀b xs,H b=some (.tup xs)→H' b=some (.tup xs)
 l0:∀b o u,H b=some (.cf o u)→H' b=some (.cf o u)
 oy:∀b ps,H b=some (.Ms ps)→∃more,H' b=some (.Ms (ps++more))
section
variable {fs fs' ex Mu :List Addr}{H H1 H2:Hp}{h h1 h2 h' :Heap}{a x e:Addr}{o:HO}
theorem Un.any (u:Un fs ex H H1 h h1){b:Addr}{ob:Obj}(q:h.get? b=some ob)(n:H b=none)(hx:b∉ex):∃sl,h1.get? b=some {ob with slots:=sl}:=by
 by_cases hb:b∈fs
 ·exact u.slot b ob q n hb hx
 ·exact ⟨ob.slots,u.keep b ob q n hb hx⟩
theorem Un.kept (k:∀b u,h.get? b=some u→h'.get? b=some u):Un fs ex H H h h' :=
 ⟨fun b ob q _ _ _=>k b ob q,fun b ob q _ _ _=>⟨ob.slots,k b ob q⟩,fun _ _ _ n _=>n,fun b ob q _=>⟨ob,k b ob q⟩,fun _ _ q=>q,fun _ _ _ q=>q,fun _ ps q=>⟨#[],by rw [q];simp⟩⟩
theorem Un.refl:Un fs ex H H h h:=Un.kept fun _ _ q=>q
theorem Un.laid (k:∀b u,h.get? b=some u→h'.get? b=some u)(hp:h.objs.size≤a)(hn:H a=none):Un fs ex H (upd H a o) h h' where
 keep:=fun b u q _ _ _=>k b u q
 slot:=fun b u q _ _ _=>⟨u.slots,k b u q⟩
 free:=fun b u q n _=>by rw [ao (afn (afc (Heap.lt_size q) hp))];exact n
 there:=fun b u q _=>⟨u,k b u q⟩
 ow:=fun b xs q=>by rw [ao (aq q hn)];exact q
 l0:=fun b u xs q=>by rw [ao (aq q hn)];exact q
 oy:=fun b ps q=>⟨#[],by rw [ao (aq q hn),q];simp⟩
theorem Un.write (mu:Pu (H x))(he:e=x∨H e=some (.own x))(k:∀b u,b≠e→h.get? b=some u→h'.get? b=some u)(OT:∃u,h'.get? e=some u):Un fs ex H (upd H x o) h h' :=by
 have hx:∀b,H b=none→b≠x:=fun b n z=>by subst z;rw [n] at mu;exact mu
 have hb:∀b,H b=none→b≠e:=fun b n z=>by
  subst z
  rcases he with r | r
  ·exact hx b n r
  ·rw [n] at r;cases r
 have hm:∀b u,H b=some u→¬ Pu (some u)→b≠x:=fun b u q nm z=>by subst z;rw [q] at mu;exact nm mu
 refine ⟨fun b u q n _ _=>k b u (hb b n) q,fun b u q n _ _=>⟨u.slots,k b u (hb b n) q⟩,fun b u q n _=>by rw [ao (hx b n)];exact n,fun b u q _=> ?_,
  fun b xs q=>by rw [ao (hm b _ q fun z=>z)];exact q,fun b u xs q=>by rw [ao (hm b _ q fun z=>z)];exact q,fun b ps q=>⟨#[],by rw [ao (hm b _ q fun z=>z),q];simp⟩⟩
 by_cases Mt:b=e
 ·subst Mt;exact OT
 ·exact ⟨u,k b u Mt q⟩
end
def Wn (h:Heap)(H:Hp):List Addr:=(afz h.objs.size).filter fun a=>(H a).isSome
def qA (h:Heap)(H:Hp):Heap:=PySem.W.hideAll h (Wn h H)
theorem yg (h:Heap)(H:Hp):(qA h H).objs.size=h.objs.size:=PySem.W.hideAll_size _ _
theorem BH {h:Heap}{H:Hp}{b:Addr}{o:Obj}(e:h.get? b=some o)(n:H b=none):(qA h H).get? b=some o:=
 PySem.W.hideAll_get _ e fun hm=>by
  have q:(H b).isSome=true:=(afG.mp hm).2
  rw [n] at q;simp at q
theorem IL {h:Heap}{H:Hp}{b:Addr}{o:Obj}(e:(qA h H).get? b=some o):h.get? b=some o∧H b=none:=by
 have e' :h.get? b=some o:=PySem.W.of_hideAll (Wn h H) e
 refine ⟨e',?_⟩
 cases q:H b with
 | none=>rfl
 | some x=>
  have hm:b∈Wn h H:=afG.mpr ⟨afJ.mpr (Heap.lt_size e'),by simp [q]⟩
  have z:(qA h H).get? b=none:=PySem.W.hideAll_none (Wn h H) hm
  rw [z] at e;cases e
def IM (g h:Heap)(L:Addr):List (Addr×Obj):=(afz h.objs.size).filterMap fun a=>if a=L∨(g.get? a).isSome=true then none else (h.get? a).map fun o=>(a,o)
def rest (g h:Heap)(L d:Addr):List (Addr×Obj):=(IM g h L).filter fun p=>decide (p.1≠d)
end L2
namespace L2
open PySem PySem.Spec PyProof.Rows
structure Mod (K:Frag)(mg:Str→Option Value)(base:Heap):Prop where
 OU:K.In base
 glob:base.Ns mainGlobals mg
 blt:∃mb,base.Ns builtinsNs mb∧∀x:Str,x≠ "__name__"→mb x=bootBuiltins x
 nolimit:base.NoLimit
 seer:base.NoSeer
structure Cx where
 prog:Program
 w:World
 K:Frag
 mg:Str→Option Value
 base:Heap
 A:Around
 N:List Str
 s₀:Shared
 H₀:Hp
 env:Env
 outer:List Env
 stack:List Env
 ex:List Addr
 fn:Str→Bool
 calm:Bool
 pn:List (Addr×Obj)
 xe:Value→Shared→Prop
def u4 (l:List Env):List Addr:=l.filterMap (·.frame)
abbrev Cx.fs (X:Cx):List Addr:=u4 X.outer
def Xm (sc:Scope)(x:Str):Prop:=sc.names.lookup x=some .local∨sc.names.lookup x=some .cell∨sc.names.lookup x=some .free
def Loc (sc:Scope)(x:Str):Prop:=sc.names.lookup x=some .local∨sc.names.lookup x=some .cell
def Look (env:Env)(h:Heap)(m:Str→Option Value)(x:Str)(u:Value):Prop:=
 (env.kindOf x=some .local∧m x=some u)∨((env.kindOf x=some .cell∨env.kindOf x=some .free)∧∃c,env.cells.lookup x=some c∧h.IsCell c (some u))
structure Cx.Ok (X:Cx):Prop where
 mod:Mod X.K X.mg X.base
 kind:X.env.scope.kind=.function
 glob:X.env.globals=mainGlobals
 blt:X.env.builtins=builtinsNs
 above:X.s₀.heap.objs.size≤X.env.locals
 inj:∀x y c,X.env.cells.lookup x=some c→X.env.cells.lookup y=some c→x=y
 has:∀x,(X.env.kindOf x=some .cell∨X.env.kindOf x=some .free)→∃c,X.env.cells.lookup x=some c
 Px:∀x c,X.fn x=true→X.env.cells.lookup x=some c→X.s₀.heap.objs.size≤c
 hd:X.calm=true→X.A.handled=none
 frames:X.A.frames=some X.stack
 Wo:X.stack=X.outer∨(X.stack=X.env::X.outer∧X.env.frame=some X.env.locals)
 exf:∀b∈X.ex,b≠X.env.locals∧∀x c,X.env.cells.lookup x=some c→c≠b
 bs:∀b o,X.base.get? b=some o→X.s₀.heap.get? b=some o∧X.H₀ b=none
 BI:X.base.objs.size≤X.s₀.heap.objs.size
 yh:∀b o,X.base.get? b=some o→b∉X.ex
 IP:∀b∈X.ex,b∉X.fs
 kJ:X.s₀.heap.FunFrames X.base X.outer
 Mv:∀b∈X.fs,X.H₀ b=none
structure Inv (X:Cx)(pins:List (Addr×Obj))(σ:List (Option V))(H:Hp)(s:Shared):Prop where
 ok:X.Ok
 os:s.os=X.s₀.os
 bare:AllBare s.gens
 base:Un X.fs X.ex X.H₀ H X.s₀.heap s.heap
 loc:∃m,s.heap.Ns X.env.locals m∧∀(i:Nat) (x:Str) (v:V),X.N[i]? =some x→σ[i]? =some (some v)→Xm X.env.scope x→∃u,RelV v u∧Look X.env s.heap m x u
 cell:∀x c,X.env.cells.lookup x=some c→∃v,s.heap.IsCell c v
 free:H X.env.locals=none
 fG:∀x c,X.env.cells.lookup x=some c→H c=none
 pin:∀p∈X.pn++pins,s.heap.get? p.1=some p.2∧H p.1=none∧p.1≠X.env.locals∧p.1∉X.fs∧∀v,p.2.data≠.cell v
 bt:h8 X.prog X.w H s.heap
 len:σ.length=X.N.length
section
variable {X:Cx}{pins:List (Addr×Obj)}{σ:List (Option V)}{H H' :Hp}{s:Shared}{h' :Heap}
theorem Cx.Ok.Xn (ok:X.Ok){b:Addr}{o:Obj}(e:X.base.get? b=some o):b∉X.fs:=fun hb=>by
 have:=(ok.kJ.mem hb).1
 rw [e] at this;cases this
theorem Inv.bs (I:Inv X pins σ H s):∀b o,X.base.get? b=some o→s.heap.get? b=some o∧H b=none:=fun b o e=>
 ⟨I.base.keep b o (I.ok.bs b o e).1 (I.ok.bs b o e).2 (I.ok.Xn e) (I.ok.yh b o e),I.base.free b o (I.ok.bs b o e).1 (I.ok.bs b o e).2 (I.ok.yh b o e)⟩
theorem Inv.bk (I:Inv X pins σ H s):∀b o,X.base.get? b=some o→s.heap.get? b=some o:=fun b o e=>(I.bs b o e).1
theorem Inv.mod (I:Inv X pins σ H s):Mod X.K X.mg X.base:=I.ok.mod
theorem Inv.iH (I:Inv X pins σ H s):X.K.In s.heap:=I.ok.mod.OU.keeps I.bk
theorem Inv.nolimit (I:Inv X pins σ H s):s.heap.NoLimit:=I.ok.mod.nolimit.keeps I.bk
theorem Inv.lt (I:Inv X pins σ H s):X.env.locals < s.heap.objs.size:=let ⟨_,hn,_⟩:=I.loc;hn.lt
theorem Inv.sz (I:Inv X pins σ H s):X.s₀.heap.objs.size≤s.heap.objs.size:=aaj I.ok.above (af2 I.lt)
theorem Inv.Xo (I:Inv X pins σ H s){a:Addr}(h:s.heap.objs.size≤a):a∉X.fs:=fun hb=>by
 obtain ⟨_,o,ho,_⟩:=I.ok.kJ.mem hb
 exact absurd (afc (Heap.lt_size ho) (aaj I.sz h)) (afQ _)
theorem Inv.Mw (I:Inv X pins σ H s):∀x c,X.env.cells.lookup x=some c→c≠X.env.locals:=fun x c e z=>by
 obtain ⟨v,o,ho,hd⟩:=I.cell x c e
 obtain ⟨m,⟨o',es,ep,Mx,yi,_⟩,_⟩:=I.loc
 rw [z,Mx] at ho;cases ho;rw [yi] at hd;cases hd
theorem Inv.kJ (I:Inv X pins σ H s):s.heap.FunFrames X.base X.outer:=by
 have all:∀(l:List Env),(∀b∈u4 l,b∈X.fs)→X.s₀.heap.FunFrames X.base l→s.heap.FunFrames X.base l:=by
  intro l
  induction l with
  | nil=>intro _ _;trivial
  | cons env r ih=>
   intro hs hl
   obtain ⟨hk,⟨L,o,hf,hn,ho,hd⟩,hr⟩:=hl
   have hL:L∈X.fs:=hs L (by unfold u4;rw [agD,hf];exact ae')
   obtain ⟨sl,e⟩:=I.base.slot L o ho (I.ok.Mv L hL) hL fun z=>I.ok.IP L z hL
   exact ⟨hk,⟨L,_,hf,hn,e,hd⟩,ih (fun b hb=>hs b (by unfold u4;rw [agD,hf];exact aa_ _ hb)) hr⟩
 exact all X.outer (fun _ hb=>hb) I.ok.kJ
theorem Inv.stack (I:Inv X pins σ H s):s.heap.FunFrames X.base X.stack:=by
 rcases I.ok.Wo with e | ⟨e,hf⟩
 ·rw [e];exact I.kJ
 ·rw [e]
  obtain ⟨m,hn,_⟩:=I.loc
  refine .cons (by rw [I.ok.kind];decide) hf hn ?_ I.kJ
  exact Heap.get?_none_of_le (aaj I.ok.BI I.ok.above)
theorem Inv.qB (I:Inv X pins σ H s):∀b∈u4 X.stack,b∈X.env.locals::X.fs:=fun b hb=>by
 rcases I.ok.Wo with e | ⟨e,hf⟩
 ·rw [e] at hb;exact aa_ _ hb
 ·rw [e] at hb
  unfold u4 at hb
  rw [agD,hf] at hb
  exact hb
theorem Inv.qC (I:Inv X pins σ H s):∀b∈u4 X.stack,H b=none:=fun b hb=>by
 rcases afo.mp (I.qB b hb) with e | hb
 ·rw [e];exact I.free
 ·obtain ⟨_,o,ho,_⟩:=I.ok.kJ.mem hb
  exact I.base.free b o ho (I.ok.Mv b hb) fun z=>I.ok.IP b z hb
theorem Inv.step {g' :Array GenState}{t' :Nat}{d' :Drawn}{ch:List Addr}(I:Inv X pins σ H s)
  (HG:∀b∈ch,(b∈X.ex∨X.s₀.heap.objs.size≤b)∧b≠X.env.locals∧(∀x c,X.env.cells.lookup x=some c→c≠b)∧∀p∈X.pn++pins,p.1≠b)
  (keep:∀b o,b≠X.env.locals→b∉X.fs→b∉ch→s.heap.get? b=some o→H b=none→h'.get? b=some o)
  (slot:∀b o,b≠X.env.locals→b∈X.fs→b∉ch→s.heap.get? b=some o→H b=none→∃sl,h'.get? b=some {o with slots:=sl}) (free:∀b o,b∉ch→s.heap.get? b=some o→H b=none→H' b=none)
  (there:∀b o,b∉ch→s.heap.get? b=some o→∃o',h'.get? b=some o')
  (ow:∀b xs,H b=some (.tup xs)→H' b=some (.tup xs)) (l0:∀b o u,H b=some (.cf o u)→H' b=some (.cf o u)) (oy:∀b ps,H b=some (.Ms ps)→∃more,H' b=some (.Ms (ps++more)))
  (ns:∀m,s.heap.Ns X.env.locals m→h'.Ns X.env.locals m) (bt:h8 X.prog X.w H' h') (hg:AllBare g'):
  Inv X pins σ H' {s with heap:=h',gens:=g',drawn:=d',toks:=t' }:=by
 have OV:∀b o,X.s₀.heap.get? b=some o→b≠X.env.locals:=fun b o e=>afn (afc (Heap.lt_size e) I.ok.above)
 have Wq:∀b o,X.s₀.heap.get? b=some o→b∉X.ex→b∉ch:=fun b o e hx hb=>by
  rcases (HG b hb).1 with z | z
  ·exact hx z
  ·exact absurd (afc (Heap.lt_size e) z) (afQ _)
 have cellK:∀x c,X.env.cells.lookup x=some c→∀v,s.heap.IsCell c v→h'.IsCell c v:=fun x c e v ⟨o,ho,hd⟩=>by
  have Py:c∉ch:=fun z=>(HG c z).2.2.1 x c e rfl
  by_cases hc:c∈X.fs
  ·obtain ⟨sl,q⟩:=slot c o (I.Mw x c e) hc Py ho (I.fG x c e)
   exact ⟨_,q,hd⟩
  ·exact ⟨o,keep c o (I.Mw x c e) hc Py ho (I.fG x c e),hd⟩
 refine ⟨I.ok,I.os,hg,⟨fun b o e n hb hx=> ?_,fun b o e n hb hx=> ?_,fun b o e n hx=> ?_,fun b o e hx=> ?_,fun b xs e=>ow b xs (I.base.ow b xs e),fun b o xs e=>l0 b o xs (I.base.l0 b o xs e),fun b ps e=> ?_⟩,?_,fun x c e=> ?_,?_,fun x c e=> ?_,fun p hp=> ?_,bt,I.len⟩
 ·exact keep b o (OV b o e) hb (Wq b o e hx) (I.base.keep b o e n hb hx) (I.base.free b o e n hx)
 ·obtain ⟨sl,e1⟩:=I.base.slot b o e n hb hx
  obtain ⟨sl',e2⟩:=slot b _ (OV b o e) hb (Wq b o e hx) e1 (I.base.free b o e n hx)
  exact ⟨sl',e2⟩
 ·obtain ⟨o',e1⟩:=I.base.there b o e hx
  exact free b o' (Wq b o e hx) e1 (I.base.free b o e n hx)
 ·obtain ⟨o',e1⟩:=I.base.there b o e hx
  exact there b o' (Wq b o e hx) e1
 ·obtain ⟨m1,e1⟩:=I.base.oy b ps e
  obtain ⟨m2,e2⟩:=oy b _ e1
  exact ⟨m1++m2,by rw [e2,Array.append_assoc]⟩
 ·obtain ⟨m,hn,hl⟩:=I.loc
  refine ⟨m,ns m hn,fun i x v e1 e2 e3=> ?_⟩
  obtain ⟨u,r,l⟩:=hl i x v e1 e2 e3
  refine ⟨u,r,?_⟩
  rcases l with l | ⟨k,c,e,z⟩
  ·exact .inl l
  ·exact .inr ⟨k,c,e,cellK x c e _ z⟩
 ·obtain ⟨v,z⟩:=I.cell x c e
  exact ⟨v,cellK x c e v z⟩
 ·obtain ⟨m,⟨o,_,_,ho,_⟩,_⟩:=I.loc
  exact free _ o (fun z=>(HG _ z).2.1 rfl) ho I.free
 ·obtain ⟨v,o,ho,hd⟩:=I.cell x c e
  exact free c o (fun z=>(HG c z).2.2.1 x c e rfl) ho (I.fG x c e)
 ·obtain ⟨e,n,ne,nf,d⟩:=I.pin p hp
  have Py:p.1∉ch:=fun z=>(HG p.1 z).2.2.2 p hp rfl
  exact ⟨keep p.1 p.2 ne nf Py e n,free p.1 p.2 Py e n,ne,nf,d⟩
theorem Inv.un {t' :Nat}(I:Inv X pins σ H s)(u:Un X.fs [] H H' s.heap h')(bt:h8 X.prog X.w H' h'):Inv X pins σ H' {s with heap:=h',toks:=t' }:=by
 obtain ⟨m,⟨o,es,ep,ho,r⟩,_⟩:=id I.loc
 obtain ⟨sl,hL⟩:=u.any ho I.free (by simp)
 exact I.step (g' :=s.gens) (d' :=s.drawn) (ch:=[]) (fun _ z=>nomatch z) (fun b o _ hb _ e n=>u.keep b o e n hb (by simp)) (fun b o _ hb _ e n=>u.slot b o e n hb (by simp)) (fun b o _ e n=>u.free b o e n (by simp)) (fun b o _ e=>u.there b o e (by simp)) u.ow u.l0 u.oy (fun m' hm=>by
  obtain ⟨o',Xp,sJ,Mx,r'⟩:=hm
  rw [ho] at Mx;cases Mx
  exact ⟨_,Xp,sJ,hL,r'⟩) bt I.bare
theorem Inv.call {g' :Array GenState}{t' :Nat}{d' :Drawn}{ch:List Addr}(I:Inv X pins σ H s)(u:Un (u4 X.stack) ch H H' s.heap h')(bt:h8 X.prog X.w H' h')(hg:AllBare g')
  (HG:∀b∈ch,(b∈X.ex∨X.s₀.heap.objs.size≤b)∧b≠X.env.locals∧(∀x c,X.env.cells.lookup x=some c→c≠b)∧∀p∈X.pn++pins,p.1≠b):
  Inv X pins σ H' {s with heap:=h',gens:=g',drawn:=d',toks:=t' }:=by
 obtain ⟨m,⟨o,es,ep,ho,r⟩,_⟩:=id I.loc
 obtain ⟨sl,hL⟩:=u.any ho I.free fun z=>(HG _ z).2.1 rfl
 exact I.step (ch:=ch) HG (fun b o hL hb hc e n=>u.keep b o e n (fun z=>(afo.mp (I.qB b z)).elim hL hb) hc) (fun b o _ _ hc e n=>u.any e n hc) (fun b o hc e n=>u.free b o e n hc) (fun b o hc e=>u.there b o e hc) u.ow u.l0 u.oy (fun m' hm=>by
  obtain ⟨o',Xp,sJ,Mx,r'⟩:=hm
  rw [ho] at Mx;cases Mx
  exact ⟨_,Xp,sJ,hL,r'⟩) bt hg
theorem Inv.turned {t' :Nat}{it:Addr}(I:Inv X pins σ H s)(k:∀b o,b≠it→s.heap.get? b=some o→h'.get? b=some o)(hn:H it=none)(hL:it≠X.env.locals)
  (h1:it∈X.ex∨X.s₀.heap.objs.size≤it) (h2:∀x c,X.env.cells.lookup x=some c→c≠it) (h3:∀p∈X.pn++pins,p.1≠it):Inv X pins σ H {s with heap:=h',toks:=t' }:=by
 have KQ:∀b u,H b=some u→b≠it:=fun b u e z=>by rw [z,hn] at e;cases e
 refine I.step (g' :=s.gens) (d' :=s.drawn) (ch:=[it]) (fun b hb=> ?_) (fun b o _ _ hc e _=>k b o (fun z=>hc (by simp [z])) e) (fun b o _ _ hc e _=>⟨o.slots,k b o (fun z=>hc (by simp [z])) e⟩) (fun _ _ _ _ n=>n)
  (fun b o hc e=>⟨o,k b o (fun z=>hc (by simp [z])) e⟩) (fun _ _ e=>e) (fun _ _ _ e=>e) (fun b ps e=>⟨#[],by rw [e];simp⟩) (fun m hm=> ?_) (fun b u e=> ?_) I.bare
 ·have e:b=it:=by simpa using hb
  subst e
  exact ⟨h1,hL,h2,h3⟩
 ·obtain ⟨o,es,ep,ho,r⟩:=hm
  exact ⟨o,es,ep,k _ o (afk hL) ho,r⟩
 ·refine (I.bt b u e).lZ (fun c v hc q=>k c v ?_ q) (fun _ q=>q) fun _ _ q=>q
  rcases hc with z | z
  ·rw [z];exact KQ b u e
  ·exact KQ c _ z
theorem Inv.tok (I:Inv X pins σ H s)(t:Nat):Inv X pins σ H {s with toks:=t}:=I.un (h' :=s.heap) (t' :=t) Un.refl I.bt
theorem Inv.kept {t' :Nat}(I:Inv X pins σ H s)(k:∀b u,s.heap.get? b=some u→h'.get? b=some u):Inv X pins σ H {s with heap:=h',toks:=t' }:=I.un (Un.kept k) (I.bt.kept k)
theorem Inv.laid {a:Addr}{o:HO}{t' :Nat}(I:Inv X pins σ H s)(k:∀b u,s.heap.get? b=some u→h'.get? b=some u)(hp:s.heap.objs.size≤a)(new:bS X.prog X.w (upd H a o) h' a o):
  Inv X pins σ (upd H a o) {s with heap:=h',toks:=t' }:=I.un (Un.laid k hp (I.bt.fresh hp)) (I.bt.laid k hp new)
theorem Inv.write {x e:Addr}{o:HO}{t' :Nat}(I:Inv X pins σ H s)(mu:Pu (H x))(he:e=x∨H e=some (.own x))(k:∀b u,b≠e→s.heap.get? b=some u→h'.get? b=some u)(OT:∃u,h'.get? e=some u)
  (new:bS X.prog X.w (upd H x o) h' x o):Inv X pins σ (upd H x o) {s with heap:=h',toks:=t' }:=I.un (Un.write mu he k OT) (I.bt.write mu he k OT new)
theorem Inv.wB {wC :List (Addr×Obj)}(I:Inv X pins σ H s)(h:∀p∈wC,s.heap.get? p.1=some p.2∧H p.1=none∧p.1≠X.env.locals∧p.1∉X.fs∧∀v,p.2.data≠.cell v):Inv X wC σ H s:=
 ⟨I.ok,I.os,I.bare,I.base,I.loc,I.cell,I.free,I.fG,fun p hp=>(afg.mp hp).elim (fun z=>I.pin p (afr _ z)) (h p),I.bt,I.len⟩
theorem cH {N:List Str}(hN:N.Nodup){i j:Nat}{x:Str}(a:N[i]? =some x)(b:N[j]? =some x):i=j:=by
 obtain ⟨h1,e1⟩:=be.mp a
 obtain ⟨h2,e2⟩:=be.mp b
 exact (an3 hN).mp (e1.trans e2.symm)
theorem jH {M:Model}{A:Around}{E:Value→Shared→Prop}{i:Nat}{x:Str}{v:V}{u:Value}{Q:Unit→Shared→Prop}(I:Inv X pins σ H s)(hN:X.N.Nodup)(hi:X.N[i]? =some x)(hx:Loc X.env.scope x)(r:RelV v u)
  (h:∀s',Inv X pins (σ.set i (some v)) H s' →(∃a,Heap.SameBut a s.heap s'.heap∧(a=X.env.locals∨X.env.cells.lookup x=some a))→Q () s') (hf:X.fn x=true∨X.env.scope.names.lookup x=some .local:=by first | exact .inl rfl | exact .inr rfl | assumption):wpAny M A (storeName X.env x u) Q E s:=by
 obtain ⟨m,hn,hl⟩:=id I.loc
 have Xq:(X.env.scope.kind==.class || (X.env.scope.kind==.module && X.env.locals !=X.env.globals))=false:=by rw [I.ok.kind];rfl
 have hiσ:i < σ.length:=by rw [I.len];exact (be.mp hi).1
 have Mw:=I.Mw
 have tracked:∀{a:Addr} {h' :Heap},(∃o,s.heap.get? a=some o∧H a=none)→Heap.SameBut a s.heap h' →h8 X.prog X.w H h' :=fun {a h'} ha hs b ob e=>by
  obtain ⟨_,_,KR⟩:=ha
  refine (I.bt b ob e).lZ (fun c w' hc q=>(hs.2 c ?_).trans q) (fun _ q=>q) fun _ _ q=>q
  rintro rfl
  rcases hc with rfl | hc
  ·rw [KR] at e;cases e
  ·rw [KR] at hc;cases hc
 rcases hx with hk | hk
 ·refine wpAny_storeName_local hk hn (fun h' IQ hs=> ?_) Xq
  obtain ⟨oL,_,_,hoL,_⟩:=id hn
  refine h _ ⟨I.ok,I.os,I.bare,⟨fun b o e n hb hx=> ?_,fun b o e n hb hx=> ?_,I.base.free,fun b o e hx=> ?_,I.base.ow,I.base.l0,I.base.oy⟩,⟨_,IQ,fun j y v' e1 e2 e3=> ?_⟩,fun y c e=> ?_,I.free,I.fG,fun p hp=> ?_,tracked ⟨oL,hoL,I.free⟩ hs,by simpa using I.len⟩ ⟨_,hs,.inl rfl⟩
  ·exact (hs.2 b (afn (afc (Heap.lt_size e) I.ok.above))).trans (I.base.keep b o e n hb hx)
  ·obtain ⟨sl,e1⟩:=I.base.slot b o e n hb hx
   exact ⟨sl,(hs.2 b (afn (afc (Heap.lt_size e) I.ok.above))).trans e1⟩
  ·obtain ⟨o',e1⟩:=I.base.there b o e hx
   exact ⟨o',(hs.2 b (afn (afc (Heap.lt_size e) I.ok.above))).trans e1⟩
  ·by_cases hj:j=i
   ·subst hj
    rw [hi] at e1;cases e1
    rw [al_ hiσ] at e2
    cases e2
    exact ⟨u,r,.inl ⟨hk,by simp⟩⟩
   ·rw [agA (afk hj)] at e2
    obtain ⟨u',r',q⟩:=hl j y v' e1 e2 e3
    refine ⟨u',r',?_⟩
    rcases q with ⟨k,e⟩ | ⟨k,c,e,z⟩
    ·refine .inl ⟨k,?_⟩
     have:y≠x:=fun e=>hj (cH hN e1 (e▸hi))
     simp [this,e]
    ·exact .inr ⟨k,c,e,z.sameBut hs (Mw y c e)⟩
  ·obtain ⟨w',z⟩:=I.cell y c e
   exact ⟨w',z.sameBut hs (Mw y c e)⟩
  ·obtain ⟨e,n,ne,nf,d⟩:=I.pin p hp
   exact ⟨(hs.2 p.1 ne).trans e,n,ne,nf,d⟩
 ·have Pz:X.fn x=true:=by
   rcases hf with z | z
   ·exact z
   ·rw [z] at hk;cases hk
  obtain ⟨c,hc⟩:=I.ok.has x (.inl hk)
  obtain ⟨w',z⟩:=I.cell x c hc
  refine wpAny_storeName_cell I.ok.kind hk hc z (fun h' uY hs=> ?_)
  obtain ⟨oc,hoc,Xr⟩:=id z
  refine h {s with heap:=h' } ⟨I.ok,I.os,I.bare,⟨fun b o e n hb hx=> ?_,fun b o e n hb hx=> ?_,I.base.free,fun b o e hx=> ?_,I.base.ow,I.base.l0,I.base.oy⟩,⟨m,hn.sameBut hs (afk (Mw x c hc)),fun j y v' e1 e2 e3=> ?_⟩,fun y c' e=> ?_,I.free,I.fG,fun p hp=> ?_,tracked ⟨oc,hoc,I.fG x c hc⟩ hs,by simpa using I.len⟩ ⟨c,hs,.inr hc⟩
  ·exact (hs.2 b (afn (afc (Heap.lt_size e) (I.ok.Px x c Pz hc)))).trans (I.base.keep b o e n hb hx)
  ·obtain ⟨sl,e1⟩:=I.base.slot b o e n hb hx
   exact ⟨sl,(hs.2 b (afn (afc (Heap.lt_size e) (I.ok.Px x c Pz hc)))).trans e1⟩
  ·obtain ⟨o',e1⟩:=I.base.there b o e hx
   exact ⟨o',(hs.2 b (afn (afc (Heap.lt_size e) (I.ok.Px x c Pz hc)))).trans e1⟩
  ·by_cases hj:j=i
   ·subst hj
    rw [hi] at e1;cases e1
    rw [al_ hiσ] at e2
    cases e2
    exact ⟨u,r,.inr ⟨.inl hk,c,hc,uY⟩⟩
   ·rw [agA (afk hj)] at e2
    obtain ⟨u',r',q⟩:=hl j y v' e1 e2 e3
    refine ⟨u',r',?_⟩
    rcases q with q | ⟨k,c',e,z'⟩
    ·exact .inl q
    ·refine .inr ⟨k,c',e,z'.sameBut hs ?_⟩
     rintro rfl
     exact hj (cH hN e1 (I.ok.inj _ _ _ e hc▸hi))
  ·by_cases hcc:c' =c
   ·subst hcc;exact ⟨_,uY⟩
   ·obtain ⟨w2,z2⟩:=I.cell y c' e
    exact ⟨w2,z2.sameBut hs hcc⟩
  ·obtain ⟨e,n,ne,nf,d⟩:=I.pin p hp
   refine ⟨(hs.2 p.1 ?_).trans e,n,ne,nf,d⟩
   intro q
   rw [q,hoc] at e
   have q' :oc=p.2:=aff e
   exact d w' (by rw [← q'];exact Xr)
theorem iX {M:Model}{A:Around}{E:Value→Shared→Prop}{i:Nat}{x:Str}{v:V}{u:Value}{Q:Unit→Shared→Prop}(I:Inv X pins σ H s)(hN:X.N.Nodup)(hi:X.N[i]? =some x)(hx:Loc X.env.scope x)(r:RelV v u)
  (h:∀s',Inv X pins (σ.set i (some v)) H s' →Q () s') (hf:X.fn x=true∨X.env.scope.names.lookup x=some .local:=by first | exact .inl rfl | exact .inr rfl | assumption):wpAny M A (storeName X.env x u) Q E s:=
 jH I hN hi hx r (fun s' I' _=>h s' I') hf
theorem Inv.KS {s' :Shared}{ch:List Addr}(I:Inv X pins σ H s)(ho:s'.os=s.os)(u:Un (u4 X.stack) ch H H' s.heap s'.heap)(bt:h8 X.prog X.w H' s'.heap)(hg:AllBare s'.gens)
  (HG:∀b∈ch,(b∈X.ex∨X.s₀.heap.objs.size≤b)∧b≠X.env.locals∧(∀x c,X.env.cells.lookup x=some c→c≠b)∧∀p∈X.pn++pins,p.1≠b):Inv X pins σ H' s' :=by
 obtain ⟨h',g',d',t',o'⟩:=s'
 have e:o' =s.os:=ho
 subst e
 exact I.call (g' :=g') (t' :=t') (d' :=d') u bt hg HG
end
abbrev XK:=Value→Option Addr→Hp→Prop
abbrev St:=List (Option V)
abbrev VK:=V→Hp→Prop
abbrev TE:=St→Hp→VK→Prop
abbrev TT:=St→Hp→(Bool→Hp→Prop)→Prop
abbrev TA:=St→Hp→(List V→Hp→Prop)→Prop
structure Ends where
 nx:St→Hp→Prop
 rt:VK
 bk:St→Hp→Prop:=fun _ _=>False
 ct:St→Hp→Prop:=fun _ _=>False
abbrev TS:=Ends→St→Hp→Prop
def EP (X:Cx)(pins:List (Addr×Obj))(σ:St)(Q:VK)(u:Value)(s' :Shared):Prop:=∃v H',Inv X pins σ H' s' ∧RelV v u∧Q v H'
def TP (X:Cx)(pins:List (Addr×Obj))(σ:St)(Q:Bool→Hp→Prop)(b:Bool)(s' :Shared):Prop:=∃H',Inv X pins σ H' s' ∧Q b H'
def AP (X:Cx)(pins:List (Addr×Obj))(σ:St)(Q:List V→Hp→Prop)(us:List Value)(s' :Shared):Prop:=∃vs H',Inv X pins σ H' s' ∧Vals vs us∧Q vs H'
def SP (X:Cx)(pins:List (Addr×Obj))(D:Ends)(f:Flow)(s' :Shared):Prop:=
 match f with
 | .next=>∃σ' H',Inv X pins σ' H' s' ∧D.nx σ' H'
 | .brk=>∃σ' H',Inv X pins σ' H' s' ∧D.bk σ' H'
 | .cont=>∃σ' H',Inv X pins σ' H' s' ∧D.ct σ' H'
 | .ret u=>∃v σ' H',Inv X pins σ' H' s' ∧RelV v u∧D.rt v H'
def PE (X:Cx)(e:Expr)(t:TE):Prop:=
 ∀(pins:List (Addr×Obj)) (s:Shared) (σ:St) (H:Hp) (Q:VK),Inv X pins σ H s→t σ H Q→wpAny (model X.prog X.w) X.A (eval e X.env) (EP X pins σ Q) X.xe s
def PT (X:Cx)(e:Expr)(t:TT):Prop:=
 ∀(pins:List (Addr×Obj)) (s:Shared) (σ:St) (H:Hp) (Q:Bool→Hp→Prop),Inv X pins σ H s→t σ H Q→wpAny (model X.prog X.w) X.A (isTrue e X.env (eval e X.env)) (TP X pins σ Q) X.xe s
def PW (X:Cx)(e:Expr)(t:TT):Prop:=
 ∀(whole:Sem Value) (pins:List (Addr×Obj)) (s:Shared) (σ:St) (H:Hp) (Q:Bool→Hp→Prop),Inv X pins σ H s→t σ H Q→wpAny (model X.prog X.w) X.A (isTrue e X.env whole) (TP X pins σ Q) X.xe s
theorem PW.pt {X:Cx}{e:Expr}{t:TT}(h:PW X e t):PT X e t:=h _
def PA (X:Cx)(es:List Expr)(t:TA):Prop:=
 ∀(pos:Pos) (pins:List (Addr×Obj)) (s:Shared) (σ:St) (H:Hp) (Q:List V→Hp→Prop),Inv X pins σ H s→t σ H Q→wpAny (model X.prog X.w) X.A (spliced (backTo pos (starEach es X.env))) (AP X pins σ Q) X.xe s
def PS (X:Cx)(st:Stmt)(t:TS):Prop:=
 ∀(pins:List (Addr×Obj)) (s:Shared) (σ:St) (H:Hp) (D:Ends),Inv X pins σ H s→t D σ H→wpAny (model X.prog X.w) X.A (exec st X.env) (SP X pins D) X.xe s
def PSs (X:Cx)(st:List Stmt)(t:TS):Prop:=
 ∀(pins:List (Addr×Obj)) (s:Shared) (σ:St) (H:Hp) (D:Ends),Inv X pins σ H s→t D σ H→wpAny (model X.prog X.w) X.A (execs st X.env) (SP X pins D) X.xe s
theorem bV {α:Type}{t:Sem α}{Q Q' :α→Shared→Prop}{M:Model}{A:Around}{E:Value→Shared→Prop}{s:Shared}(h:wpAny M A t Q E s)(hQ:∀a s,Q a s→Q' a s):wpAny M A t Q' E s:=wpAny_mono h hQ fun _ _ x=>x
end L2
namespace L2
open PySem PySem.Spec PyProof.Rows
section
variable {X:Cx}
inductive IS (i:Nat)(σ:St)(H:Hp)(Q:VK):Prop where
 | mk (v:_) (_:σ[i]? =some (some v)) (_:Q v H):IS i σ H Q
def tC (v:V):TE:=fun _ H Q=>Q v H
theorem My {i:Nat}{x:Str}{pos:Pos}(hN:X.N[i]? =some x)(hv:Xm X.env.scope x)(hd:(x==("__debug__":Str))=false:=by decide)(oz:(x==("__classdict__":Str))=false:=by decide):PE X (.Name x pos) (IS i):=by
 intro pins s σ H Q I h
 obtain ⟨v,e,h⟩:=h
 obtain ⟨m,hn,hl⟩:=I.loc
 obtain ⟨u,r,l⟩:=hl i x v hN e hv
 have fin:EP X pins σ Q u s:=⟨v,H,I,r,h⟩
 rcases l with ⟨hk,hm⟩ | ⟨hk,c,hc,hcell⟩
 ·exact wpAny_Name (wpAny_loadName_local I.ok.kind hk hn hm fin) hd
 ·rcases hk with hk | hk
  ·exact wpAny_Name (wpAny_loadName_cell I.ok.kind hk hc hcell fin) hd
  ·exact wpAny_Name (wpAny_loadName_free I.ok.kind hk hc hcell fin oz) hd
theorem ah {i j pos}:PE X (.Constant (.int i) j pos) (tC (.int i)):=fun _ _ _ H _ I h=>wpAny_Constant_int ⟨.int i,H,I.tok _,⟨_,rfl⟩,h⟩
theorem cI {b j pos}:PE X (.Constant (.bool b) j pos) (tC (.bl b)):=fun _ _ _ H _ I h=>Constant_bool ⟨.bl b,H,I,rfl,h⟩
theorem l_ {j pos}:PE X (.Constant .none j pos) (tC .cb):=fun _ _ _ H _ I h=>Constant_none ⟨.cb,H,I,rfl,h⟩
theorem ft {x j pos}:PE X (.Constant (.str x) j pos) (tC (.str x)):=fun _ _ _ H _ I h=>Calls.Constant_str ⟨.str x,H,I.tok _,⟨_,rfl⟩,h⟩
def Gl (X:Cx)(x:Str):Prop:=X.env.kindOf x=some .globalImplicit
theorem iY {E:Value→Shared→Prop}{pins:List (Addr×Obj)}{s:Shared}{σ:St}{H:Hp}{x:Str}{u:Value}{pos:Pos}{Q:Value→Shared→Prop}(I:Inv X pins σ H s)(hg:Gl X x)(hm:X.mg x=some u)(h:Q u s)
  (hd:(x==("__debug__":Str))=false:=by decide):wpAny (model X.prog X.w) X.A (eval (.Name x pos) X.env) Q E s:=
 Calls.Name_function_global I.ok.kind hg (Calls.loadGlobal_global (by rw [I.ok.glob];exact I.mod.glob.keeps I.bk) hm h) hd
theorem gD {E:Value→Shared→Prop}{pins:List (Addr×Obj)}{s:Shared}{σ:St}{H:Hp}{x:Str}{u:Value}{pos:Pos}{Q:Value→Shared→Prop}(I:Inv X pins σ H s)(hg:Gl X x)(hm:X.mg x=none)(hv:bootBuiltins x=some u)(h:Q u s)
  (hn:x≠ "__name__":=by decide) (hd:(x==("__debug__":Str))=false:=by decide):wpAny (model X.prog X.w) X.A (eval (.Name x pos) X.env) Q E s:=by
 obtain ⟨mb,h1,h2⟩:=I.mod.blt
 exact Calls.Name_function_global I.ok.kind hg (Calls.loadGlobal_builtin (by rw [I.ok.glob];exact I.mod.glob.keeps I.bk) hm (by rw [I.ok.blt];exact h1.keeps I.bk) ((h2 x hn).trans hv) h) hd
theorem iZ {x:Str}{v:V}{u:Value}{pos:Pos}(hg:Gl X x)(hm:X.mg x=some u)(r:RelV v u)(hd:(x==("__debug__":Str))=false:=by decide):PE X (.Name x pos) (tC v):=
 fun _ _ _ H _ I h=>iY I hg hm ⟨v,H,I,r,h⟩ hd
theorem IT {x:Str}{v:V}{u:Value}{pos:Pos}(hg:Gl X x)(hm:X.mg x=none)(hv:bootBuiltins x=some u)(r:RelV v u)(hn:x≠ "__name__":=by decide)(hd:(x==("__debug__":Str))=false:=by decide):PE X (.Name x pos) (tC v):=
 fun _ _ _ H _ I h=>gD I hg hm hv ⟨v,H,I,r,h⟩ hn hd
variable {a b:Expr}{ta tb:TE}{pos:Pos}
def PC (X:Cx)(op:CmpOp)(a b:Expr)(t:TE):Prop:=
 ∀(pins:List (Addr×Obj)) (s:Shared) (σ:St) (H:Hp) (Q:VK),Inv X pins σ H s→t σ H Q→
  wpAny (model X.prog X.w) X.A (eval a X.env) (fun v s₁=>wpAny (model X.prog X.w) X.A (eval b X.env) (fun u s₂=>wpAny (model X.prog X.w) X.A (compareOp op v u) (EP X pins σ Q) X.xe s₂) X.xe s₁) X.xe s
inductive tB_ (Q:(Bool→Hp→Prop))(x:V)(H1:Hp):Prop where
 | mk (c:_) (_:x=.bl c) (_:Q c H1):tB_ Q x H1
def tB (t:TE):TT:=fun σ H Q=>t σ H fun x H1=>tB_ Q x H1
theorem f9 {op:CmpOp}{t:TE}(h:PC X op a b t)(h1:behindInMarks op b=false:=by first | exact nobehind _ (by decide) (by decide) | rfl):PT X (.Compare a [op] [b] pos) (tB t):=by
 intro pins s σ H Q I hw
 refine wpAny_isTrue_Compare1 (bV (h pins s σ H _ I hw) fun v s1 h1=>bV h1 fun u s2 h2=>bV h2 fun c s3 ⟨x,H1,I1,r1,q1⟩=> ?_) h1
 obtain ⟨d,rfl,q⟩:=q1
 cases r1
 exact wpAny_truthy_bool ⟨H1,I1,q⟩
theorem cn {e:Expr}{t:TE}(h:PE X e t)(he:∀whole,isTrue e X.env whole=(do let v ← whole;standAt e.pos;holding [v] (truthy v)):=by intro _;rfl):PT X e (tB t):=by
 intro pins s σ H Q I hw
 refine isTrue_plain (bV (h pins s σ H _ I hw) fun v s1 ⟨x,H1,I1,r1,q1⟩=> ?_) (he _)
 obtain ⟨d,rfl,q⟩:=q1
 cases r1
 exact wpAny_truthy_bool ⟨H1,I1,q⟩
variable {tA Wr :TT}{rest:List Expr}
def Xs (t u:TT):TT:=fun σ H Q=>t σ H fun c H1=>if c=true then u σ H1 Q else Q false H1
def tOr (t u:TT):TT:=fun σ H Q=>t σ H fun c H1=>if c=true then Q true H1 else u σ H1 Q
def Xt (t:TT):TT:=fun σ H Q=>t σ H fun c H1=>Q (!c) H1
theorem qD (ha:PT X a tA):PW X (.BoolOp .And [a] pos) tA:=by
 intro wh pins s σ H Q I h
 refine isTrue_and (bV (ha pins s σ H Q I h) fun c s1 e=> ?_)
 cases c with
 | true=>exact isTrue_and_nil e
 | false=>exact e
theorem fu (ha:PT X a tA):PW X (.BoolOp .Or [a] pos) tA:=by
 intro wh pins s σ H Q I h
 refine isTrue_or (bV (ha pins s σ H Q I h) fun c s1 e=> ?_)
 cases c with
 | false=>exact isTrue_or_nil e
 | true=>exact e
theorem u5 (ha:PT X a tA)(hb:PW X (.BoolOp .And (b::rest) pos) Wr):PW X (.BoolOp .And (a::b::rest) pos) (Xs tA Wr):=by
 intro wh pins s σ H Q I h
 refine isTrue_and (bV (ha pins s σ H _ I h) fun c s1 ⟨H1,I1,q1⟩=> ?_)
 cases c with
 | true=>exact hb wh pins s1 σ H1 Q I1 q1
 | false=>exact ⟨H1,I1,q1⟩
theorem gF (ha:PT X a tA)(hb:PW X (.BoolOp .Or (b::rest) pos) Wr):PW X (.BoolOp .Or (a::b::rest) pos) (tOr tA Wr):=by
 intro wh pins s σ H Q I h
 refine isTrue_or (bV (ha pins s σ H _ I h) fun c s1 ⟨H1,I1,q1⟩=> ?_)
 cases c with
 | true=>exact ⟨H1,I1,q1⟩
 | false=>exact hb wh pins s1 σ H1 Q I1 q1
theorem c7 (ha:PT X a tA):PT X (.UnaryOp .Not a pos) (Xt tA):=by
 intro pins s σ H Q I h
 exact isTrue_not (ha pins s σ H (fun c H1=>Q (!c) H1) I h)
def PD (ta tb:TE):TE:=fun σ H Q=>ta σ H fun x H1=>∃c,x=.bl c∧if c=true then tb σ H1 Q else Q (.bl false) H1
theorem BJ {op}{t:TE}(h:PE X a t):PE X (.BoolOp op [a] pos) t:=fun pins s σ H Q I hw=>BoolOp_one (h pins s σ H Q I hw)
theorem BK (ha:PE X a ta)(hb:PE X (.BoolOp .And (b::rest) pos) tb):PE X (.BoolOp .And (a::b::rest) pos) (PD ta tb):=by
 intro pins s σ H Q I h
 refine BoolOp_and (bV (ha pins s σ H _ I h) fun v s1 ⟨x,H1,I1,r1,q1⟩=> ?_)
 obtain ⟨c,rfl,q1⟩:=q1
 cases r1
 refine wpAny_truthy_bool ?_
 cases c with
 | true=>exact hb pins s1 σ H1 Q I1 q1
 | false=>exact ⟨.bl false,H1,I1,rfl,q1⟩
def tIf (t:TT)(ta tb:TE):TE:=fun σ H Q=>t σ H fun c H1=>if c=true then ta σ H1 Q else tb σ H1 Q
theorem sL {c:Expr}(hc:PT X c tA)(ha:PE X a ta)(hb:PE X b tb):PE X (.IfExp c a b pos) (tIf tA ta tb):=by
 intro pins s σ H Q I h
 refine wpAny_IfExp (bV (hc pins s σ H _ I h) fun d s1 ⟨H1,I1,q1⟩=> ?_)
 cases d with
 | true=>exact ha pins s1 σ H1 Q I1 q1
 | false=>exact hb pins s1 σ H1 Q I1 q1
end
end L2
namespace L2
open PySem PySem.Spec PyProof.Rows
def ba (K:Frag)(H:Hp)(a:Addr)(xs:List V):Prop:=
 Rd H a (.lst xs)∨
  ∃(o:Obj) (its:Array Value) (n:Nat),K.lookup a=some o∧o.cls=.type "list"∧o.dict=none∧o.data=.seq its n∧its.size≤sizeLine∧Vals xs its.toList
def bK (K:Frag)(H:Hp)(a:Addr)(xs:List V):Prop:=
 Rd H a (.tup xs)∨
  ∃(o:Obj) (its:Array Value) (n:Nat),K.lookup a=some o∧o.cls=.type "tuple"∧o.data=.seq its n∧its.size≤sizeLine∧Vals xs its.toList
def Xu:Value→Option V
 | .none=>some .cb
 | .bool b=>some (.bl b)
 | .int i _=>some (.int i)
 | .str x _=>some (.str x)
 | .bytes b _=>some (.byt b)
 | .float b _=>some (.Mr b)
 | .ref a=>some (.ref a)
 | .type n=>some (.ty n)
 | _=>none
theorem RelV.abs {x:V}{u:Value}(r:RelV x u):Xu u=some x:=by
 cases x with
 | cb=>cases r;rfl
 | bl _=>cases r;rfl
 | int _=>obtain ⟨t,rfl⟩:=r;rfl
 | str _=>obtain ⟨t,rfl⟩:=r;rfl
 | byt _=>obtain ⟨t,rfl⟩:=r;rfl
 | Mr _=>obtain ⟨t,rfl⟩:=r;rfl
 | ref _=>cases r;rfl
 | ty _=>cases r;rfl
theorem RelV.inj {x y:V}{u:Value}(r:RelV x u)(q:RelV y u):x=y:=aff (r.abs.symm.trans q.abs)
theorem Vals.inj:∀{xs ys:List V} {us:List Value},Vals xs us→Vals ys us→xs=ys
 | _,_,_,.nil,.nil=>rfl
 | _,_,_,.cons r t,.cons r' t' =>by rw [r.inj r',Vals.inj t t']
section
variable {X:Cx}{pins:List (Addr×Obj)}{σ:St}{H:Hp}{s:Shared}{a:Addr}{xs ys:List V}
theorem ba.of {K:Frag}(h:H a=some (.lst xs)):ba K H a xs:=.inl (.inl h)
theorem bK.of {K:Frag}(h:H a=some (.tup xs)):bK K H a xs:=.inl (.inl h)
theorem Inv.list (I:Inv X pins σ H s)(h:ba X.K H a xs):∃its:List Value,Vals xs its∧PlainL s.heap a its.toArray∧xs.length≤sizeLine:=by
 rcases h with h | ⟨o,its,n,hk,hc,hd,hs,hz,r⟩
 ·obtain ⟨z,its,n,r,e⟩:=h.ok I.bt
  exact ⟨its,r,⟨_,n,e,rfl,rfl,rfl⟩,z⟩
 ·refine ⟨its.toList,r,⟨o,n,I.iH a o hk,hc,hd,by simpa using hs⟩,?_⟩
  have e:=r.length
  simp only [af9] at e
  omega
theorem Inv.tuple (I:Inv X pins σ H s)(h:bK X.K H a xs):∃its:List Value,Vals xs its∧IsTup s.heap a its.toArray∧xs.length≤sizeLine:=by
 rcases h with h | ⟨o,its,n,hk,hc,hs,hz,r⟩
 ·obtain ⟨z,its,r,p⟩:=h.ok I.bt
  exact ⟨its,r,p,z⟩
 ·refine ⟨its.toList,r,⟨o,I.iH a o hk,hc,n,by simpa using hs⟩,?_⟩
  have e:=r.length
  simp only [af9] at e
  omega
theorem Inv.gG (I:Inv X pins σ H s)(h:ba X.K H a xs)(h' :ba X.K H a ys):xs=ys:=by
 obtain ⟨its,r,⟨o,n,e,_,_,d⟩,_⟩:=I.list h
 obtain ⟨its',r',⟨o',n',e',_,_,d'⟩,_⟩:=I.list h'
 rw [e] at e';cases e'
 rw [d] at d'
 injection d' with d1 _
 have:its=its' :=by simpa using congrArg aoB d1
 subst this
 exact r.inj r'
theorem Inv.fH (I:Inv X pins σ H s)(h:bK X.K H a xs)(h' :bK X.K H a ys):xs=ys:=by
 obtain ⟨its,r,⟨o,e,_,n,d⟩,_⟩:=I.tuple h
 obtain ⟨its',r',⟨o',e',_,n',d'⟩,_⟩:=I.tuple h'
 rw [e] at e';cases e'
 rw [d] at d'
 injection d' with d1 _
 have:its=its' :=by simpa using congrArg aoB d1
 subst this
 exact r.inj r'
end
abbrev Cx.oA (X:Cx)(E:Value→Shared→Prop):Cx:={X with xe:=E}
abbrev Cx.wD (X:Cx):Cx:=X.oA fun _ _=>False
theorem Cx.Ok.oA {X:Cx}(ok:X.Ok)(E:Value→Shared→Prop):(X.oA E).Ok:=
 ⟨ok.mod,ok.kind,ok.glob,ok.blt,ok.above,ok.inj,ok.has,ok.Px,ok.hd,ok.frames,ok.Wo,ok.exf,ok.bs,ok.BI,ok.yh,ok.IP,ok.kJ,ok.Mv⟩
theorem Cx.Ok.gH {X:Cx}{E:Value→Shared→Prop}(ok:(X.oA E).Ok):X.Ok:=
 ⟨ok.mod,ok.kind,ok.glob,ok.blt,ok.above,ok.inj,ok.has,ok.Px,ok.hd,ok.frames,ok.Wo,ok.exf,ok.bs,ok.BI,ok.yh,ok.IP,ok.kJ,ok.Mv⟩
section
variable {X:Cx}{pins:List (Addr×Obj)}{σ:St}{H:Hp}{s:Shared}{E:Value→Shared→Prop}
theorem Inv.oA (I:Inv X pins σ H s)(E:Value→Shared→Prop):Inv (X.oA E) pins σ H s:=⟨I.ok.oA E,I.os,I.bare,I.base,I.loc,I.cell,I.free,I.fG,I.pin,I.bt,I.len⟩
theorem Inv.gH (I:Inv (X.oA E) pins σ H s):Inv X pins σ H s:=⟨I.ok.gH,I.os,I.bare,I.base,I.loc,I.cell,I.free,I.fG,I.pin,I.bt,I.len⟩
theorem SP.gH {D:Ends}{f:Flow}{s' :Shared}(h:SP (X.oA E) pins D f s'):SP X pins D f s' :=by
 cases f with
 | next=>obtain ⟨σ',H',I,q⟩:=h;exact ⟨σ',H',I.gH,q⟩
 | brk=>obtain ⟨σ',H',I,q⟩:=h;exact ⟨σ',H',I.gH,q⟩
 | cont=>obtain ⟨σ',H',I,q⟩:=h;exact ⟨σ',H',I.gH,q⟩
 | ret u=>obtain ⟨v,σ',H',I,r,q⟩:=h;exact ⟨v,σ',H',I.gH,r,q⟩
theorem PSs.wD {st:List Stmt}{t:TS}(h:PSs X.wD st t):PSs X st t:=fun pins s σ H D I hw=>
 wpAny_mono (h pins s σ H D (I.oA _) hw) (fun _ _ q=>q.gH) fun _ _ z=>False.elim z
end
section
variable {X:Cx}{st:Stmt}{rest:List Stmt}{t u:TS}{e:Expr}{te:TE}{pos:Pos}
def PH:TS:=fun D σ H=>D.nx σ H
def PJ (t u:TS):TS:=fun D σ H=>t {D with nx:=u D} σ H
theorem aJ:PSs X [] PH:=fun _ _ σ H _ I h=>wpAny_execs_nil ⟨σ,H,I,h⟩
theorem ae (h1:PS X st t)(h2:PSs X rest u):PSs X (st::rest) (PJ t u):=by
 intro pins s σ H D I h
 refine wpAny_execs_cons (bV (h1 pins s σ H {D with nx:=u D} I h) fun f s1 q=> ?_)
 cases f with
 | next=>
  obtain ⟨σ',H',I',q⟩:=q
  exact h2 pins s1 σ' H' D I' q
 | ret v=>exact q
 | brk=>exact q
 | cont=>exact q
theorem aj (h1:PS X st t):PSs X [st] t:=by
 intro pins s σ H D I h
 refine wpAny_execs_cons (bV (h1 pins s σ H D I h) fun f s1 q=> ?_)
 cases f with
 | next=>exact wpAny_execs_nil q
 | ret v=>exact q
 | brk=>exact q
 | cont=>exact q
def PK:TS:=fun D σ H=>D.ct σ H
theorem sM:PS X (.Continue pos) PK:=fun _ _ σ H _ I h=>wpAny_Continue ⟨σ,H,I,h⟩
theorem Inv.quiet {pins:List (Addr×Obj)}{σ:St}{H:Hp}{s:Shared}(I:Inv X pins σ H s):interactive X.env=false:=by simp [interactive,I.ok.kind]
def PM (te:TE):TS:=fun D σ H=>te σ H fun _ H1=>D.nx σ H1
theorem bg (he:PE X e te)(hs:swapsWith e none pos.line X.env=pure false:=by rfl):PS X (.Expr e pos) (PM te):=by
 intro pins s σ H D I h
 exact wpAny_Expr_any (bV (he pins s σ H _ I h) fun v s1 ⟨x,H1,I1,r1,q1⟩=>⟨σ,H1,I1,q1⟩) I.quiet hs
def Xv (te:TE):TS:=fun D σ H=>te σ H D.rt
theorem aG (he:PE X e te):PS X (.Return (some e) pos) (Xv te):=by
 intro pins s σ H D I h
 exact wpAny_Return_some (bV (he pins s σ H _ I h) fun v s1 ⟨x,H1,I1,r1,q1⟩=>⟨x,σ,H1,I1,r1,q1⟩)
def Xw (c:TT)(t u:TS):TS:=fun D σ H=>c σ H fun b H1=>if b=true then t D σ H1 else u D σ H1
theorem bf {c:Expr}{a b:List Stmt}{tc:TT}(hc:PT X c tc)(ha:PSs X a t)(hb:PSs X b u):PS X (.If c a b pos) (Xw tc t u):=by
 intro pins s σ H D I h
 refine wpAny_If (bV (hc pins s σ H _ I h) fun d s1 ⟨H1,I1,q1⟩=> ?_)
 cases d with
 | true=>exact ha pins s1 σ H1 D I1 q1
 | false=>exact hb pins s1 σ H1 D I1 q1
def Mz:TS:=fun _ _ _=>False
theorem df:PS X st Mz:=fun _ _ _ _ _ _ h=>h.elim
end
abbrev TG:=V→St→Hp→(St→Hp→Prop)→Prop
abbrev KU:=List V→St→Hp→(St→Hp→Prop)→Prop
def PG (X:Cx)(target:Expr)(t:TG):Prop:=
 ∀(pins:List (Addr×Obj)) (s:Shared) (σ:St) (H:Hp) (v:V) (u:Value) (Q:St→Hp→Prop),Inv X pins σ H s→RelV v u→t v σ H Q→
  wpAny (model X.prog X.w) X.A (assign target X.env u) (fun _ s' =>∃σ' H',Inv X pins σ' H' s' ∧Q σ' H') X.xe s
def PQ (X:Cx)(ts:List Expr)(t:KU):Prop:=
 ∀(pins:List (Addr×Obj)) (s:Shared) (σ:St) (H:Hp) (vs:List V) (us:List Value) (Q:St→Hp→Prop),Inv X pins σ H s→Vals vs us→t vs σ H Q→
  wpAny (model X.prog X.w) X.A (assignInOrder ((assignEach ts X.env).map (·.2)) us) (fun _ s' =>∃σ' H',Inv X pins σ' H' s' ∧Q σ' H') X.xe s
abbrev MA:=V→V→V→Hp→(Hp→Prop)→Prop
def PR (X:Cx)(t:MA):Prop:=
 ∀(pins:List (Addr×Obj)) (s:Shared) (σ:St) (H:Hp) (o i v:V) (ov iv u:Value) (Q:Hp→Prop),Inv X pins σ H s→RelV o ov→RelV i iv→RelV v u→t o i v H Q→
  wpAny (model X.prog X.w) X.A (setItem ov iv u) (fun _ s' =>∃H',Inv X pins σ H' s' ∧Q H') X.xe s
section
variable {X:Cx}{pos:Pos}
def cD (i:Nat):TG:=fun v σ H Q=>Q (σ.set i (some v)) H
theorem aE {i:Nat}{x:Str}(hN:X.N.Nodup)(hi:X.N[i]? =some x)(hx:Loc X.env.scope x)(hf:X.fn x=true∨X.env.scope.names.lookup x=some .local:=by first | exact .inl rfl | exact .inr rfl | assumption):PG X (.Name x pos) (cD i):=by
 intro pins s σ H v u Q I r h
 exact wpAny_assign_Name (iX I hN hi hx r (fun s' I' =>⟨_,H,I',h⟩) hf)
def PU:KU:=fun vs σ H Q=>vs=[]∧Q σ H
def BL (t:TG)(u:KU):KU:=fun vs σ H Q=>∃v r,vs=v::r∧t v σ H fun σ' H' =>u r σ' H' Q
theorem cQ:PQ X [] PU:=by
 intro pins s σ H vs us Q I r h
 obtain ⟨e,h⟩:=h
 subst e
 cases r
 exact assignInOrder_nil ⟨σ,H,I,h⟩
theorem aX {e:Expr}{es:List Expr}{t:TG}{u:KU}(h1:PG X e t)(h2:PQ X es u)
  (hs:(assignEach (e::es) X.env).map (·.2)=assign e X.env::(assignEach es X.env).map (·.2):=by rfl):PQ X (e::es) (BL t u):=by
 intro pins s σ H vs us Q I r h
 obtain ⟨v,vr,e1,h⟩:=h
 subst e1
 cases r with
 | cons r rr=>
  rw [hs]
  refine assignInOrder_cons (bV (h1 pins s σ H _ _ _ I r h) fun _ s1 ⟨σ1,H1,I1,q1⟩=> ?_)
  exact h2 pins s1 σ1 H1 _ _ Q I1 rr q1
inductive IU (K:Frag)(n:Nat)(t:KU)(v:V)(σ:St)(H:Hp)(Q:(St→Hp→Prop)):Prop where
 | mk (a xs:_) (_:v=.ref a) (_:bK K H a xs) (_:xs.length=n) (_:t xs σ H Q):IU K n t v σ H Q
theorem dO {es:List Expr}{k:Nat}{t:KU}{n:Nat}(hc:X.calm=true)(h:PQ X es t)
  (hn:(assignEach es X.env).length=n:=by rfl) (IV:(assignEach es X.env).findIdx? (·.1)=none:=by rfl):PG X (.Tuple es k pos) (IU X.K n t):=by
 intro pins s σ H v u Q I r hw
 obtain ⟨a,xs,e1,hq,hl,hw⟩:=hw
 subst e1
 cases r
 obtain ⟨its,rv,ht,hz⟩:=I.tuple hq
 refine assign_Tuple_tuple (I.ok.hd hc) ht (by simp [hn, ← hl,rv.length]) IV fun h' hx=> ?_
 have I1:Inv X pins σ H {s with heap:=h' }:=I.kept (t' :=s.toks) fun b o e=>hx b o (afn (Heap.lt_size e)) e
 exact h pins _ σ H xs _ Q I1 (by simpa using rv) hw
def Xx (to ti:TE)(t:MA):TG:=fun v σ H Q=>to σ H fun o H1=>ti σ H1 fun i H2=>t o i v H2 fun H3=>Q σ H3
theorem u6 {o i:Expr}{to ti:TE}{t:MA}(ho:PE X o to)(hi:PE X i ti)(hs:PR X t)
  (ha:∀v,assign (.Subscript o i pos) X.env v=(do
   let ov ← holding [v] (eval o X.env)
   let iv ← holding [v,ov] (eval i X.env)
   standAt pos
   holding [v,ov,iv] (setItem ov iv v)
   release [v,ov,iv] []):=by intro _;rfl):PG X (.Subscript o i pos) (Xx to ti t):=by
 intro pins s σ H v u Q I r h
 rw [ha]
 refine wpAny_bind (wpAny_holding (bV (ho pins s σ H _ I h) fun ov s1 ⟨x,H1,I1,r1,q1⟩=> ?_))
 refine wpAny_bind (wpAny_holding (bV (hi pins s1 σ H1 _ I1 q1) fun iv s2 ⟨y,H2,I2,r2,q2⟩=> ?_))
 refine wpAny_bind (wpAny_standAt (wpAny_bind (wpAny_holding (bV (hs pins s2 σ H2 x y v ov iv u _ I2 r1 r2 r q2) fun _ s3 ⟨H3,I3,q3⟩=> ?_))))
 exact wpAny_release ⟨σ,H3,I3,q3⟩
def IW (te:TE)(g:TG):TS:=fun D σ H=>te σ H fun x H1=>g x σ H1 D.nx
theorem qE {tg e:Expr}{te:TE}{g:TG}(he:PE X e te)(hg:PG X tg g)(hs:swapsWithSole [tg] e pos.line X.env=pure false:=by rfl)(hw:swappedStores [tg] e X.env=pure none:=by rfl)
  (h1:(assignEach [tg] X.env).map (·.2)=[assign tg X.env]:=by rfl):PS X (.Assign [tg] e pos) (IW te g):=by
 intro pins s σ H D I h
 refine wpAny_Assign_stores (bV (he pins s σ H _ I h) fun v s1 ⟨x,H1,I1,r1,q1⟩=> ?_) hs hw
 rw [h1]
 exact bV (hg pins s1 σ H1 x v _ I1 r1 q1) fun _ s2 q=>q
theorem aH {i:Nat}{x:Str}{e:Expr}{te:TE}{pos' :Pos}(hN:X.N.Nodup)(hi:X.N[i]? =some x)(hx:Loc X.env.scope x)(he:PE X e te)(hs:swapsWith e (some (.Name x pos')) pos.line X.env=pure false:=by rfl)(hf:X.fn x=true∨X.env.scope.names.lookup x=some .local:=by first | exact .inl rfl | exact .inr rfl | assumption):
  PS X (.Assign [.Name x pos'] e pos) (IW te (cD i)):=by
 intro pins s σ H D I h
 refine wpAny_Assign_Name (bV (he pins s σ H _ I h) fun v s1 ⟨y,H1,I1,r1,q1⟩=> ?_) hs
 exact iX I1 hN hi hx r1 (fun s2 I2=>⟨_,H1,I2,q1⟩) hf
inductive KW (i:Nat)(j:Nat)(D:Ends)(σ:St)(vs:List V)(H1:Hp):Prop where
 | mk (v w:_) (_:vs=[v,w]) (_:D.nx ((σ.set i (some v)).set j (some w)) H1):KW i j D σ vs H1
def Xy (i j:Nat)(ta:TA):TS:=fun D σ H=>ta σ H fun vs H1=>KW i j D σ vs H1
theorem MD {i j:Nat}{x y:Str}{a b:Expr}{ta:TA}{px py pt:Pos}{kt k2 Xz}(hc:X.calm=true)(hN:X.N.Nodup)(hi:X.N[i]? =some x)(hj:X.N[j]? =some y)(hij:i≠j)
  (hx:X.env.scope.names.lookup x=some .local) (hy:X.env.scope.names.lookup y=some .local) (ha:PA X [a,b] ta)
  (hw:swappedStores [.Tuple [.Name x px,.Name y py] kt pt] (.Tuple [a,b] k2 Xz) X.env=pure (some [x,y]))
  (hs:swapsWithSole [.Tuple [.Name x px,.Name y py] kt pt] (.Tuple [a,b] k2 Xz) pos.line X.env=pure false:=by rfl):
  PS X (.Assign [.Tuple [.Name x px,.Name y py] kt pt] (.Tuple [a,b] k2 Xz) pos) (Xy i j ta):=by
 intro pins s σ H D I h
 rw [exec_Assign_arm]
 refine wpAny_bind (wpAny_standAt ?_)
 rw [hs]
 refine wpAny_bind (wpAny_pure ?_)
 rw [if_neg (by decide)]
 refine wpAny_bind (Tuple_ (bV (ha _ pins s σ H _ I h) fun us s1 ⟨vs,H1,I1,r1,q1⟩=> ?_))
 obtain ⟨v,w,e1,q1⟩:=q1
 subst e1
 obtain ⟨u1,u2,rfl,rv,lj⟩:∃u1 u2,us=[u1,u2]∧RelV v u1∧RelV w u2:=by
  cases r1 with
  | cons p q=>
   cases q with
   | cons p' q' =>
    cases q'
    exact ⟨_,_,rfl,p,p'⟩
 refine wpAny_newObj_type ?_ (by show 2≤sizeLine;decide)
 have I2:Inv X pins σ H1 {s1 with heap:=s1.heap.push {cls:=.type "tuple",data:=.seq [u1,u2].toArray}}:=I1.kept (t' :=s1.toks) fun b o e=>Heap.get?_push_of_some _ e
 rw [hw]
 refine wpAny_bind (wpAny_pure ?_)
 show wpAny (model X.prog X.w) X.A (do rule "assign.swapped-stores";let items ← unpackItems (.ref s1.heap.objs.size) 2 none;assignInOrder [fun v=>bindName X.env y v,fun v=>bindName X.env x v] items.reverse;pure Flow.next) _ _ _
 refine wpAny_bind (wpAny_rule (wpAny_bind (unpackItems_tuple (items:= #[u1,u2]) (I.ok.hd hc) (IsTup.new s1.heap _) fun h' u9 => ?_)))
 have I3:=I2.kept (h' :=h') (t' :=s1.toks) fun b o e=>u9 b o (afn (Heap.lt_size e)) e
 show wpAny _ _ (assignInOrder [fun v=>bindName X.env y v,fun v=>bindName X.env x v] [u2,u1] >>=fun _=>pure Flow.next) _ _ _
 refine wpAny_bind (assignInOrder_cons (wpAny_bindName (iX I3 hN hj (.inl hy) lj (fun s2 I4=> ?_) (.inr hy))))
 refine assignInOrder_cons (wpAny_bindName (iX I4 hN hi (.inl hx) rv (fun s3 I5=>assignInOrder_nil (wpAny_pure ?_)) (.inr hx)))
 rw [List.set_comm _ _ (afk hij)] at I5
 exact ⟨_,H1,I5,q1⟩
end
section
variable {X:Cx}{pos:Pos}
def BM (c:TT)(tb:TS):TS:=fun D σ H=>∃W:Nat→St→Hp→Prop,(∃m,W m σ H)∧∀m σ H,W m σ H→
 c σ H fun b H1=>if b=true then ∃N:St→Hp→Prop,(∀σ' H',N σ' H' →∃m',m' < m∧W m' σ' H')∧tb {D with nx:=N,ct:=N,bk:=D.nx} σ H1 else D.nx σ H1
theorem ma {c:Expr}{body:List Stmt}{tc:TT}{tb:TS}(hp:PassesOwn (model X.prog X.w) X.A X.env X.xe)(hc:PT X c tc)(hb:PSs X body tb):PS X (.While c body [] pos) (BM tc tb):=by
 intro pins s σ H D I h
 obtain ⟨W,⟨m0,w0⟩,turn⟩:=h
 refine wpAny_While (codeAny_whileLoop (fun n s' =>∃σ' H',Inv X pins σ' H' s' ∧W n σ' H') ?_ m0 ⟨σ,H,I,w0⟩)
 rintro n s1 ⟨σ1,H1,I1,w1⟩
 refine wpAny_passesOwn hp (bV (hc pins s1 σ1 H1 _ I1 (turn n σ1 H1 w1)) fun b s2 ⟨H2,I2,q2⟩=> ?_)
 cases b with
 | true=>
  obtain ⟨N,hN,q2⟩:=q2
  rw [if_pos rfl]
  refine wpAny_passesOwn hp (bV (hb pins s2 σ1 H2 _ I2 q2) fun f s3 q3=> ?_)
  cases f with
  | next=>
   obtain ⟨σ3,H3,I3,n3⟩:=q3
   obtain ⟨m',hm,w3⟩:=hN σ3 H3 n3
   exact ⟨m',hm,σ3,H3,I3,w3⟩
  | cont=>
   obtain ⟨σ3,H3,I3,n3⟩:=q3
   obtain ⟨m',hm,w3⟩:=hN σ3 H3 n3
   exact ⟨m',hm,σ3,H3,I3,w3⟩
  | brk=>exact q3
  | ret v=>exact q3
 | false=>
  rw [if_neg ad_]
  exact wpAny_execs_nil ⟨σ1,H2,I2,q2⟩
end
structure It where
 go:Nat→Hp→Prop
 AX:Nat→Hp→V→Hp→Prop
 stop:Nat→Hp→Prop
def f_ (X:Cx)(pins:List (Addr×Obj))(H:Hp)(b:Addr):Prop:=
 H b=none∧b≠X.env.locals∧b∉X.fs∧(b∈X.ex∨X.s₀.heap.objs.size≤b)∧(∀x c,X.env.cells.lookup x=some c→c≠b)∧∀p∈X.pn++pins,p.1≠b
theorem Inv.jI {X:Cx}{pins:List (Addr×Obj)}{σ:St}{H H' :Hp}{s:Shared}{b:Addr}(I:Inv X pins σ H s)(hb:s.heap.objs.size≤b)(hn:H' b=none):f_ X pins H' b:=by
 refine ⟨hn,amU (afc I.lt hb),I.Xo hb,.inr (aaj I.sz hb),fun x c e z=> ?_,fun p hp z=> ?_⟩
 ·obtain ⟨v,q⟩:=I.cell x c e
  exact absurd (afc q.lt (by rw [z];exact hb)) (afQ _)
 ·exact absurd (afc (Heap.lt_size (I.pin p hp).1) (by rw [z];exact hb)) (afQ _)
structure Turn (P:Program)(w:World)(K:Frag)(tg:Expr)(J:It)(fp:List Addr)(it:Addr)(tn:Nat→Heap→Prop):Prop where
 mem:it∈fp
 obj:∀i h,tn i h→∀b∈fp,∃o,h.get? b=some o∧∀v,o.data≠.cell v
 keep:∀i h h',tn i h→(∀b∈fp,∀o,h.get? b=some o→h'.get? b=some o)→tn i h'
 item:∀(X:Cx),X.prog=P→X.w=w→X.K=K→X.calm=true→∀(i:Nat) (pins:List (Addr×Obj)) (s:Shared) (σ:St) (H:Hp) (E:Value→Shared→Prop),Inv X pins σ H s→(∀b∈fp,f_ X pins H b)→tn i s.heap→J.go i H→
  wpAny (model P w) X.A (pyNext (.ref it)) (fun r s1=>∃u,r=some u∧
   wpAny (model P w) X.A (letOwnedTupleGo tg (.ref it) u) (fun _ s2=>∃x H',Inv X pins σ H' s2∧RelV x u∧J.AX i H x H' ∧tn (i+1) s2.heap∧∀b∈fp,H' b=none) E s1) E s
 done:∀(X:Cx),X.prog=P→X.w=w→X.K=K→X.calm=true→∀(i:Nat) (pins:List (Addr×Obj)) (s:Shared) (σ:St) (H:Hp) (E:Value→Shared→Prop),Inv X pins σ H s→(∀b∈fp,f_ X pins H b)→tn i s.heap→J.stop i H→
  wpAny (model P w) X.A (pyNext (.ref it)) (fun r s1=>r=none∧Inv X pins σ H s1) E s
 self:∀(A:Around) (i:Nat) (s:Shared) (Q:Value→Shared→Prop) (E:Value→Shared→Prop),tn i s.heap→Q (.ref it) s→wpAny (model P w) A (pyIter (.ref it)) Q E s
abbrev TI:=St→Hp→(It→Hp→Prop)→Prop
def PIE (X:Cx)(pins:List (Addr×Obj))(σ:St)(tg:Expr)(R:It→Hp→Prop)(PV:Value)(s2:Shared):Prop:=
 ∃(it:Addr) (fp:List Addr) (tn:Nat→Heap→Prop) (J:It) (H' :Hp),PV=.ref it∧Inv X pins σ H' s2∧Turn X.prog X.w X.K tg J fp it tn∧tn 0 s2.heap∧(∀b∈fp,f_ X pins H' b)∧R J H'
def PI (X:Cx)(tg iter:Expr)(wi:TI):Prop:=
 ∀(pins:List (Addr×Obj)) (s:Shared) (σ:St) (H:Hp) (R:It→Hp→Prop),Inv X pins σ H s→wi σ H R→
  wpAny (model X.prog X.w) X.A (eval iter X.env) (fun v s1=>wpAny (model X.prog X.w) X.A (pyIter v) (PIE X pins σ tg R) X.xe s1) X.xe s
theorem wG {M : Model} {A : Around} {E : Value → Shared → Prop} {s : Shared} {tg : Expr} {it : Addr} {u : Value} {o : Obj} {n : String} {vs : Array Value} {Q : Unit → Shared → Prop} (ho : s.heap.get? it = some o) (hc : o.cls = .type n) (hd : o.data = .fields vs)
    (hn : ["enumerate", "zip", "dict_itemiterator", "dict_reverseitemiterator", "odict_iterator", "itertools.zip_longest", "itertools.pairwise"].contains n = false) (hQ : Q () s) : wpAny M A (letOwnedTupleGo tg (.ref it) u) Q E s := by
  unfold letOwnedTupleGo
  cases tg <;> first
    | exact wpAny_pure hQ
    | (cases u <;> first
        | exact wpAny_pure hQ
        | (refine wpAny_bind (wpAny_load ho ?_)
           rw [hc, hd]
           show wpAny M A (if (["enumerate", "zip", "dict_itemiterator", "dict_reverseitemiterator", "odict_iterator", "itertools.zip_longest", "itertools.pairwise"].contains n && vs[0]? == some (rawInt _)) = true then _ else _) Q E s
           rw [if_neg (by intro h; rw [hn, Bool.false_and] at h; cases h)]
           exact wpAny_pure hQ))
def IX (K:Frag)(a:Addr):It:=
 ⟨fun i H=>∃xs x,ba K H a xs∧xs[i]? =some x,fun i H x H' =>H' =H∧∀xs,ba K H a xs→xs[i]? =some x,fun i H=>∃xs,ba K H a xs∧xs.length≤i⟩
def PX (K:Frag)(a:Addr):It:=
 ⟨fun i H=>∃xs x,bK K H a xs∧xs[i]? =some x,fun i H x H' =>H' =H∧∀xs,bK K H a xs→xs[i]? =some x,fun i H=>∃xs,bK K H a xs∧xs.length≤i⟩
def KY (lo:Int)(n:Nat):It:=⟨fun i _=>i < n,fun i H x H' =>H' =H∧x=.int (lo+i),fun i _=>n≤i⟩
theorem yj {P:Program}{w:World}{K:Frag}{tg:Expr}(a it:Addr):Turn P w K tg (IX K a) [it] it (fun i h=>h.IsListIter it a i) where
 mem:=by simp
 obj:=fun i h st b hb=>by
  have e:b=it:=by simpa using hb
  subst e
  obtain ⟨o,e,c,d⟩:=st
  exact ⟨o,e,fun v z=>by rw [d] at z;cases z⟩
 keep:=fun i h h' st k=>st.at fun o e=>k it (by simp) o e
 item:=by
  intro X hP hw hK hc i pins s σ H E I hf st hg
  subst hP hw hK
  obtain ⟨xs,x,hq,hx⟩:=hg
  obtain ⟨its,rv,p,hz⟩:=I.list hq
  obtain ⟨u,hu,ru⟩:=rv.get hx
  obtain ⟨f0,f1,f2,f3,f4,f5⟩:=hf it (by simp)
  refine wpAny_pyNext_list_item st p.isList (x:=u) (by simpa using hu) fun h' AY sb=> ?_
  have I1:Inv X pins σ H {s with heap:=h' }:=I.turned (t' :=s.toks) (fun b o hb e=>(sb.2 b hb).trans e) f0 f1 f3 f4 f5
  obtain ⟨o,e,c,d⟩:=id AY
  exact ⟨u,rfl,wG (s:={s with heap:=h' }) e c d (by decide) ⟨x,H,I1,ru,⟨rfl,fun ys hy=>by rw [I.gG hy hq];exact hx⟩,AY,fun b hb=>(hf b hb).1⟩⟩
 done:=by
  intro X hP hw hK hc i pins s σ H E I hf st hg
  subst hP hw hK
  obtain ⟨xs,hq,hx⟩:=hg
  obtain ⟨its,rv,p,hz⟩:=I.list hq
  obtain ⟨f0,f1,f2,f3,f4,f5⟩:=hf it (by simp)
  have hl:=rv.length
  exact wpAny_pyNext_list_end (I.ok.hd hc) st p.isList (by simp;omega) fun h' eb=>⟨rfl,I.turned (t' :=s.toks) (fun b o hb e=>eb b o hb e) f0 f1 f3 f4 f5⟩
 self:=fun _ _ _ _ _ st h=>wpAny_pyIter_listiter st h
theorem u_ {P:Program}{w:World}{K:Frag}{tg:Expr}(a it:Addr):Turn P w K tg (PX K a) [it] it (fun i h=>h.IsTupleIter it a i) where
 mem:=by simp
 obj:=fun i h st b hb=>by
  have e:b=it:=by simpa using hb
  subst e
  obtain ⟨o,e,c,d⟩:=st
  exact ⟨o,e,fun v z=>by rw [d] at z;cases z⟩
 keep:=fun i h h' st k=>st.at fun o e=>k it (by simp) o e
 item:=by
  intro X hP hw hK hc i pins s σ H E I hf st hg
  subst hP hw hK
  obtain ⟨xs,x,hq,hx⟩:=hg
  obtain ⟨its,rv,p,hz⟩:=I.tuple hq
  obtain ⟨u,hu,ru⟩:=rv.get hx
  obtain ⟨f0,f1,f2,f3,f4,f5⟩:=hf it (by simp)
  refine wpAny_pyNext_tuple_item st (show s.heap.IsTuple a its.toArray from p) (x:=u) (by simpa using hu) fun h' AY sb=> ?_
  have I1:Inv X pins σ H {s with heap:=h' }:=I.turned (t' :=s.toks) (fun b o hb e=>(sb.2 b hb).trans e) f0 f1 f3 f4 f5
  obtain ⟨o,e,c,d⟩:=id AY
  exact ⟨u,rfl,wG (s:={s with heap:=h' }) e c d (by decide) ⟨x,H,I1,ru,⟨rfl,fun ys hy=>by rw [I.fH hy hq];exact hx⟩,AY,fun b hb=>(hf b hb).1⟩⟩
 done:=by
  intro X hP hw hK hc i pins s σ H E I hf st hg
  subst hP hw hK
  obtain ⟨xs,hq,hx⟩:=hg
  obtain ⟨its,rv,p,hz⟩:=I.tuple hq
  obtain ⟨f0,f1,f2,f3,f4,f5⟩:=hf it (by simp)
  have hl:=rv.length
  exact wpAny_pyNext_tuple_end (I.ok.hd hc) st (show s.heap.IsTuple a its.toArray from p) (by simp;omega) fun h' eb=>⟨rfl,I.turned (t' :=s.toks) (fun b o hb e=>eb b o hb e) f0 f1 f3 f4 f5⟩
 self:=fun _ _ _ _ _ st h=>wpAny_pyIter_tupleiter st h
theorem va {P:Program}{w:World}{K:Frag}{tg:Expr}(it:Addr)(lo:Int)(n:Nat):Turn P w K tg (KY lo n) [it] it (fun i h=>IsRangeIter h it (lo+(i:Nat)*1) ((n:Int) - (i:Nat)) 1) where
 mem:=by simp
 obj:=fun i h st b hb=>by
  have e:b=it:=by simpa using hb
  subst e
  exact ⟨_,st,fun v z=>by
   have z' :Data.fields _=Data.cell v:=z
   cases z'⟩
 keep:=fun i h h' st k=>k it (by simp) _ st
 item:=by
  intro X hP hw hK hc i pins s σ H E I hf st hg
  subst hP hw hK
  obtain ⟨f0,f1,f2,f3,f4,f5⟩:=hf it (by simp)
  have W:=Walks.range (prog:=X.prog) (w:=X.w) (I.ok.hd hc) it lo 1 n
  refine W.item i s _ _ hg st fun v h' tk hv AY kk=> ?_
  obtain ⟨t,rfl⟩:=hv
  have I1:Inv X pins σ H {s with heap:=h',toks:=tk}:=I.turned (fun b o hb e=>kk b o (by simpa using hb) e) f0 f1 f3 f4 f5
  refine ⟨_,rfl,wG (s:={s with heap:=h',toks:=tk}) (n:="range_iterator") AY rfl rfl (by decide) ⟨.int (lo+i),H,I1,⟨t,?_⟩,⟨rfl,rfl⟩,AY,fun b hb=>(hf b hb).1⟩⟩
  rw [Int.mul_one]
 done:=by
  intro X hP hw hK hc i pins s σ H E I hf st hg
  subst hP hw hK
  obtain ⟨f0,f1,f2,f3,f4,f5⟩:=hf it (by simp)
  exact wpAny_pyNext_range_end (I.ok.hd hc) st (by have:n≤i:=hg;omega) fun h' eb=>⟨rfl,I.turned (t' :=s.toks) (fun b o hb e=>eb b o hb e) f0 f1 f3 f4 f5⟩
 self:=fun _ _ _ _ _ st h=>wpAny_pyIter_rangeiter st h
end L2
namespace L2
open PySem PySem.Spec PyProof.Rows
section
variable {X:Cx}{tg:Expr}
inductive BN (K:Frag)(R:(It→Hp→Prop))(x:V)(H1:Hp):Prop where
 | mk (a:_) (_:x=.ref a) (_:(∃xs,ba K H1 a xs)) (_:R (IX K a) H1):BN K R x H1
def KZ (K:Frag)(tl:TE):TI:=fun σ H R=>tl σ H fun x H1=>BN K R x H1
inductive K0 (K:Frag)(R:(It→Hp→Prop))(x:V)(H1:Hp):Prop where
 | mk (a:_) (_:x=.ref a) (_:(∃xs,bK K H1 a xs)) (_:R (PX K a) H1):K0 K R x H1
def XA (K:Frag)(tl:TE):TI:=fun σ H R=>tl σ H fun x H1=>K0 K R x H1
theorem bw {l:Expr}{tl:TE}(hl:PE X l tl):PI X tg l (KZ X.K tl):=by
 intro pins s σ H R I h
 refine bV (hl pins s σ H _ I h) fun v s1 ⟨x,H1,I1,r1,q1⟩=> ?_
 obtain ⟨a,e,⟨xs,hq⟩,q⟩:=q1
 subst e
 cases r1
 obtain ⟨its,rv,p,hz⟩:=I1.list hq
 refine wpAny_pyIter_list p.isList ?_
 refine ⟨s1.heap.objs.size,[s1.heap.objs.size],_,_,H1,rfl,I1.kept (t' :=s1.toks) fun b o e=>Heap.get?_push_of_some _ e,yj a _,⟨_,Heap.get?_push_size _ rfl,rfl,rfl⟩,fun b hb=> ?_,q⟩
 have e:b=s1.heap.objs.size:=by simpa using hb
 subst e
 exact I1.jI (aai _) (I1.bt.fresh (aai _))
theorem MF {l:Expr}{tl:TE}(hl:PE X l tl):PI X tg l (XA X.K tl):=by
 intro pins s σ H R I h
 refine bV (hl pins s σ H _ I h) fun v s1 ⟨x,H1,I1,r1,q1⟩=> ?_
 obtain ⟨a,e,⟨xs,hq⟩,q⟩:=q1
 subst e
 cases r1
 obtain ⟨its,rv,p,hz⟩:=I1.tuple hq
 refine wpAny_pyIter_tuple (show s1.heap.IsTuple a its.toArray from p) ?_
 refine ⟨s1.heap.objs.size,[s1.heap.objs.size],_,_,H1,rfl,I1.kept (t' :=s1.toks) fun b o e=>Heap.get?_push_of_some _ e,u_ a _,⟨_,Heap.get?_push_size _ rfl,rfl,rfl⟩,fun b hb=> ?_,q⟩
 have e:b=s1.heap.objs.size:=by simpa using hb
 subst e
 exact I1.jI (aai _) (I1.bt.fresh (aai _))
theorem BO {pins:List (Addr×Obj)}{σ:St}{H:Hp}{s:Shared}{R:It→Hp→Prop}{E:Value→Shared→Prop}{lo hi:Int}{t u v:Tok}{tk:Nat}(I:Inv X pins σ H s)(h1: -(2^62)≤lo)(h2:lo < 2^62)(h3: -(2^62)≤hi)(h4:hi < 2^62)
  (q:R (KY lo (hi - lo).toNat) H):wpAny (model X.prog X.w) X.A (pyIter (.ref s.heap.objs.size)) (PIE X pins σ tg R) E {s with heap:=s.heap.push {cls:=.type "range",data:=.fields #[.int lo t,.int hi u,.int 1 v]},toks:=tk}:=by
 refine wpAny_pyIter_range (IsRange.new ..) (small_one h1 h2 h3 h4) ?_
 have I1:Inv X pins σ H {s with heap:=s.heap.push {cls:=.type "range",data:=.fields #[.int lo t,.int hi u,.int 1 v]},toks:=tk}:=I.kept fun b o e=>Heap.get?_push_of_some _ e
 refine ⟨(s.heap.push {cls:=.type "range",data:=.fields #[.int lo t,.int hi u,.int 1 v]}).objs.size,[(s.heap.push {cls:=.type "range",data:=.fields #[.int lo t,.int hi u,.int 1 v]}).objs.size],_,_,H,rfl,
  I1.kept (t' :=tk) fun b o e=>Heap.get?_push_of_some _ e,va _ lo (hi - lo).toNat,?_,fun b hb=> ?_,q⟩
 ·have e1:lo+((0:Nat):Int)*1=lo:=by simp
  have e2:(((hi - lo).toNat:Nat):Int) - ((0:Nat):Int)=Builtin.Range.rangeSize lo hi 1:=by rw [rangeSize_one];split <;> omega
  show IsRangeIter _ _ (lo+((0:Nat):Int)*1) ((((hi - lo).toNat:Nat):Int) - ((0:Nat):Int)) 1
  rw [e1,e2]
  exact Heap.get?_push_size _ rfl
 ·have e:b=(s.heap.push {cls:=.type "range",data:=.fields #[.int lo t,.int hi u,.int 1 v]}).objs.size:=by simpa using hb
  subst e
  exact I1.jI (aai _) (I1.bt.fresh (aai _))
inductive BP (R:(It→Hp→Prop))(vs:List V)(H1:Hp):Prop where
 | mk (j:Int) (_:vs=[.int j]) (_: -(2^62)≤j) (_:j < 2^62) (_:R (KY 0 j.toNat) H1):BP R vs H1
def PY (ta:TA):TI:=fun σ H R=>ta σ H fun vs H1=>BP R vs H1
theorem dP {a:Expr}{ta:TA}{p pos:Pos}(hg:Gl X "range")(hm:X.mg "range"=none)(ha:PA X [a] ta)(hs:starEach [a] X.env=[(false,eval a X.env)]:=by rfl):PI X tg (.Call (.Name "range" p) [a] [] pos) (PY ta):=by
 intro pins s σ H R I h
 refine Call_ (gD I hg hm boot_range (PyProof.Rows.callWith_type1 (bV (ha pos pins s σ H _ I h) fun us s1 ⟨vs,H1,I1,r1,q1⟩=> ?_) hs rfl))
 obtain ⟨j,e,q1,q2,q⟩:=q1
 subst e
 cases r1 with
 | cons r rr=>
  cases rr
  obtain ⟨t,rfl⟩:=r
  exact call_range_1 (BO I1 (by omega) (by omega) q1 q2 (by simpa using q))
def XB (wi:TI)(g:TG)(tb:TS):TS:=fun D σ H=>wi σ H fun J H1=>∃W:Nat→Nat→St→Hp→Prop,(∃m,W 0 m σ H1)∧∀i m σ H,W i m σ H→
 (J.stop i H∧D.nx σ H)∨(J.go i H∧∃N:St→Hp→Prop,(∀σ' H',N σ' H' →∃m',m' < m∧W (i+1) m' σ' H')∧∀x H',J.AX i H x H' →g x σ H' fun σ2 H2=>tb {D with nx:=N,ct:=N,bk:=D.nx} σ2 H2)
def jJ (fp:List Addr)(h:Heap):List (Addr×Obj):=fp.filterMap fun b=>(h.get? b).map fun o=>(b,o)
theorem dQ {fp:List Addr}{h:Heap}{b:Addr}{o:Obj}(hb:b∈fp)(e:h.get? b=some o):(b,o)∈jJ fp h:=anf.mpr ⟨b,hb,by rw [e];rfl⟩
theorem yk {fp:List Addr}{h:Heap}{p:Addr×Obj}(hp:p∈jJ fp h):p.1∈fp∧h.get? p.1=some p.2:=by
 obtain ⟨b,hb,e⟩:=anf.mp hp
 cases q:h.get? b with
 | none=>rw [q] at e;cases e
 | some o=>
  rw [q] at e
  have e' :(b,o)=p:=aff e
  subst e'
  exact ⟨hb,q⟩
theorem Inv.pinned {pins:List (Addr×Obj)}{σ:St}{H:Hp}{s:Shared}{fp:List Addr}(I:Inv X pins σ H s)(hf:∀b∈fp,f_ X pins H b)(ho:∀b∈fp,∃o,s.heap.get? b=some o∧∀v,o.data≠.cell v):Inv X (pins++jJ fp s.heap) σ H s:=
 I.wB fun p hp=>(afg.mp hp).elim (fun z=>I.pin p (afl _ z)) fun z=>by
  obtain ⟨hb,e⟩:=yk z
  obtain ⟨f0,f1,f2,_⟩:=hf p.1 hb
  obtain ⟨o,e',d⟩:=ho p.1 hb
  rw [e] at e';cases e'
  exact ⟨e,f0,f1,f2,d⟩
theorem Inv.eW {pins pl:List (Addr×Obj)}{σ:St}{H:Hp}{s:Shared}(I:Inv X (pins++pl) σ H s):Inv X pins σ H s:=I.wB fun p hp=>I.pin p (afl _ (afr _ hp))
theorem bF {iter:Expr}{body:List Stmt}{wi:TI}{g:TG}{tb:TS}{pos:Pos}(hp:PassesOwn (model X.prog X.w) X.A X.env X.xe)(hc:X.calm=true)(hi:PI X tg iter wi)(hg:PG X tg g)(hb:PSs X body tb)
  (hs:∀x,foldedSetIterable iter X.env x=pure x:=by intro _;rfl):PS X (.For tg iter body [] pos) (XB wi g tb):=by
 intro pins s σ H D I h
 refine wpAny_For (bV (hi pins s σ H _ I h) fun v s1 h1=>bV h1 fun PV s2 h2=> ?_) hs
 obtain ⟨it,fp,tn,J,H2,e,I2,T,h_,f2,W,⟨m0,w0⟩,turn⟩:=h2
 subst e
 have stat:∀{H' :Hp},(∀b∈fp,H' b=none)→∀b∈fp,f_ X pins H' b:=fun hn b hb=>⟨hn b hb,(f2 b hb).2⟩
 refine codeAny_forLoop_any (fun n s' =>∃i σ' H',Inv X pins σ' H' s' ∧tn i s'.heap∧(∀b∈fp,H' b=none)∧W i n σ' H') ?_ m0 ⟨0,σ,H2,I2,h_,fun b hb=>(f2 b hb).1,w0⟩
 rintro n s3 ⟨i,σ3,H3,I3,sN,fr3,w3⟩
 rcases turn i n σ3 H3 w3 with ⟨stop,qn⟩ | ⟨go,N,hN,step⟩
 ·refine wpAny_passesOwn hp (bV (T.done X rfl rfl rfl hc i pins s3 σ3 H3 X.xe I3 (stat fr3) sN stop) fun r s4 ⟨hr,I4⟩=> ?_)
  subst hr
  exact wpAny_execs_nil ⟨σ3,H3,I4,qn⟩
 ·refine wpAny_passesOwn hp (bV (T.item X rfl rfl rfl hc i pins s3 σ3 H3 X.xe I3 (stat fr3) sN go) fun r s4 ⟨u,hr,h4⟩=> ?_)
  subst hr
  refine wpAny_passesOwn hp (bV h4 fun _ s5 ⟨x,H5,I5,r5,y5,IY,MG⟩=> ?_)
  have I5' :=I5.pinned (stat MG) (T.obj _ _ IY)
  refine wpAny_passesOwn hp (bV (hg _ s5 σ3 H5 x u _ I5' r5 (step x H5 y5)) fun _ s6 ⟨σ6,H6,I6,q6⟩=> ?_)
  refine wpAny_passesOwn hp (bV (hb _ s6 σ6 H6 _ I6 q6) fun f s7 q7=> ?_)
  have again:∀{σ7:St} {H7:Hp},Inv X (pins++jJ fp s5.heap) σ7 H7 s7→N σ7 H7→∃m,m < n∧∃i σ' H',Inv X pins σ' H' s7∧tn i s7.heap∧(∀b∈fp,H' b=none)∧W i m σ' H' :=fun {σ7 H7} I7 n7=>by
   obtain ⟨m',hm,w7⟩:=hN σ7 H7 n7
   refine ⟨m',hm,i+1,σ7,H7,I7.eW,T.keep _ _ _ IY fun b hb o e=>(I7.pin (b,o) (afl _ (afl _ (dQ hb e)))).1,fun b hb=> ?_,w7⟩
   obtain ⟨o,e,d⟩:=T.obj _ _ IY b hb
   exact (I7.pin (b,o) (afl _ (afl _ (dQ hb e)))).2.1
  cases f with
  | next=>obtain ⟨σ7,H7,I7,n7⟩:=q7;exact again I7 n7
  | cont=>obtain ⟨σ7,H7,I7,n7⟩:=q7;exact again I7 n7
  | brk=>obtain ⟨σ7,H7,I7,q7⟩:=q7;exact ⟨σ7,H7,I7.eW,q7⟩
  | ret v=>obtain ⟨x7,σ7,H7,I7,r7,q7⟩:=q7;exact ⟨x7,σ7,H7,I7.eW,r7,q7⟩
end
theorem bM {K:Frag}{a:Addr}{xs:List V}{g:TG}{tb:TS}{D:Ends}{σ:St}{H:Hp}(Pv:Nat→St→Hp→Prop)(h0:Pv 0 σ H)(hl:∀i σ H,i≤xs.length→Pv i σ H→ba K H a xs)
  (hs:∀i x σ H,xs[i]? =some x→Pv i σ H→g x σ H fun σ2 H2=>tb {D with nx:=Pv (i+1),ct:=Pv (i+1),bk:=D.nx} σ2 H2) (hd:∀σ H,Pv xs.length σ H→D.nx σ H):
  ∃W:Nat→Nat→St→Hp→Prop,(∃m,W 0 m σ H)∧∀i m σ H,W i m σ H→
   ((IX K a).stop i H∧D.nx σ H)∨((IX K a).go i H∧∃N:St→Hp→Prop,(∀σ' H',N σ' H' →∃m',m' < m∧W (i+1) m' σ' H')∧∀x H',(IX K a).AX i H x H' →g x σ H' fun σ2 H2=>tb {D with nx:=N,ct:=N,bk:=D.nx} σ2 H2):=by
 refine ⟨fun i m σ H=>m=xs.length - i∧i≤xs.length∧Pv i σ H,⟨xs.length,by simp,aft _,h0⟩,?_⟩
 rintro i m σ H ⟨rfl,hi,p⟩
 have q:=hl i σ H hi p
 by_cases iU:i < xs.length
 ·refine .inr ⟨⟨xs,xs[i],q,by simp [iU]⟩,Pv (i+1),fun σ' H' p' =>⟨xs.length - (i+1),by omega,rfl,iU,p'⟩,fun x H' y=> ?_⟩
  obtain ⟨e,y⟩:=y
  subst e
  exact hs i x σ _ (y xs q) p
 ·have e:i=xs.length:=by omega
  subst e
  exact .inl ⟨⟨xs,q,aai _⟩,hd σ H p⟩
theorem IZ {K:Frag}{a:Addr}{xs:List V}{g:TG}{tb:TS}{D:Ends}{σ:St}{H:Hp}(Pv:Nat→St→Hp→Prop)(h0:Pv 0 σ H)(hl:∀i σ H,i≤xs.length→Pv i σ H→bK K H a xs)
  (hs:∀i x σ H,xs[i]? =some x→Pv i σ H→g x σ H fun σ2 H2=>tb {D with nx:=Pv (i+1),ct:=Pv (i+1),bk:=D.nx} σ2 H2) (hd:∀σ H,Pv xs.length σ H→D.nx σ H):
  ∃W:Nat→Nat→St→Hp→Prop,(∃m,W 0 m σ H)∧∀i m σ H,W i m σ H→
   ((PX K a).stop i H∧D.nx σ H)∨((PX K a).go i H∧∃N:St→Hp→Prop,(∀σ' H',N σ' H' →∃m',m' < m∧W (i+1) m' σ' H')∧∀x H',(PX K a).AX i H x H' →g x σ H' fun σ2 H2=>tb {D with nx:=N,ct:=N,bk:=D.nx} σ2 H2):=by
 refine ⟨fun i m σ H=>m=xs.length - i∧i≤xs.length∧Pv i σ H,⟨xs.length,by simp,aft _,h0⟩,?_⟩
 rintro i m σ H ⟨rfl,hi,p⟩
 have q:=hl i σ H hi p
 by_cases iU:i < xs.length
 ·refine .inr ⟨⟨xs,xs[i],q,by simp [iU]⟩,Pv (i+1),fun σ' H' p' =>⟨xs.length - (i+1),by omega,rfl,iU,p'⟩,fun x H' y=> ?_⟩
  obtain ⟨e,y⟩:=y
  subst e
  exact hs i x σ _ (y xs q) p
 ·have e:i=xs.length:=by omega
  subst e
  exact .inl ⟨⟨xs,q,aai _⟩,hd σ H p⟩
theorem fJ {lo:Int}{n:Nat}{g:TG}{tb:TS}{D:Ends}{σ:St}{H:Hp}(Pv:Nat→St→Hp→Prop)(h0:Pv 0 σ H)
  (hs:∀i σ H,i < n→Pv i σ H→g (.int (lo+i)) σ H fun σ2 H2=>tb {D with nx:=Pv (i+1),ct:=Pv (i+1),bk:=D.nx} σ2 H2) (hd:∀σ H,Pv n σ H→D.nx σ H):
  ∃W:Nat→Nat→St→Hp→Prop,(∃m,W 0 m σ H)∧∀i m σ H,W i m σ H→
   ((KY lo n).stop i H∧D.nx σ H)∨((KY lo n).go i H∧∃N:St→Hp→Prop,(∀σ' H',N σ' H' →∃m',m' < m∧W (i+1) m' σ' H')∧∀x H',(KY lo n).AX i H x H' →g x σ H' fun σ2 H2=>tb {D with nx:=N,ct:=N,bk:=D.nx} σ2 H2):=by
 refine ⟨fun i m σ H=>m=n - i∧i≤n∧Pv i σ H,⟨n,by simp,aft _,h0⟩,?_⟩
 rintro i m σ H ⟨rfl,hi,p⟩
 by_cases iU:i < n
 ·refine .inr ⟨iU,Pv (i+1),fun σ' H' p' =>⟨n - (i+1),by omega,rfl,iU,p'⟩,fun x H' y=> ?_⟩
  obtain ⟨e,y⟩:=y
  subst e y
  exact hs i σ _ iU p
 ·have e:i=n:=by omega
  subst e
  exact .inl ⟨aai _,hd σ H p⟩
theorem sO {c:TT}{tb:TS}{D:Ends}{σ:St}{H:Hp}(Pv:St→Hp→Prop)(μ:St→Hp→Nat)(h0:Pv σ H)
  (hs:∀σ H,Pv σ H→c σ H fun b H1=>if b=true then tb {D with nx:=fun σ' H' =>Pv σ' H' ∧μ σ' H' < μ σ H,ct:=fun σ' H' =>Pv σ' H' ∧μ σ' H' < μ σ H,bk:=D.nx} σ H1 else D.nx σ H1)
  (mono:∀σ H Q Q',(∀b H1,Q b H1→Q' b H1)→c σ H Q→c σ H Q'):BM c tb D σ H:=by
 refine ⟨fun m σ H=>m=μ σ H∧Pv σ H,⟨_,rfl,h0⟩,?_⟩
 rintro m σ H ⟨rfl,p⟩
 refine mono σ H _ _ (fun b H1 q=> ?_) (hs σ H p)
 cases b with
 | true=>exact ⟨_,fun σ' H' ⟨p',l⟩=>⟨_,l,rfl,p'⟩,q⟩
 | false=>exact q
end L2
namespace L2
open PySem PySem.Spec PyProof.Rows
abbrev R2:=V→V→Hp→VK→Prop
def iV (X:Cx)(f:Value→Value→Sem Value)(r:R2):Prop:=
 ∀(pins:List (Addr×Obj)) (s:Shared) (σ:St) (H:Hp) (x y:V) (v u:Value) (Q:VK),Inv X pins σ H s→RelV x v→RelV y u→r x y H Q→
  wpAny (model X.prog X.w) X.A (f v u) (EP X pins σ Q) X.xe s
def XC (X:Cx)(f:Value→Sem Value)(r:V→Hp→VK→Prop):Prop:=
 ∀(pins:List (Addr×Obj)) (s:Shared) (σ:St) (H:Hp) (x:V) (v:Value) (Q:VK),Inv X pins σ H s→RelV x v→r x H Q→
  wpAny (model X.prog X.w) X.A (f v) (EP X pins σ Q) X.xe s
def eK (X:Cx)(f:Value)(r:List V→Hp→VK→Prop):Prop:=
 ∀(pins:List (Addr×Obj)) (s:Shared) (σ:St) (H:Hp) (xs:List V) (us:List Value) (Q:VK),Inv X pins σ H s→Vals xs us→r xs H Q→
  wpAny (model X.prog X.w) X.A (call f us) (EP X pins σ Q) X.xe s
def MI (r:R2)(ta tb:TE):TE:=fun σ H Q=>ta σ H fun x H1=>tb σ H1 fun y H2=>r x y H2 Q
def tUn (r:V→Hp→VK→Prop)(ta:TE):TE:=fun σ H Q=>ta σ H fun x H1=>r x H1 Q
inductive rI (C:Int→Int→Prop)(g:Int→Int→V)(x:V)(y:V)(H:Hp)(Q:VK):Prop where
 | mk (i j:_) (_:x=.int i) (_:y=.int j) (_:C i j) (_:Q (g i j) H):rI C g x y H Q
inductive K1 (g:Int→Int→V)(x:V)(y:V)(H:Hp)(Q:VK):Prop where
 | mk (i j:_) (_:x=.int i) (_:y=.int j) (_:Q (g i j) H):K1 g x y H Q
inductive rU (g:Int→V)(x:V)(H:Hp)(Q:VK):Prop where
 | mk (i:_) (_:x=.int i) (_:Q (g i) H):rU g x H Q
section
variable {X:Cx}{a b c:Expr}{ta tb tc:TE}{pos:Pos}
theorem MJ (ha:PE X a ta)(hb:PE X b tb){pins:List (Addr×Obj)}{s:Shared}{σ:St}{H:Hp}{R:V→V→Hp→Prop}(I:Inv X pins σ H s)
  (h:ta σ H fun x H1=>tb σ H1 fun y H2=>R x y H2) {Q:Value→Shared→Prop} {f:Value→Value→Sem Value}
  (hf:∀v u s2 x y H2,Inv X pins σ H2 s2→RelV x v→RelV y u→R x y H2→wpAny (model X.prog X.w) X.A (f v u) Q X.xe s2):
  wpAny (model X.prog X.w) X.A (eval a X.env) (fun v s₁=>wpAny (model X.prog X.w) X.A (eval b X.env) (fun u s₂=>wpAny (model X.prog X.w) X.A (f v u) Q X.xe s₂) X.xe s₁) X.xe s:=by
 refine bV (ha pins s σ H _ I h) fun v s1 ⟨x,H1,I1,r1,q1⟩=> ?_
 refine bV (hb pins s1 σ H1 _ I1 q1) fun u s2 ⟨y,H2,I2,r2,q2⟩=> ?_
 exact hf v u s2 x y H2 I2 r1 r2 q2
theorem aL {op:Operator}{r:R2}(ho:iV X (binaryOp op) r)(ha:PE X a ta)(hb:PE X b tb):PE X (.BinOp a op b pos) (MI r ta tb):=by
 intro pins s σ H Q I h
 exact wpAny_BinOp (MJ ha hb I h fun v u s2 x y H2 I2 rx ry q=>ho pins s2 σ H2 x y v u Q I2 rx ry q)
theorem K2 {op:UnaryOp}{r:V→Hp→VK→Prop}(ho:XC X (unaryOp op) r)(ha:PE X a ta):PE X (.UnaryOp op a pos) (tUn r ta):=by
 intro pins s σ H Q I h
 exact UnaryOp_ (bV (ha pins s σ H _ I h) fun v s1 ⟨x,H1,I1,r1,q1⟩=>ho pins s1 σ H1 x v Q I1 r1 q1)
theorem Ws {f:Value→Value→Sem Value}{C:Int→Int→Prop}{g:Int→Int→Int}
  (rule:∀(i j:Int) (t u:Tok) (s:Shared) (Q:Value→Shared→Prop) (E:Value→Shared→Prop),C i j→Q (.int (g i j) s.toks) {s with toks:=s.toks+1}→wpAny (model X.prog X.w) X.A (f (.int i t) (.int j u)) Q E s):
  iV X f (rI C fun i j=>.int (g i j)):=by
 intro pins s σ H x y v u Q I rx ry h
 obtain ⟨i,j,rfl,rfl,hc,q⟩:=h
 obtain ⟨t,rfl⟩:=rx
 obtain ⟨t',rfl⟩:=ry
 exact rule i j t t' s _ _ hc ⟨.int (g i j),H,I.tok _,⟨_,rfl⟩,q⟩
theorem PZ {f:Value→Value→Sem Value}{g:Int→Int→Int}
  (rule:∀(i j:Int) (t u:Tok) (s:Shared) (Q:Value→Shared→Prop) (E:Value→Shared→Prop),Q (.int (g i j) s.toks) {s with toks:=s.toks+1}→wpAny (model X.prog X.w) X.A (f (.int i t) (.int j u)) Q E s):
  iV X f (K1 fun i j=>.int (g i j)):=by
 intro pins s σ H x y v u Q I rx ry h
 obtain ⟨i,j,rfl,rfl,q⟩:=h
 obtain ⟨t,rfl⟩:=rx
 obtain ⟨t',rfl⟩:=ry
 exact rule i j t t' s _ _ ⟨.int (g i j),H,I.tok _,⟨_,rfl⟩,q⟩
theorem MK {f:Value→Value→Sem Value}{g:Int→Int→Bool}
  (rule:∀(i j:Int) (t u:Tok) (s:Shared) (Q:Value→Shared→Prop) (E:Value→Shared→Prop),Q (.bool (g i j)) s→wpAny (model X.prog X.w) X.A (f (.int i t) (.int j u)) Q E s):
  iV X f (K1 fun i j=>.bl (g i j)):=by
 intro pins s σ H x y v u Q I rx ry h
 obtain ⟨i,j,rfl,rfl,q⟩:=h
 obtain ⟨t,rfl⟩:=rx
 obtain ⟨t',rfl⟩:=ry
 exact rule i j t t' s _ _ ⟨.bl (g i j),H,I,rfl,q⟩
theorem cp:iV X (binaryOp .Add) (K1 fun i j=>.int (i+j)):=PZ fun _ _ _ _ _ _ _ q=>add_int q
theorem dR:iV X (binaryOp .Sub) (K1 fun i j=>.int (i - j)):=PZ fun _ _ _ _ _ _ _ q=>sub_int q
theorem I_:iV X (binaryOp .Mod) (rI (fun _ j=>j≠0) fun i j=>.int (i.fmod j)):=Ws fun _ _ _ _ _ _ _ hc q=>mod_int' hc q
theorem unI {f:Value→Sem Value}{g:Int→Int}
  (rule:∀(i:Int) (t:Tok) (s:Shared) (Q:Value→Shared→Prop) (E:Value→Shared→Prop),Q (.int (g i) s.toks) {s with toks:=s.toks+1}→wpAny (model X.prog X.w) X.A (f (.int i t)) Q E s):
  XC X f (rU fun i=>.int (g i)):=by
 intro pins s σ H x v Q I rx h
 obtain ⟨i,rfl,q⟩:=h
 obtain ⟨t,rfl⟩:=rx
 exact rule i t s _ _ ⟨.int (g i),H,I.tok _,⟨_,rfl⟩,q⟩
theorem BQ:XC X (unaryOp .USub) (rU fun i=>.int (-i)):=unI fun _ _ _ _ _ q=>neg_int q
end
def P0:V→V→Bool
 | .cb,.cb=>true | .cb,.int _=>true | .int _,.cb=>true | .cb,.bl _=>true | .bl _,.cb=>true | .cb,.str _=>true | .str _,.cb=>true
 | .int _,.int _=>true | .bl _,.bl _=>true | .str _,.str _=>true | .byt _,.byt _=>true
 | .int _,.str _=>true | .str _,.int _=>true | .bl _,.str _=>true | .str _,.bl _=>true
 | _,_=>false
def rEq:R2:=fun x y H Q=>P0 x y=true∧Q (.bl (decide (x=y))) H
def rNe:R2:=fun x y H Q=>P0 x y=true∧Q (.bl (!decide (x=y))) H
theorem wH {i j:Int}:decide (V.int i=V.int j)=(i==j):=by
 rw [afA]
 simp
theorem BR {i j:Bool}:decide (V.bl i=V.bl j)=(i==j):=by
 rw [afA]
 simp
theorem wI {i j:Str}:decide (V.str i=V.str j)=(i==j):=by
 rw [afA]
 simp
theorem wJ {i j:Array UInt8}:decide (V.byt i=V.byt j)=(i.toList==j.toList):=by
 rw [afA]
 cases i
 cases j
 simp
section
variable {X:Cx}{a b c:Expr}{ta tb tc:TE}{pos:Pos}
theorem bx {pins:List (Addr×Obj)}{σ:St}{H:Hp}{s:Shared}{Q:VK}{k k' :Bool}(I:Inv X pins σ H s)(q:Q (.bl k) H)(e:k=k'):EP X pins σ Q (.bool k') s:=by
 subst e
 exact ⟨.bl k,H,I,rfl,q⟩
theorem d5:iV X (compareOp .Eq) rEq:=by
 intro pins s σ H x y v u Q I rx ry h
 obtain ⟨hs,q⟩:=h
 cases x with
 | cb=>
  cases rx
  cases y with
  | cb=>cases ry;exact PySem.EqNone.eq_none_none (bx I q (by simp))
  | bl j=>cases ry;exact PySem.EqNone.eq_none_bool (bx I q (by simp))
  | int j=>obtain ⟨t',rfl⟩:=ry;exact PySem.EqNone.eq_none_int (bx I q (by simp))
  | str j=>obtain ⟨t',rfl⟩:=ry;exact PySem.EqNone.eq_none_str (bx I q (by simp))
  | _=>exact absurd (show false=true from hs) ad_
 | bl i=>
  cases rx
  cases y with
  | cb=>cases ry;exact PySem.EqNone.eq_bool_none (bx I q (by simp))
  | bl j=>cases ry;exact eq_bool (bx I q BR)
  | str j=>obtain ⟨t',rfl⟩:=ry;exact PySem.EqMixed.eq_bool_str (bx I q (by simp))
  | _=>exact absurd (show false=true from hs) ad_
 | int i=>
  obtain ⟨t,rfl⟩:=rx
  cases y with
  | cb=>cases ry;exact PySem.EqNone.eq_int_none (bx I q (by simp))
  | int j=>obtain ⟨t',rfl⟩:=ry;exact eq_int (bx I q wH)
  | str j=>obtain ⟨t',rfl⟩:=ry;exact PySem.EqMixed.eq_int_str (bx I q (by simp))
  | _=>exact absurd (show false=true from hs) ad_
 | str i=>
  obtain ⟨t,rfl⟩:=rx
  cases y with
  | cb=>cases ry;exact PySem.EqNone.eq_str_none (bx I q (by simp))
  | bl j=>cases ry;exact PySem.EqMixed.eq_str_bool (bx I q (by simp))
  | int j=>obtain ⟨t',rfl⟩:=ry;exact PySem.EqMixed.eq_str_int (bx I q (by simp))
  | str j=>obtain ⟨t',rfl⟩:=ry;exact eq_str (bx I q wI)
  | _=>exact absurd (show false=true from hs) ad_
 | byt i=>
  obtain ⟨t,rfl⟩:=rx
  cases y with
  | byt j=>obtain ⟨t',rfl⟩:=ry;exact PySem.W.eq_bytes (bx I q wJ)
  | _=>exact absurd (show false=true from hs) ad_
 | _=>cases y <;> exact absurd (show false=true from hs) ad_
theorem kh:iV X (compareOp .NotEq) rNe:=by
 intro pins s σ H x y v u Q I rx ry h
 obtain ⟨hs,q⟩:=h
 cases x with
 | cb=>
  cases rx
  cases y with
  | cb=>cases ry;exact PySem.EqNone.ne_none_none (bx I q (by simp))
  | bl j=>cases ry;exact PySem.EqNone.ne_none_bool (bx I q (by simp))
  | int j=>obtain ⟨t',rfl⟩:=ry;exact PySem.EqNone.ne_none_int (bx I q (by simp))
  | str j=>obtain ⟨t',rfl⟩:=ry;exact PySem.EqNone.ne_none_str (bx I q (by simp))
  | _=>exact absurd (show false=true from hs) ad_
 | bl i=>
  cases rx
  cases y with
  | cb=>cases ry;exact PySem.EqNone.ne_bool_none (bx I q (by simp))
  | bl j=>cases ry;exact ne_bool (bx I q (congrArg not BR))
  | str j=>obtain ⟨t',rfl⟩:=ry;exact PySem.EqMixed.ne_bool_str (bx I q (by simp))
  | _=>exact absurd (show false=true from hs) ad_
 | int i=>
  obtain ⟨t,rfl⟩:=rx
  cases y with
  | cb=>cases ry;exact PySem.EqNone.ne_int_none (bx I q (by simp))
  | int j=>obtain ⟨t',rfl⟩:=ry;exact ne_int (bx I q (congrArg not wH))
  | str j=>obtain ⟨t',rfl⟩:=ry;exact PySem.EqMixed.ne_int_str (bx I q (by simp))
  | _=>exact absurd (show false=true from hs) ad_
 | str i=>
  obtain ⟨t,rfl⟩:=rx
  cases y with
  | cb=>cases ry;exact PySem.EqNone.ne_str_none (bx I q (by simp))
  | bl j=>cases ry;exact PySem.EqMixed.ne_str_bool (bx I q (by simp))
  | int j=>obtain ⟨t',rfl⟩:=ry;exact PySem.EqMixed.ne_str_int (bx I q (by simp))
  | str j=>obtain ⟨t',rfl⟩:=ry;exact ne_str (bx I q (congrArg not wI))
  | _=>exact absurd (show false=true from hs) ad_
 | byt i=>
  obtain ⟨t,rfl⟩:=rx
  cases y with
  | byt j=>obtain ⟨t',rfl⟩:=ry;exact PySem.W.ne_bytes (bx I q (congrArg not wJ))
  | _=>exact absurd (show false=true from hs) ad_
 | _=>cases y <;> exact absurd (show false=true from hs) ad_
theorem sQ:iV X (compareOp .Lt) (K1 fun i j=>.bl (decide (i < j))):=MK fun _ _ _ _ _ _ _ q=>lt_int q
theorem wK:iV X (compareOp .Gt) (K1 fun i j=>.bl (decide (j < i))):=MK fun _ _ _ _ _ _ _ q=>gt_int q
theorem K3:iV X (compareOp .GtE) (K1 fun i j=>.bl (decide (j≤i))):=MK fun _ _ _ _ _ _ _ q=>ge_int q
theorem vb:iV X (compareOp .Is) (fun x y H Q=>y=.cb∧Q (.bl (decide (x=.cb))) H):=by
 intro pins s σ H x y v u Q I rx ry h
 obtain ⟨rfl,q⟩:=h
 cases ry
 refine is_none_gen (bx I q ?_)
 cases x <;> first
  | (cases rx;rfl)
  | (obtain ⟨t,rfl⟩:=rx;rfl)
theorem aV (b:Expr){op:CmpOp}(h:op≠.In:=by decide)(h2:op≠.NotIn:=by decide):behindInMarks op b=false:=by
 have e1:(op==CmpOp.In)=false:=by cases op <;> first | rfl | exact absurd rfl h
 have e2:(op==CmpOp.NotIn)=false:=by cases op <;> first | rfl | exact absurd rfl h2
 cases b <;> simp [behindInMarks,e1,e2]
theorem gX {op:CmpOp}{r:R2}(ho:iV X (compareOp op) r)(ha:PE X a ta)(hb:PE X b tb)(hm:behindInMarks op b=false):PE X (.Compare a [op] [b] pos) (MI r ta tb):=by
 intro pins s σ H Q I h
 exact wpAny_Compare1 (MJ ha hb I h fun v u s2 x y H2 I2 rx ry q=>ho pins s2 σ H2 x y v u Q I2 rx ry q) hm
inductive BS (Q:(Bool→Hp→Prop))(x:V)(H' :Hp):Prop where
 | mk (k:_) (_:x=.bl k) (_:Q k H'):BS Q x H'
def P1 (t:TE):TT:=fun σ H Q=>t σ H fun x H' =>BS Q x H'
theorem aQ {op:CmpOp}{r:R2}(ho:iV X (compareOp op) r)(ha:PE X a ta)(hb:PE X b tb)(hm:behindInMarks op b=false):PT X (.Compare a [op] [b] pos) (P1 (MI r ta tb)):=by
 intro pins s σ H Q I h
 refine wpAny_isTrue_Compare1 (bV (ha pins s σ H _ I h) fun v s1 ⟨x,H1,I1,r1,q1⟩=>bV (hb pins s1 σ H1 _ I1 q1) fun u s2 ⟨y,H2,I2,r2,q2⟩=>
  bV (ho pins s2 σ H2 x y v u _ I2 r1 r2 q2) fun c s3 ⟨z,H3,I3,r3,k,e,q3⟩=> ?_) hm
 subst e
 cases r3
 exact wpAny_truthy_bool ⟨H3,I3,q3⟩
theorem md:(sizeLine:Nat) < 2^63:=by rw [sizeLine_eq];decide
theorem iI:iV X (binaryOp .Add) (fun x y H Q=>∃i j,x=.str i∧y=.str j∧i.length+j.length≤sizeLine∧Q (.str (i++j)) H):=by
 intro pins s σ H x y v u Q I rx ry h
 obtain ⟨i,j,rfl,rfl,hz,q⟩:=h
 obtain ⟨t,rfl⟩:=rx
 obtain ⟨t',rfl⟩:=ry
 exact add_str (fun t' tk=>⟨.str (i++j),H,I.tok _,⟨_,rfl⟩,q⟩) hz
theorem vals1 {x:V}{us:List Value}(r:Vals [x] us):∃u,us=[u]∧RelV x u:=by
 cases r with
 | cons r1 r2=>cases r2;exact ⟨_,rfl,r1⟩
theorem vals2 {x y:V}{us:List Value}(r:Vals [x,y] us):∃u w',us=[u,w']∧RelV x u∧RelV y w' :=by
 cases r with
 | cons r1 r2=>
  cases r2 with
  | cons r3 r4=>cases r4;exact ⟨_,_,rfl,r1,r3⟩
theorem sR:eK X (.builtin "abs") (fun xs H Q=>∃i,xs=[.int i]∧Q (.int (if i < 0 then -i else i)) H):=by
 intro pins s σ H xs us Q I r h
 obtain ⟨i,rfl,q⟩:=h
 obtain ⟨u,rfl,t,rfl⟩:=vals1 r
 exact call_abs_int fun u tk=>⟨.int (if i < 0 then -i else i),H,I.tok _,⟨_,rfl⟩,q⟩
theorem yl (hc:X.calm=true):eK X (.builtin "min") (fun xs H Q=>∃i j,xs=[.int i,.int j]∧Q (.int (if j < i then j else i)) H):=by
 intro pins s σ H xs us Q I r h
 obtain ⟨i,j,rfl,q⟩:=h
 obtain ⟨u,w',rfl,⟨t,rfl⟩,⟨t',rfl⟩⟩:=vals2 r
 refine min_two_ints (I.ok.hd hc) fun h' tk k=>⟨_,H,I.kept k,?_,q⟩
 by_cases hj:j < i
 ·rw [if_pos hj,if_pos hj];exact ⟨_,rfl⟩
 ·rw [if_neg hj,if_neg hj];exact ⟨_,rfl⟩
theorem pE:eK X (.type "int") (fun xs H Q=>(∃i,xs=[.int i]∧Q (.int i) H)∨∃k,xs=[.bl k]∧Q (.int (if k then 1 else 0)) H):=by
 intro pins s σ H xs us Q I r h
 rcases h with ⟨i,rfl,q⟩ | ⟨k,rfl,q⟩
 ·obtain ⟨u,rfl,t,rfl⟩:=vals1 r
  exact call_int_int ⟨.int i,H,I,⟨_,rfl⟩,q⟩
 ·obtain ⟨u,rfl,r1⟩:=vals1 r
  cases r1
  exact call_int_bool ⟨.int (if k then 1 else 0),H,I.tok _,⟨_,rfl⟩,q⟩
theorem qF:eK X (.type "str") (fun xs H Q=>∃i,xs=[.int i]∧i.natAbs.log2 < 1920∧Q (.str (toString i)) H):=by
 intro pins s σ H xs us Q I r h
 obtain ⟨i,rfl,hz,q⟩:=h
 obtain ⟨u,rfl,t,rfl⟩:=vals1 r
 exact PySem.P.str_of_int hz ⟨.str _,H,I.tok _,⟨_,rfl⟩,q⟩
end
end L2
namespace L2
open PySem PySem.Spec PyProof.Rows
structure vc (h:Heap)(x dx C:Addr)(mA:Str→Option Value):Prop where
 obj:h.get? x=some (PySem.W.instObj C dx)
 ns:h.Ns1 dx mA
 ne:dx≠x
theorem ym {h:Heap}{dx:Addr}{mA:Str→Option Value}(n:h.Ns1 dx mA):∃od,h.get? dx=some od∧∀name,PySem.W.lookIn name od=some (mA name):=by
 obtain ⟨o,es,ep,ho,hd,hk,_,hm⟩:=n
 refine ⟨o,ho,fun name=> ?_⟩
 have e:=hm name
 unfold nsFind findBy at e
 rw [← Array.find?_toList] at e
 unfold PySem.W.lookIn
 rw [hd]
 dsimp only
 split
 ·rename_i y q
  rw [q] at e
  exact congrArg some e
 ·rename_i q
  rw [q] at e
  have a:es.toList.any (·.refKey)=false:=by
   rw [List.any_eq_false]
   intro y hy
   obtain ⟨z,t,MM⟩:=hk y (Array.mem_toList_iff.mp hy)
   simp [DictEntry.refKey,MM]
  have a' :¬ es.toList.any (·.refKey)=true:=by rw [a];exact ad_
  rw [if_neg a']
  exact congrArg some e
theorem vc.look {h:Heap}{x dx C:Addr}{mA:Str→Option Value}(I:vc h x dx C mA):∃od,PySem.W.InstAt h x (PySem.W.instObj C dx) C (some od)∧∀name,PySem.W.lookIn name od=some (mA name):=
 let ⟨od,ho,hl⟩:=ym I.ns
 ⟨od,⟨I.obj,rfl,rfl,ho⟩,hl⟩
section
variable {prog:Program}{w:World}{A:Around}{E:Value→Shared→Prop}{s:Shared}{K:Frag}{x dx C f:Addr}{mA:Str→Option Value}{name:Str}{v:Value}
theorem get_map {expr:Bool}{Q:Value→Shared→Prop}(X:K.In s.heap)(I:vc s.heap x dx C mA)(hg:PySem.W.plainGet K C name=true)(hh:PySem.W.hasDictIn K C=true)
  (ha:PySem.W.findIn K (.ref C) name=some none) (hv:mA name=some v) (Ja :PySem.W.handedIn v=true) (h:Q v {s with toks:=s.toks+1}):
  wpAny (model prog w) A (getAttr (.ref x) name expr) Q E s:=by
 obtain ⟨od,J,hl⟩:=I.look
 exact PySem.W.get_value X J (PySem.W.plainGet_of hg).1 (PySem.W.findObj_own hh ha rfl (by rw [hl,hv])) Ja h
theorem BU {pl:Sem Bool}{Q:Value×List Value→Shared→Prop}(X:K.In s.heap)(I:vc s.heap x dx C mA)(hg:PySem.W.plainGet K C name=true)
  (hf:PySem.W.findIn K (.ref C) name=some (some (.ref f))) (ht:PySem.W.isFn K (.ref f)=true) (hv:mA name=none) (h:Q (.ref f,[.ref x]) s):
  wpAny (model prog w) A (getMethod (.ref x) name pl) Q E s:=by
 obtain ⟨od,J,hl⟩:=I.look
 exact PySem.W.method_fn X J (PySem.W.plainGet_of hg).1 (PySem.W.plainGet_of hg).2 hf (beq_iff_eq.mp ht) (by show (PySem.W.lookIn name od).map (·.isSome)=some false;rw [hl,hv];rfl) h
theorem Jb {ns:List Str}{Q:Unit→Shared→Prop}(X:K.In s.heap)(I:vc s.heap x dx C mA)
  (hs:PySem.W.findIn K (.ref C) "__setattr__"=some (some (.builtin "object.__setattr__"))) (hp:PySem.W.plainOver K C=true) (ht:PySem.W.takerIn K C name=some none) (hh:PySem.W.hasDictIn K C=true)
  (hw:PySem.Within mA ns) (hsz:ns.length≤sizeLine)
  (h:∀h',vc h' x dx C (fun y=>if y=name then some v else mA y)→Heap.SameBut dx s.heap h' →Q () {s with heap:=h',toks:=s.toks+2}):
  wpAny (model prog w) A (setAttr (.ref x) name v) Q E s:=by
 obtain ⟨od,J,hl⟩:=I.look
 refine PySem.W.set_plain X J hs (PySem.W.osa_open (s:={s with toks:=s.toks+1}) (r:=none) X J hp ht fun b=> ?_)
 obtain ⟨cd,hc,yi⟩:=PySem.W.any_some hh
 have hx:s.heap.get? x=some ⟨.ref C,some dx,.plain, #[]⟩:=I.obj
 refine wpAny_bind (wpAny_pure (wpAny_bind (wpAny_bind (wpAny_loadPart hx (wpAny_bind (PySem.W.Looks.here (s:={s with toks:=s.toks+1}) (PySem.W.looks_clsIn X hc) ?_))))))
 rw [yi]
 refine wpAny_pure (a:=some dx) (wpAny_bind (wpAny_pure (wpAny_bind ?_)))
 refine wpAny_nsSet1 (s:={s with toks:=s.toks+1}) I.ns fun h' yn K4=> ?_
 obtain ⟨oD,esD,epD,hoD,hdD,hcD⟩:=yn.count (PySem.Within.cons name v hw)
 refine wpAny_bind (wpAny_lookBehind hoD (by rw [hdD];exact pastItsLine_dict (aaj hcD (by rw [afu];omega))) ?_)
 exact wpAny_pure (h _ ⟨(K4.2 _ (afk I.ne)).trans I.obj,yn,I.ne⟩ K4)
theorem BV {R:Result→Shared→Prop}{vs:List Value}{kw:List (Str×Value)}(X:K.In s.heap)(hm:PySem.W.makesIn K C=true)
  (hi:PySem.W.findIn K (.ref C) "__init__"=some (some (.ref f))) (hf:PySem.W.typeIn K (.ref f)=some (.type "function"))
  (h:codeAny (model prog w) (A.under (.builtin "type.__call__" ⟨.ref C::vs,kw⟩)) (.call (.ref f) ⟨.ref (s.heap.objs.size+1)::vs,kw⟩) (PySem.W.InitBack (s.heap.objs.size+1) R)
   {s with heap:=(s.heap.push PySem.W.emptyDict).push (PySem.W.instObj C s.heap.objs.size)}):
  codeAny (model prog w) A (.call (.ref C) ⟨vs,kw⟩) R s:=by
 obtain ⟨hh,g,d,t,os⟩:=s
 exact PySem.W.make_core (PySem.W.makes_of X hm) (PySem.W.looks_findIn X hi) (fun self=>PySem.W.bind_fn X self hf) (.inl rfl) h
theorem yo {R:Result→Shared→Prop}(X:K.In s.heap)(hm:PySem.W.makesIn K C=true)
  (hi:PySem.W.findIn K (.ref C) "__init__"=some (some (.builtin "object.__init__")))
  (hb:∀self,PySem.W.Looks (model prog w) s.heap (bindSpecial (.builtin "object.__init__") self) (.builtin "object.__init__",[self]))
  (h:codeAny (model prog w) (A.under (.builtin "type.__call__" ⟨[.ref C],[]⟩)) (.call (.builtin "object.__init__") ⟨[.ref (s.heap.objs.size+1)],[]⟩) (PySem.W.InitBack (s.heap.objs.size+1) R)
   {s with heap:=(s.heap.push PySem.W.emptyDict).push (PySem.W.instObj C s.heap.objs.size)}):
  codeAny (model prog w) A (.call (.ref C) ⟨[],[]⟩) R s:=by
 obtain ⟨hh,g,d,t,os⟩:=s
 exact PySem.W.make_core (PySem.W.makes_of X hm) (PySem.W.looks_findIn X hi) hb (.inr ⟨rfl,rfl⟩) h
end
def fw (f:Str)(v:V):List (Str×V)→List (Str×V)
 | []=>[(f,v)]
 | (g,x)::r=>if g=f then (g,v)::r else (g,x)::fw f v r
theorem ki (f g:Str)(v:V):∀fs:List (Str×V),(fw f v fs).lookup g=if g=f then some v else fs.lookup g
 | []=>by
  show af' g [(f,v)]=_
  by_cases h:g=f
  ·have hb:(g==f)=true:=beq_iff_eq.mpr h
   simp only [af',hb,if_pos h]
  ·have hb:(g==f)=false:=beq_eq_false_iff_ne.mpr h
   simp only [af',hb,if_neg h]
 | (k,x)::r=>by
  have ih:=ki f g v r
  rw [show fw f v ((k,x)::r)=(if k=f then (k,v)::r else (k,x)::fw f v r) from rfl]
  by_cases hk:k=f
  ·rw [if_pos hk]
   by_cases h:g=k
   ·have hb:(g==k)=true:=beq_iff_eq.mpr h
    simp only [af',hb,if_pos (h.trans hk)]
   ·have hb:(g==k)=false:=beq_eq_false_iff_ne.mpr h
    simp only [af',hb,if_neg (fun e:g=f=>h (e.trans hk.symm))]
  ·rw [if_neg hk]
   by_cases h:g=k
   ·have hb:(g==k)=true:=beq_iff_eq.mpr h
    simp only [af',hb,if_neg (fun e:g=f=>hk (h.symm.trans e))]
   ·have hb:(g==k)=false:=beq_eq_false_iff_ne.mpr h
    simp only [af',hb]
    exact ih
theorem jK (f:Str)(v:V):∀fs:List (Str×V),f∈(fw f v fs).map (·.1)∧∀g,g∈fs.map (·.1)→g∈(fw f v fs).map (·.1)
 | []=>⟨by simp [fw],fun g h=>by simp at h⟩
 | (k,x)::r=>by
  obtain ⟨i1,i2⟩:=jK f v r
  rw [show fw f v ((k,x)::r)=(if k=f then (k,v)::r else (k,x)::fw f v r) from rfl]
  by_cases hk:k=f
  ·rw [if_pos hk]
   subst hk
   exact ⟨by simp,fun g h=>by simpa using h⟩
  ·rw [if_neg hk]
   refine ⟨?_,fun g h=> ?_⟩
   ·rw [ac_]
    exact aa_ _ i1
   ·rw [ac_] at h ⊢
    rcases afo.mp h with e | e
    ·exact afo.mpr (.inl e)
    ·exact aa_ _ (i2 g e)
theorem km (f:Str)(v:V):∀fs:List (Str×V),(fw f v fs).length≤fs.length+1
 | []=>by simp [fw]
 | (k,x)::r=>by
  have ih:=km f v r
  rw [show fw f v ((k,x)::r)=(if k=f then (k,v)::r else (k,x)::fw f v r) from rfl]
  by_cases hk:k=f
  ·rw [if_pos hk,afu,afu];omega
  ·rw [if_neg hk,afu,afu];omega
theorem f7.some_of {v:V}{o:Option Value}(r:f7 (some v) o):∃u,o=some u∧RelV v u:=by
 cases o with
 | none=>exact (show False from r).elim
 | some u=>exact ⟨u,rfl,r⟩
theorem f7.none_of {o:Option Value}(r:f7 none o):o=none:=by
 cases o with
 | none=>rfl
 | some u=>exact (show False from r).elim
theorem yp {v:V}{u:Value}(r:RelV v u):PySem.W.handedIn u=true:=by
 cases v with
 | cb=>cases (show u=Value.none from r);rfl
 | bl b=>cases (show u=Value.bool b from r);rfl
 | int i=>obtain ⟨t,e⟩:=(show ∃t,u=Value.int i t from r);cases e;rfl
 | str x=>obtain ⟨t,e⟩:=(show ∃t,u=Value.str x t from r);cases e;rfl
 | byt b=>obtain ⟨t,e⟩:=(show ∃t,u=Value.bytes b t from r);cases e;rfl
 | Mr b=>obtain ⟨t,e⟩:=(show ∃t,u=Value.float b t from r);cases e;rfl
 | ref a=>cases (show u=Value.ref a from r);rfl
 | ty n=>cases (show u=Value.type n from r);rfl
section
variable {P:Program}{w:World}{H H' :Hp}{h h' :Heap}{a C dx:Addr}{fs fs' :List (Str×V)}
theorem lE (bt:h8 P w H h)(e:H a=some (.ins C dx fs)):∃mA,vc h a dx C mA∧(∀f,f7 (fs.lookup f) (mA f))∧PySem.Within mA (fs.map (·.1))∧fs.length≤1000∧H dx=some (.own a):=by
 obtain ⟨d,z,ne,ob,mA,n,r,q⟩:=(show bS P w H h a (.ins C dx fs) from bt a _ e)
 exact ⟨mA,⟨ob,n,ne⟩,r,q,z,d⟩
end
structure sS (K:Frag)(C:Addr):Prop where
 pg:PySem.W.plainGet K C Str.empty=true
 hd:PySem.W.hasDictIn K C=true
 po:PySem.W.plainOver K C=true
 sa:PySem.W.findIn K (.ref C) "__setattr__"=some (some (.builtin "object.__setattr__"))
theorem sS.get {K:Frag}{C:Addr}(c:sS K C)(f:Str):PySem.W.plainGet K C f=true:=c.pg
def eY (K:Frag)(C:Addr)(f:Str):Prop:=PySem.W.findIn K (.ref C) f=some none
theorem eY.P2 {K:Frag}{C:Addr}{f:Str}(n:eY K C f):PySem.W.takerIn K C f=some none:=by
 unfold PySem.W.takerIn
 rw [show PySem.W.findIn K (.ref C) f=some none from n]
 rfl
structure Meth (K:Frag)(C:Addr)(m:Str)(f:Addr):Prop where
 at_:PySem.W.findIn K (.ref C) m=some (some (.ref f))
 fn:PySem.W.isFn K (.ref f)=true
 kp:keepIn K (.ref f)=true
section
variable {X:Cx}{pins:List (Addr×Obj)}{σ:St}{H:Hp}{s:Shared}{a C dx:Addr}{fs:List (Str×V)}{f:Str}{v:V}{A:Around}{E:Value→Shared→Prop}
theorem vd {b:Bool}{Q:Value→Shared→Prop}(I:Inv X pins σ H s)(e:H a=some (.ins C dx fs))(c:sS X.K C)(n:eY X.K C f)(l:fs.lookup f=some v)
  (h:∀u s',Inv X pins σ H s' →RelV v u→Q u s'):wpAny (model X.prog X.w) A (getAttr (.ref a) f b) Q E s:=by
 obtain ⟨mA,O,r,_,_,_⟩:=lE I.bt e
 obtain ⟨u,hu,ru⟩:=f7.some_of (v:=v) (o:=mA f) (by rw [← l];exact r f)
 exact get_map I.iH O (c.get f) c.hd n hu (yp ru) (h u _ (I.tok _) ru)
theorem iJ {m:Str}{g:Addr}{pl:Sem Bool}{Q:Value×List Value→Shared→Prop}(I:Inv X pins σ H s)(e:H a=some (.ins C dx fs))(c:sS X.K C)(k:Meth X.K C m g)(l:fs.lookup m=none)
  (h:Q (.ref g,[.ref a]) s):wpAny (model X.prog X.w) A (getMethod (.ref a) m pl) Q E s:=by
 obtain ⟨mA,O,r,_,_,_⟩:=lE I.bt e
 have hn:mA m=none:=f7.none_of (by rw [← l];exact r m)
 exact BU I.iH O (c.get m) k.at_ k.fn hn h
theorem ve {y:V}{u:Value}{Q:Unit→Shared→Prop}(I:Inv X pins σ H s)(e:H a=some (.ins C dx fs))(c:sS X.K C)(n:eY X.K C f)(hl:fs.length < 1000)(ry:RelV y u)
  (h:∀s',Inv X pins σ (upd H a (.ins C dx (fw f y fs))) s' →Q () s'):wpAny (model X.prog X.w) A (setAttr (.ref a) f u) Q E s:=by
 obtain ⟨mA,O,r,wi,_,ho⟩:=lE I.bt e
 have hz:(fs.map (·.1)).length≤sizeLine:=by rw [aaa,sizeLine_eq];omega
 refine Jb I.iH O c.sa c.po n.P2 c.hd wi hz fun h' O' sb=>h _ ?_
 have hd:∃o,h'.get? dx=some o:=let ⟨o,_,_,e',_⟩:=O'.ns;⟨o,e'⟩
 refine I.write (x:=a) (e:=dx) (by rw [e];exact True.intro) (.inr ho) (fun b q hb z=>(sb.2 b hb).trans z) hd ?_
 refine ⟨by rw [ao O.ne];exact ho,?_,O.ne,O'.obj,_,O'.ns,fun g=> ?_,fun g hg=> ?_⟩
 ·have:=km f y fs;omega
 ·show f7 ((fw f y fs).lookup g) (if g=f then some u else mA g)
  rw [ki]
  by_cases q:g=f
  ·rw [if_pos q,if_pos q];exact ry
  ·rw [if_neg q,if_neg q];exact r g
 ·by_cases q:g=f
  ·rw [q];exact (jK f y fs).1
  ·refine (jK f y fs).2 g (wi g fun z=>hg ?_)
   show (if g=f then some u else mA g)=none
   rw [if_neg q];exact z
theorem Inv.made (I:Inv X pins σ H s):Inv X pins σ (upd (upd H s.heap.objs.size (.own (s.heap.objs.size+1))) (s.heap.objs.size+1) (.ins C s.heap.objs.size []))
  {s with heap:=(s.heap.push PySem.W.emptyDict).push (PySem.W.instObj C s.heap.objs.size)}:=by
 have e1:(s.heap.push PySem.W.emptyDict).get? s.heap.objs.size=some PySem.W.emptyDict:=Heap.get?_push_size s.heap rfl
 have e2:((s.heap.push PySem.W.emptyDict).push (PySem.W.instObj C s.heap.objs.size)).get? (s.heap.objs.size+1)=some (PySem.W.instObj C s.heap.objs.size):=by
  have:=Heap.get?_push_size (s.heap.push PySem.W.emptyDict) (o:=PySem.W.instObj C s.heap.objs.size) rfl
  rwa [Heap.size_push] at this
 have e3:(s.heap.push PySem.W.emptyDict).Ns s.heap.objs.size (fun _=>none):=⟨PySem.W.emptyDict, #[],_,e1,rfl,(fun e he=>absurd he (by simp)),fun _=>rfl⟩
 have I1:=I.laid (a:=s.heap.objs.size) (o:=.own (s.heap.objs.size+1)) (h' :=s.heap.push PySem.W.emptyDict) (t' :=s.toks) (fun b u q=>Heap.get?_push_of_some _ q) (aai _) ⟨_,e1⟩
 refine I1.laid (a:=s.heap.objs.size+1) (o:=.ins C s.heap.objs.size []) (t' :=s.toks) (fun b u q=>Heap.get?_push_of_some _ q) (anu (Heap.size_push _ _)) ?_
 have ne:s.heap.objs.size≠s.heap.objs.size+1:=afn (afF _)
 refine ⟨by rw [ao ne,ak],aft _,ne,e2,fun _=>none,(Heap.Ns1.of_empty e3).at fun o q=>Heap.get?_push_of_some _ q,fun _=>True.intro,fun y hy=>absurd rfl hy⟩
theorem Jc {prog:Program}{w:World}{env:Env}{e:Expr}{f:Str}{pos:Pos}{s:Shared}{Q:Value→Shared→Prop}(hb:attributeBase e f env (eval e env)=eval e env)
  (h:wpAny (model prog w) A (eval e env) (fun o s₁=>wpAny (model prog w) A (getAttr o f true) Q E s₁) E s):wpAny (model prog w) A (eval (.Attribute e f pos) env) Q E s:=
 Attribute_any_ h (by rw [arm_eval_Attribute,hb])
end
inductive K5 (K:Frag)(f:Str)(Q:VK)(x:V)(H1:Hp):Prop where
 | mk (a C dx fs v:_) (_:x=.ref a) (_:H1 a=some (.ins C dx fs)) (_:sS K C) (_:eY K C f) (_:fs.lookup f=some v) (_:Q v H1):K5 K f Q x H1
def XD (K:Frag)(ta:TE)(f:Str):TE:=fun σ H Q=>ta σ H fun x H1=>K5 K f Q x H1
inductive K6 (K:Frag)(f:Str)(D:Ends)(σ:St)(y:V)(x:V)(H2:Hp):Prop where
 | mk (a C dx fs:_) (_:x=.ref a) (_:H2 a=some (.ins C dx fs)) (_:sS K C) (_:eY K C f) (_:fs.length < 1000) (_:D.nx σ (upd H2 a (.ins C dx (fw f y fs)))):K6 K f D σ y x H2
def XE (K:Frag)(ta tv:TE)(f:Str):TS:=fun D σ H=>tv σ H fun y H1=>ta σ H1 fun x H2=>K6 K f D σ y x H2
section
variable {X:Cx}{o e value:Expr}{f:Str}{pos pos' qG:Pos}{ta tv:TE}
theorem cq (he:PE X e ta)(hb:attributeBase e f X.env (eval e X.env)=eval e X.env):PE X (.Attribute e f pos) (XD X.K ta f):=by
 intro pins s σ H Q I h
 refine Jc hb (bV (he pins s σ H _ I h) fun u s1 ⟨x,H1,I1,rx,a,C,dx,fs,v,ex,ea,c,n,l,q⟩=> ?_)
 subst ex
 obtain rfl:u=Value.ref a:=rx
 exact vd I1 ea c n l fun u' s2 I2 ru=>⟨v,H1,I2,ru,q⟩
theorem qH (ha:PE X o ta)(hv:PE X value tv)(hs:swapsWith value (some (.Attribute o f pos')) pos.line X.env=pure false):PS X (.Assign [.Attribute o f pos'] value pos) (XE X.K ta tv f):=by
 intro pins s σ H D I h
 refine plainObj_wpAny_Assign_Attribute (bV (hv pins s σ H _ I h) fun u s1 ⟨y,H1,I1,ry,q⟩=>bV (ha pins s1 σ H1 _ I1 q) fun ov s2 ⟨x,H2,I2,rx,a,C,dx,fs,ex,ea,c,n,l,q2⟩=> ?_) hs
 subst ex
 obtain rfl:ov=Value.ref a:=rx
 exact ve I2 ea c n l ry fun s3 I3=>⟨σ,_,I3,q2⟩
end
section
variable {X:Cx}{pins:List (Addr×Obj)}{σ:St}{H:Hp}{s:Shared}{A:Around}{E:Value→Shared→Prop}{Q:Value→Shared→Prop}{c:Value}{b:Bool}
inductive jL (K:Frag)(H:Hp):V→Value→Prop where
 | cb:jL K H .cb (.type "NoneType")
 | bl (x:Bool):jL K H (.bl x) (.type "bool")
 | int (i:Int):jL K H (.int i) (.type "int")
 | str (x:Str):jL K H (.str x) (.type "str")
 | Mr (x:UInt64):jL K H (.Mr x) (.type "float")
 | lst {a:Addr} {xs:List V} (e:H a=some (.lst xs)):jL K H (.ref a) (.type "list")
 | cf {a:Addr} {o:Obj} {xs:List V} (e:H a=some (.cf o (.lst xs))):jL K H (.ref a) (.type "list")
 | tup {a:Addr} {xs:List V} (e:H a=some (.tup xs)):jL K H (.ref a) (.type "tuple")
 | dK {a:Addr} {kvs:List (Key×V)} (e:H a=some (.dK kvs)):jL K H (.ref a) (.type "dict")
 | dT {a:Addr} {kvs:List (List Key×V)} (e:H a=some (.dT kvs)):jL K H (.ref a) (.type "dict")
 | ins {a C dx:Addr} {fs:List (Str×V)} (e:H a=some (.ins C dx fs)) (cl:sS K C) (ha:PySem.W.findIn K (.ref C) "__class__"=some (some (.builtin "object.__class__")))
   (hn:PySem.W.specialIn K (.builtin "object.__class__") "__get__"=some (some (.builtin "getset_descriptor.__get__"))) (htk:PySem.W.takesIn K (.builtin "object.__class__")=some true)
   (hm:PySem.W.mroIn K C (.type "object")=some true):jL K H (.ref a) (.ref C)
theorem yq {x:V}{u t:Value}(I:Inv X pins σ H s)(rx:RelV x u)(ty:jL X.K H x t)(e:PySem.W.kitOne X.K t c=some b)(h:∀tk,Q (.bool b) {s with toks:=tk}):
  wpAny (model X.prog X.w) A (call (.builtin "isinstance") [u,c]) Q E s:=by
 cases ty with
 | cb=>cases (show u=Value.none from rx);exact PySem.W.kia_one PySem.W.kitx_none I.iH True.intro e (fun z=>nomatch z) h
 | bl y=>cases (show u=Value.bool y from rx);exact PySem.W.kia_one PySem.W.kitx_bool I.iH True.intro e (fun z=>nomatch z) h
 | int i=>obtain ⟨t,q⟩:=(show ∃t,u=Value.int i t from rx);cases q;exact PySem.W.kia_one PySem.W.kitx_int I.iH True.intro e (fun z=>nomatch z) h
 | str y=>obtain ⟨t,q⟩:=(show ∃t,u=Value.str y t from rx);cases q;exact PySem.W.kia_one PySem.W.kitx_str I.iH True.intro e (fun z=>nomatch z) h
 | Mr y=>obtain ⟨t,q⟩:=(show ∃t,u=Value.float y t from rx);cases q;exact PySem.W.kia_one PySem.W.kitx_float I.iH True.intro e (fun z=>nomatch z) h
 | @lst a xs ea=>
  cases (show u=Value.ref a from rx)
  obtain ⟨_,_,n,_,h1⟩:=(show bS X.prog X.w H s.heap a (.lst xs) from I.bt a _ ea)
  exact PySem.W.kia_one PySem.W.kitx_list I.iH ⟨_,h1,rfl⟩ e (fun z=>nomatch z) h
 | @cf a ob xs ea=>
  cases (show u=Value.ref a from rx)
  obtain ⟨_,_,_,n,_,h1⟩:=(show bS X.prog X.w H s.heap a (.cf ob (.lst xs)) from I.bt a _ ea)
  exact PySem.W.kia_one PySem.W.kitx_list I.iH ⟨_,h1,rfl⟩ e (fun z=>nomatch z) h
 | @tup a xs ea=>
  cases (show u=Value.ref a from rx)
  obtain ⟨_,_,_,p⟩:=(show bS X.prog X.w H s.heap a (.tup xs) from I.bt a _ ea)
  obtain ⟨o,h1,h2,_⟩:=p
  exact PySem.W.kia_one PySem.W.kitx_tuple I.iH ⟨o,h1,h2⟩ e (fun z=>nomatch z) h
 | @dK a kvs ea=>
  cases (show u=Value.ref a from rx)
  obtain ⟨_,_,vs,_,p⟩:=(show bS X.prog X.w H s.heap a (.dK kvs) from I.bt a _ ea)
  obtain ⟨o,es,ep,h1,h2,_⟩:=p
  exact PySem.W.kia_one PySem.W.kitx_dict I.iH ⟨o,h1,h2.1⟩ e (fun z=>nomatch z) h
 | @dT a kvs ea=>
  cases (show u=Value.ref a from rx)
  obtain ⟨_,_,xs,_,o,es,ep,h1,h2,_⟩:=(show bS X.prog X.w H s.heap a (.dT kvs) from I.bt a _ ea)
  exact PySem.W.kia_one PySem.W.kitx_dict I.iH ⟨o,h1,h2.1⟩ e (fun z=>nomatch z) h
 | @ins a C dx fs ea cl ha hn htk hm=>
  cases (show u=Value.ref a from rx)
  obtain ⟨mA,O,_⟩:=lE I.bt ea
  obtain ⟨od,J,_⟩:=O.look
  exact PySem.W.kia_one (PySem.W.kitx_own (cl.get _) cl.hd ha hn htk hm) I.iH J e (fun z=>nomatch z) h
end
end L2
namespace L2
open PySem PySem.Spec PyProof.Rows
structure b8 (k:Nat)(A:Around):Prop where
 hd:A.handled=none
 dp:A.depth+3*k+5 < recursionLimit
 un:A.units+16*k+200 < cLine
theorem b8.mono {j k:Nat}{A:Around}(r:b8 k A)(h:j≤k):b8 j A:=⟨r.hd,by have:=r.dp;omega,by have:=r.un;omega⟩
theorem b8.deeper {k:Nat}{A:Around}(r:b8 (k+1) A)(env:Env):b8 k (A.deeper env):=
 ⟨r.hd,by have:=r.dp;show A.depth+1+3*k+5 < _;omega,by have:=r.un;show A.units+3+16*k+200 < _;omega⟩
theorem vf {A:Around}{C:Addr}{us:List Value}{kw:List (Str×Value)}:(A.under (.builtin "type.__call__" ⟨.ref C::us,kw⟩)).depth=A.depth+1:=by
 first | rfl | simp [Around.under,Code.weight,Code.isCreation,Code.isGuard,Code.isCaller,Code.frames,Code.isFrame,guardIds]
theorem vg {A:Around}{C:Addr}{us:List Value}{kw:List (Str×Value)}:(A.under (.builtin "type.__call__" ⟨.ref C::us,kw⟩)).units=A.units+1:=by
 first | rfl | simp [Around.under,Code.cUnits,Code.frames,Code.isFrame]
theorem b8.make {k:Nat}{A:Around}(r:b8 (k+1) A)(C:Addr)(us:List Value)(kw:List (Str×Value)):b8 k (A.under (.builtin "type.__call__" ⟨.ref C::us,kw⟩)):=
 ⟨r.hd,by have:=r.dp;rw [vf];omega,by have:=r.un;rw [vg];omega⟩
theorem b8.depth {k:Nat}{A:Around}(r:b8 k A):A.depth < recursionLimit:=by have:=r.dp;omega
theorem b8.units {k:Nat}{A:Around}(r:b8 k A):A.units+64 < cLine:=by have:=r.un;omega
def eI:TA:=fun _ H Q=>Q [] H
def K7 (ta:TE)(tr:TA):TA:=fun σ H Q=>ta σ H fun x H1=>tr σ H1 fun xs H2=>Q (x::xs) H2
section
variable {X:Cx}{e:Expr}{es:List Expr}{te:TE}{t:TA}{pos:Pos}
theorem aa:PA X [] eI:=fun _ _ _ _ H Q I h=>Calls.spliced_nil ⟨[],H,I,.nil,h⟩
theorem Jd (ha:PE X e te)(hr:PA X es t)(hs:starEach (e::es) X.env=(false,eval e X.env)::starEach es X.env:=by rfl):PA X (e::es) (K7 te t):=by
 intro pos pins s σ H Q I h
 rw [hs]
 show wpAny _ _ (spliced ((false,eval e X.env)::backTo pos (starEach es X.env))) _ _ s
 refine Calls.spliced_cons (bV (ha pins s σ H _ I h) fun u s1 ⟨x,H1,I1,r1,q1⟩=> ?_)
 exact bV (hr pos pins s1 σ H1 _ I1 q1) fun us s2 ⟨xs,H2,I2,r2,q2⟩=>⟨x::xs,H2,I2,.cons r1 r2,q2⟩
def XF (t:TA):TE:=fun σ H Q=>t σ H fun xs H1=>xs.length≤sizeLine∧∀p,H1 p=none→Q (.ref p) (upd H1 p (.tup xs))
def XG (t:TA):TE:=fun σ H Q=>t σ H fun xs H1=>xs.length≤sizeLine∧∀p,H1 p=none→Q (.ref p) (upd H1 p (.lst xs))
theorem aR {x1}(h:PA X es t):PE X (.Tuple es x1 pos) (XF t):=by
 intro pins s σ H Q I hq
 refine wpAny_Tuple_spliced (bV (h pos pins s σ H _ I hq) fun us s1 ⟨xs,H1,I1,r,z,q⟩=>⟨by rw [← r.length];exact z,?_⟩)
 have hf:H1 s1.heap.objs.size=none:=I1.bt.fresh (aai _)
 refine ⟨.ref s1.heap.objs.size,upd H1 s1.heap.objs.size (.tup xs),I1.laid (t' :=s1.toks) (fun b u e=>Heap.get?_push_of_some _ e) (aai _) ?_,rfl,q _ hf⟩
 exact ⟨z,us,r,⟨_,Heap.get?_push_size _ rfl,rfl,_,rfl⟩⟩
theorem cu (h:PA X es t):PE X (.List es pos) (XG t):=by
 intro pins s σ H Q I hq
 refine wpAny_List_spliced (bV (h pos pins s σ H _ I hq) fun us s1 ⟨xs,H1,I1,r,z,q⟩=>⟨by rw [← r.length];exact z,?_⟩)
 have hf:H1 s1.heap.objs.size=none:=I1.bt.fresh (aai _)
 refine ⟨.ref s1.heap.objs.size,upd H1 s1.heap.objs.size (.lst xs),I1.laid (t' :=s1.toks) (fun b u e=>Heap.get?_push_of_some _ e) (aai _) ?_,rfl,q _ hf⟩
 exact ⟨z,us,0,r,Heap.get?_push_size _ rfl⟩
end
abbrev Sp:=List V→Hp→VK→XK→Prop
abbrev jF:=List Env→Hp→Shared→XK→Value→Shared→Prop
structure vh (P:Program)(w:World)(K:Frag)(mg:Str→Option Value)(base:Heap)(A:Around)(outer:List Env)(s:Shared)(H:Hp):Prop where
 frames:A.frames=some outer
 mod:Mod K mg base
 bs:∀b o,base.get? b=some o→s.heap.get? b=some o∧H b=none
 BI:base.objs.size≤s.heap.objs.size
 kJ:s.heap.FunFrames base outer
 Mv:∀b∈u4 outer,H b=none
 bt:h8 P w H s.heap
 bare:AllBare s.gens
def CE (outer:List Env)(P:Program)(w:World)(H:Hp)(s:Shared)(Q:VK)(u:Value)(s' :Shared):Prop:=
 ∃v H',s'.os=s.os∧AllBare s'.gens∧Un (u4 outer) [] H H' s.heap s'.heap∧h8 P w H' s'.heap∧RelV v u∧Q v H'
def CR (CX:jF)(outer:List Env)(P:Program)(w:World)(H:Hp)(s:Shared)(Q:VK)(E:XK)(r:Result)(s' :Shared):Prop:=
 match r with
 | .ok (.ret u)=>CE outer P w H s Q u s'
 | .ok _=>False
 | .error e=>CX outer H s E e s'
structure cv (P:Program)(w:World)(K:Frag)(mg:Str→Option Value)(base:Heap)(CX:jF)(k:Nat)(f:Addr)(fd:FuncData)(ps:List Str)(sp:Sp):Prop where
 len:∀vs H Q E,sp vs H Q E→vs.length=ps.length
 run:∀(A:Around) (outer:List Env) (s:Shared) (H:Hp) (args:Args) (us:List Value) (vs:List V) (Q:VK) (E:XK),b8 k A→vh P w K mg base A outer s H→BindsTo s fd args (ps.zip us)→Vals vs us→sp vs H Q E→
  codeAny (model P w) A (.call (.ref f) args) (CR CX outer P w H s Q E) s
theorem cv.mono {P:Program}{w:World}{K:Frag}{mg:Str→Option Value}{base:Heap}{CX:jF}{j k:Nat}{f:Addr}{fd:FuncData}{ps:List Str}{sp:Sp}(F:cv P w K mg base CX j f fd ps sp)(h:j≤k):
  cv P w K mg base CX k f fd ps sp:=⟨F.len,fun A outer s H args us vs Q E hr=>F.run A outer s H args us vs Q E (hr.mono h)⟩
theorem cv.imp {P:Program}{w:World}{K:Frag}{mg:Str→Option Value}{base:Heap}{CX:jF}{k:Nat}{f:Addr}{fd:FuncData}{ps:List Str}{sp sp' :Sp}(F:cv P w K mg base CX k f fd ps sp)
  (h:∀vs H Q E,sp' vs H Q E→sp vs H Q E):cv P w K mg base CX k f fd ps sp' :=
 ⟨fun vs H Q E q=>F.len vs H Q E (h _ _ _ _ q),fun A outer s H args us vs Q E hr he hb hv hs=>F.run A outer s H args us vs Q E hr he hb hv (h _ _ _ _ hs)⟩
theorem vh.make {P:Program}{w:World}{K:Frag}{mg:Str→Option Value}{base:Heap}{A:Around}{outer:List Env}{s:Shared}{H:Hp}(e:vh P w K mg base A outer s H)(C:Addr)(us:List Value)(kw:List (Str×Value)):
  vh P w K mg base (A.under (.builtin "type.__call__" ⟨.ref C::us,kw⟩)) outer s H:=⟨by first | exact e.frames | (simpa [Around.under,Code.envs,Code.isFrame,pushEnvs] using e.frames),e.mod,e.bs,e.BI,e.kJ,e.Mv,e.bt,e.bare⟩
section
variable {X:Cx}{pins:List (Addr×Obj)}{σ:St}{H:Hp}{s s' :Shared}
theorem Inv.P4 (I:Inv X pins σ H s):vh X.prog X.w X.K X.mg X.base X.A X.stack s H:=
 ⟨I.ok.frames,I.ok.mod,I.bs,aaj I.ok.BI I.sz,I.stack,I.qC,I.bt,I.bare⟩
theorem Inv.after {Q:VK}{u:Value}(I:Inv X pins σ H s)(h:CE X.stack X.prog X.w H s Q u s'):EP X pins σ Q u s' :=by
 obtain ⟨v,H',os,bare,un,bt,r,q⟩:=h
 obtain ⟨hh,g,d,t,os'⟩:=s'
 obtain rfl:os' =s.os:=os
 exact ⟨v,H',I.call (h' :=hh) (g' :=g) (d' :=d) (t' :=t) (ch:=[]) un bt bare (fun b z=>absurd z (by simp)),r,q⟩
end
def K8 (sp:Sp)(dvs:List V)(E:XK)(t:TA):TE:=fun σ H Q=>t σ H fun vs H1=>sp (vs++dvs) H1 Q E
def K9 (C:Addr)(sp:Sp)(dvs:List V)(E:XK)(t:TA):TE:=fun σ H Q=>t σ H fun vs H1=>∀x dx,H1 x=none→H1 dx=none→dx≠x→
 sp (.ref x::(vs++dvs)) (upd (upd H1 dx (.own x)) x (.ins C dx [])) (fun v H2=>v=.cb∧Q (.ref x) H2) E
def Binds (K:Frag)(fd:FuncData)(ps:List Str)(ds:List Value):Prop:=
 ∀(s:Shared) (us:List Value),K.In s.heap→(us++ds).length=ps.length→BindsTo s fd ⟨us,[]⟩ (ps.zip (us++ds))
theorem Binds.all {K:Frag}{fd:FuncData}{ps:List Str}(h:∀us:List Value,us.length=ps.length→bindArgs fd ⟨us,[]⟩=pure (ps.zip us)):Binds K fd ps []:=fun s us _ hl=>by
 rw [ai_] at hl ⊢
 exact .of_eq (h us hl)
def Passes (CX:jF)(X:Cx)(E:XK):Prop:=∀(pins:List (Addr×Obj)) (σ:St) (H:Hp) (s:Shared) (e:Value) (s' :Shared),Inv X pins σ H s→CX X.stack H s E e s' →X.xe e s'
section
variable {X:Cx}{CX:jF}{k:Nat}{f C:Addr}{fd:FuncData}{ps:List Str}{sp:Sp}{dvs:List V}{ds:List Value}{E:XK}{x m:Str}{p pos apos:Pos}{e o:Expr}{es:List Expr}{ta:TE}{t:TA}
theorem qI {pins:List (Addr×Obj)}{σ:St}{H:Hp}{s:Shared}{Q:VK}{us:List Value}{vs:List V}(F:cv X.prog X.w X.K X.mg X.base CX k f fd ps sp)(hr:b8 k X.A)(hb:Binds X.K fd ps ds)(hd:Vals dvs ds)(hx:Passes CX X E)
  (I:Inv X pins σ H s) (r:Vals vs us) (h:sp (vs++dvs) H Q E):wpAny (model X.prog X.w) X.A (call (.ref f) us) (EP X pins σ Q) X.xe s:=by
 have r2:Vals (vs++dvs) (us++ds):=r.append hd
 have hl:(us++ds).length=ps.length:=by rw [← r2.length];exact F.len _ _ _ _ h
 refine wpAny_call (codeAny_mono (F.run X.A X.stack s H ⟨us,[]⟩ (us++ds) (vs++dvs) Q E hr I.P4 (hb s us I.iH hl) r2 h) fun r s' hq=> ?_)
 cases r with
 | error e=>exact hx pins σ H s e s' I hq
 | ok fl=>
  cases fl with
  | ret u=>exact I.after hq
  | next=>exact False.elim hq
  | brk=>exact False.elim hq
  | cont=>exact False.elim hq
theorem Je (F:cv X.prog X.w X.K X.mg X.base CX k f fd ps sp)(hr:b8 k X.A)(hg:Gl X x)(hm:X.mg x=some (.ref f))(hk:keepIn X.K (.ref f)=true)(hb:Binds X.K fd ps ds)(hd:Vals dvs ds)(hx:Passes CX X E)
  (ha:PA X (e::es) t) (yr:(x==("__debug__":Str))=false:=by decide) (he:starEach (e::es) X.env=(false,eval e X.env)::starEach es X.env:=by rfl) (wL:(backTo pos (starEach es X.env)).any (·.1)=false:=by rfl):
  PE X (.Call (.Name x p) (e::es) [] pos) (K8 sp dvs E t):=by
 intro pins s σ H Q I h
 refine wpAny_Call_Name_kw (iY I hg hm ?_ yr)
 refine PySem.W.callWith_K (h₀:=X.base) I.ok.mod.OU hk (bV (ha pos pins s σ H _ I h) fun us s1 ⟨vs,H1,I1,r,q⟩=>⟨I1.iH,?_⟩) he wL
 exact qI F hr hb hd hx I1 r q
structure Mk (K:Frag)(C f:Addr):Prop where
 makes:PySem.W.makesIn K C=true
 init:PySem.W.findIn K (.ref C) "__init__"=some (some (.ref f))
 fn:PySem.W.isFn K (.ref f)=true
 kp:keepIn K (.ref C)=true
theorem sT {pins:List (Addr×Obj)}{σ:St}{H:Hp}{s:Shared}{Q:VK}{us:List Value}{vs:List V}(M:Mk X.K C f)(F:cv X.prog X.w X.K X.mg X.base CX k f fd ps sp)(hr:b8 (k+1) X.A)(hb:Binds X.K fd ps ds)(hd:Vals dvs ds)
  (hx:Passes CX X E) (I:Inv X pins σ H s) (r:Vals vs us)
  (h:∀x dx,H x=none→H dx=none→dx≠x→sp (.ref x::(vs++dvs)) (upd (upd H dx (.own x)) x (.ins C dx [])) (fun v H2=>v=.cb∧Q (.ref x) H2) E):
  wpAny (model X.prog X.w) X.A (call (.ref C) us) (EP X pins σ Q) X.xe s:=by
 have hq:=h (s.heap.objs.size+1) s.heap.objs.size (I.bt.fresh (agl _)) (I.bt.fresh (aai _)) (afn (afF _))
 have I2:=Inv.made (C:=C) I
 have r2:Vals (V.ref (s.heap.objs.size+1)::(vs++dvs)) (Value.ref (s.heap.objs.size+1)::(us++ds)):=.cons rfl (r.append hd)
 have hl:(Value.ref (s.heap.objs.size+1)::us++ds).length=ps.length:=by
  have e:=r2.length
  rw [F.len _ _ _ _ hq] at e
  exact e.symm
 refine wpAny_call (BV (f:=f) I.iH M.makes M.init (beq_iff_eq.mp M.fn) (codeAny_mono (F.run _ X.stack _ _ ⟨Value.ref (s.heap.objs.size+1)::us,[]⟩ (Value.ref (s.heap.objs.size+1)::(us++ds)) _ _ E (hr.make C us [])
  (I2.P4.make C us []) (hb _ (Value.ref (s.heap.objs.size+1)::us) I2.iH hl) r2 hq) fun r s' me => ?_))
 cases r with
 | error e=>exact hx pins σ _ _ e s' I2 me
 | ok fl=>
  cases fl with
  | ret u=>
   obtain ⟨v,H',I3,rv,ev,q3⟩:=I2.after me
   subst ev
   exact ⟨rv,⟨V.ref (s.heap.objs.size+1),H',I3,rfl,q3⟩⟩
  | next=>exact False.elim me
  | brk=>exact False.elim me
  | cont=>exact False.elim me
theorem wM (M:Mk X.K C f)(F:cv X.prog X.w X.K X.mg X.base CX k f fd ps sp)(hr:b8 (k+1) X.A)(hg:Gl X x)(hm:X.mg x=some (.ref C))(hb:Binds X.K fd ps ds)(hd:Vals dvs ds)(hx:Passes CX X E)
  (ha:PA X (e::es) t) (yr:(x==("__debug__":Str))=false:=by decide) (he:starEach (e::es) X.env=(false,eval e X.env)::starEach es X.env:=by rfl) (wL:(backTo pos (starEach es X.env)).any (·.1)=false:=by rfl):
  PE X (.Call (.Name x p) (e::es) [] pos) (K9 C sp dvs E t):=by
 intro pins s σ H Q I h
 refine wpAny_Call_Name_kw (iY I hg hm ?_ yr)
 refine PySem.W.callWith_K (h₀:=X.base) I.ok.mod.OU M.kp (bV (ha pos pins s σ H _ I h) fun us s1 ⟨vs,H1,I1,r,q⟩=>⟨I1.iH,?_⟩) he wL
 exact sT M F hr hb hd hx I1 r q
theorem BW (M:Mk X.K C f)(F:cv X.prog X.w X.K X.mg X.base CX k f fd ps sp)(hr:b8 (k+1) X.A)(hg:Gl X x)(hm:X.mg x=some (.ref C))(hb:Binds X.K fd ps ds)(hd:Vals dvs ds)(hx:Passes CX X E)
  (yr:(x==("__debug__":Str))=false:=by decide):PE X (.Call (.Name x p) [] [] pos) (K9 C sp dvs E eI):=by
 intro pins s σ H Q I h
 refine wpAny_Call_Name_kw (iY I hg hm ?_ yr)
 exact PySem.W.callWith_K0 I.iH M.kp (sT (us:=[]) M F hr hb hd hx I .nil h)
end
section
variable {X:Cx}{CX:jF}{k:Nat}{f C:Addr}{fd:FuncData}{ps ks:List Str}{sp:Sp}{E:XK}{x m:Str}{p pos apos ang:Pos}{e o:Expr}{es:List Expr}{kws:List Keyword}{te ta:TE}{t tk:TA}{nm:Option Str}
variable {g:List Value→List Value→List Value}{gV:List V→List V→List V}
end
structure aD (N P:List Str)(sc:Scope):Prop where
 kind:sc.kind=.function
 co:sc.isCoroutine=false
 gen:sc.isGenerator=false
 nd:N.Nodup
 pre:N.take P.length=P
 par:∀x∈P,sc.names.lookup x=some .local∨sc.names.lookup x=some .cell
 MO:∀y∈sc.names,y.2≠.free
theorem pF {kindOf:Str→Option NameKind}{x:Str}:∀{binds:List (Str×Value)} {m:Str→Option Value},(∀v,(x,v)∉binds)→bindL kindOf binds m x=m x
 | [],_,_=>rfl
 | (n,v)::r,m,h=>by
  unfold bindL
  rw [pF fun w hw=>h w (aa_ _ hw)]
  split
  ·have:x≠n:=by rintro rfl;exact h v ae'
   simp [this]
  ·rfl
theorem pG {kindOf:Str→Option NameKind}{x:Str}:∀{binds:List (Str×Value)} {m:Str→Option Value},(∀v,(x,v)∉binds)→bindC kindOf binds m x=m x
 | [],_,_=>rfl
 | (n,v)::r,m,h=>by
  unfold bindC
  rw [pG fun w hw=>h w (aa_ _ hw)]
  split
  ·rfl
  ·have:x≠n:=by rintro rfl;exact h v ae'
   simp [this]
theorem pH {kindOf:Str→Option NameKind}{x:Str}{v:Value}:∀{P:List Str} {vs:List Value} {i:Nat} {m:Str→Option Value},P.Nodup→P[i]? =some x→vs[i]? =some v→kindOf x=some .local→
  bindL kindOf (P.zip vs) m x=some v
 | [],_,_,_,_,h,_,_=>by simp at h
 | _::_,[],_,_,_,_,h,_=>by simp at h
 | p::P,w::vs,0,m,nd,h1,h2,hk=>by
  simp at h1 h2;subst h1;subst h2
  show bindL kindOf ((p,w)::P.zip vs) m p=_
  unfold bindL
  rw [pF fun v hv=>(afs.mp nd).1 (anx hv).1,if_pos hk]
  simp
 | p::P,w::vs,i+1,m,nd,h1,h2,hk=>by
  show bindL kindOf ((p,w)::P.zip vs) m x=_
  unfold bindL
  exact pH (i:=i) (afs.mp nd).2 (by simpa using h1) (by simpa using h2) hk
theorem pI {kindOf:Str→Option NameKind}{x:Str}{v:Value}:∀{P:List Str} {vs:List Value} {i:Nat} {m:Str→Option Value},P.Nodup→P[i]? =some x→vs[i]? =some v→kindOf x≠some .local→
  bindC kindOf (P.zip vs) m x=some v
 | [],_,_,_,_,h,_,_=>by simp at h
 | _::_,[],_,_,_,_,h,_=>by simp at h
 | p::P,w::vs,0,m,nd,h1,h2,hk=>by
  simp at h1 h2;subst h1;subst h2
  show bindC kindOf ((p,w)::P.zip vs) m p=_
  unfold bindC
  rw [pG fun v hv=>(afs.mp nd).1 (anx hv).1,if_neg hk]
  simp
 | p::P,w::vs,i+1,m,nd,h1,h2,hk=>by
  show bindC kindOf ((p,w)::P.zip vs) m x=_
  unfold bindC
  exact pI (i:=i) (afs.mp nd).2 (by simpa using h1) (by simpa using h2) hk
def start (N:List Str)(vs:List V):St:=vs.map some++afh (N.length - vs.length) none
def kK (CX:jF)(P:Program)(w:World)(K:Frag)(mg:Str→Option Value)(base:Heap)(N:List Str)(qual:Str)(scope:Scope)(f:Addr)(cd:Value)(A:Around)(outer:List Env)(s:Shared)(H:Hp)(E:XK):Cx where
 prog:=P
 w:=w
 K:=K
 mg:=mg
 base:=base
 A:=A.deeper (envOfC qual scope s.heap.objs.size f cd)
 N:=N
 s₀:=s
 H₀:=H
 env:=envOfC qual scope s.heap.objs.size f cd
 outer:=outer
 stack:=envOfC qual scope s.heap.objs.size f cd::outer
 ex:=[]
 calm:=true
 fn:=fun _=>true
 pn:=[]
 xe:=fun e s' =>wpAny (model P w) (A.deeper (envOfC qual scope s.heap.objs.size f cd)) (leaving (envOfC qual scope s.heap.objs.size f cd) e) (fun _ MQ =>CX outer H s E e MQ) (fun e' MQ =>CX outer H s E e' MQ) s'
theorem sU {sc:Scope}{n:Nat}{x:Str}(h:sc.names.lookup x=some .cell):∃c,(cellsFrom n sc.names []).lookup x=some c:=by
 have q:=PySem.W.cellsFrom_some sc.names n [] (.inl h)
 exact ag_.mp q
theorem yt {CX:jF}{P:Program}{w:World}{K:Frag}{mg:Str→Option Value}{base:Heap}{N ps:List Str}{qual:Str}{scope:Scope}{f:Addr}{cd:Value}{A:Around}{outer:List Env}{s s1:Shared}{H:Hp}{E:XK}{us:List Value}{vs:List V}
  (S:aD N ps scope) (hd:A.handled=none) (e0:vh P w K mg base A outer s H) (hl:vs.length=ps.length) (r:Vals vs us)
  (x:InCallC s s.heap.objs.size (bindL (envOfC qual scope s.heap.objs.size f cd).kindOf (ps.zip us) fun _=>none) (cellsFrom (s.heap.objs.size+1) scope.names []) (bindC (envOfC qual scope s.heap.objs.size f cd).kindOf (ps.zip us) fun _=>none) s1):
  Inv (kK CX P w K mg base N qual scope f cd A outer s H E) [] (start N vs) H s1:=by
 have wL:ps.length≤N.length:=by have:=congrArg afH S.pre;rw [afv] at this;omega
 obtain ⟨h1,tk,rfl,hk⟩:=x.done
 have P5:∀b:Addr,b∉(kK CX P w K mg base N qual scope f cd A outer s H E).ex:=fun b z=>absurd (show b∈([]:List Addr) from z) (by simp)
 refine ⟨⟨e0.mod,S.kind,rfl,rfl,aai _,fun y z c h1 h2=> ?_,fun y hy=> ?_,fun y c _ h=> ?_,fun _=>hd,Around.frames_deeper e0.frames,.inr ⟨rfl,rfl⟩,fun b z=>absurd z (P5 b),e0.bs,e0.BI,fun b _ _=>P5 b,fun b z=>absurd z (P5 b),e0.kJ,e0.Mv⟩,
  rfl,e0.bare,Un.kept hk,⟨_,x.toInCall.ns,fun i y v h1 h2 h3=> ?_⟩,fun y c h=>⟨_,x.cell y c h⟩,e0.bt.fresh (aai _),fun y c h=> ?_,fun p hp=>absurd (show p∈([]:List (Addr×Obj)) from hp) (by simp),e0.bt.kept hk,?_⟩
 ·exact name_of_addr x.apart (PySem.mem_of_lookup h1) (PySem.mem_of_lookup h2)
 ·have hy:scope.names.lookup y=some .cell∨scope.names.lookup y=some .free:=hy
  rcases hy with hy | hy
  ·exact sU hy
  ·exact absurd rfl (S.MO _ (PySem.mem_of_lookup hy))
 ·exact af2 (x.above y c (PySem.mem_of_lookup h))
 ·have hi:i < vs.length:=by
   unfold start at h2
   by_cases hi:i < vs.length
   ·exact hi
   ·rw [afm (by simpa using hi)] at h2
    rw [agi] at h2
    split at h2 <;> cases h2
  have ha:vs[i]? =some v:=by
   unfold start at h2
   rw [afd (by simpa using hi),Wp] at h2
   cases e:vs[i]? with
   | none=>rw [e] at h2;cases h2
   | some a=>rw [e] at h2;cases h2;rfl
  obtain ⟨u,hu,rv⟩:=r.get ha
  have hp:ps[i]? =some y:=by
   rw [← S.pre,anq (by omega)];exact h1
  have ndP:ps.Nodup:=by rw [← S.pre];exact S.nd.sublist (List.take_sublist _ _)
  refine ⟨u,rv,?_⟩
  rcases S.par y (ir hp) with k | k
  ·exact .inl ⟨k,pH ndP hp hu k⟩
  ·obtain ⟨c,e⟩:=sU (n:=s.heap.objs.size+1) k
   refine .inr ⟨.inl k,c,e,?_⟩
   have q:=x.cell y c e
   rw [pI ndP hp hu (by show scope.names.lookup y≠_;rw [k];decide)] at q
   exact q
 ·exact e0.bt.fresh (af2 (x.above y c (PySem.mem_of_lookup h)))
 ·unfold start
  show _=N.length
  rw [afi,aaa,am2]
  omega
theorem wN {CX:jF}{P:Program}{w:World}{K:Frag}{mg:Str→Option Value}{base:Heap}{k:Nat}{f:Addr}{name qual:Str}{params:Arguments}{body:List Stmt}{scope:Scope}{dV kV doc pm bC ct oc:Value}{an od:Option Addr}
  {kL:Array (Option Value)} {N ps:List Str} {sp:Sp} (lk:K.lookup f=some ⟨oc,od,.func (fnOf name qual params body scope dV kV doc pm an bC ct),kL⟩) (oz:codeIn K bC qual=true) (S:aD N ps scope)
  (len:∀vs H Q E,sp vs H Q E→vs.length=ps.length)
  (i0:∀(A:Around) (outer:List Env) (s:Shared) (H:Hp) (vs:List V) (Q:VK) (E:XK),b8 k (A.deeper (envOfC qual scope s.heap.objs.size f bC))→sp vs H Q E→
   ∃t,PSs (kK CX P w K mg base N qual scope f bC A outer s H E) body t∧t {nx:=fun _ H' =>Q .cb H',rt:=Q} (start N vs) H):
  cv P w K mg base CX (k+1) f (fnOf name qual params body scope dV kV doc pm an bC ct) ps sp:=by
 refine ⟨len,fun A outer s H args us vs Q E hr e0 hb r oB=> ?_⟩
 have hl:=len _ _ _ _ oB
 have KX:K.In s.heap:=e0.mod.OU.keeps fun b o e=>(e0.bs b o e).1
 have lim:s.heap.NoLimit:=e0.mod.nolimit.keeps fun b o e=>(e0.bs b o e).1
 have P6:∀y∈ps.zip us,scope.names.lookup y.1=some .local∨(scope.names.lookup y.1=some .cell∧((cellsFrom (s.heap.objs.size+1) scope.names []).lookup y.1).isSome=true):=fun ⟨n,v⟩ hy=>by
  rcases S.par n (anx hy).1 with q | q
  ·exact .inl q
  ·exact .inr ⟨q,PySem.W.cellsFrom_some _ _ _ (.inl q)⟩
 refine codeAny_call_function hr.depth (KX _ _ lk) rfl S.co S.gen rfl (PySem.W.codeRec_of KX oz) (hb _ _ _ _ ?_)
 refine wpAny_newFunctionEnv_cells S.kind P6 fun env he s1 x=> ?_
 subst he
 refine ⟨lim.keeps x.toInCall.keep,codeAny_func ?_⟩
 obtain ⟨t,ht,hq⟩:=i0 A outer s H vs Q E (hr.deeper _) oB
 have I:Inv (kK CX P w K mg base N qual scope f bC A outer s H E) [] (start N vs) H s1:=yt S hr.hd e0 hl r x
 refine wpAny_mono (ht [] s1 (start N vs) H _ I hq) (fun fl s' hs=> ?_) fun e s' hs=>hs
 have fin:∀{σ' :St} {H' :Hp} {v:V} {u:Value},Inv (kK CX P w K mg base N qual scope f bC A outer s H E) [] σ' H' s' →RelV v u→Q v H' →CE outer P w H s Q u s' :=
  fun {σ' H' v u} J rv q=>⟨v,H',J.os,J.bare,J.base,J.bt,rv,q⟩
 cases fl with
 | ret u=>
  obtain ⟨v,σ',H',J,rv,q⟩:=hs
  exact fin J rv q
 | next=>
  obtain ⟨σ',H',J,q⟩:=hs
  exact fin (v:=V.cb) (u:=Value.none) J rfl q
 | brk=>
  obtain ⟨_,_,_,q⟩:=hs
  exact False.elim q
 | cont=>
  obtain ⟨_,_,_,q⟩:=hs
  exact False.elim q
end L2
namespace L2
open PySem PySem.Spec PyProof.Rows
section
variable {X:Cx}{x:Str}{p pos:Pos}{e:Expr}{es:List Expr}{t:TA}{id T:String}{r:List V→Hp→VK→Prop}
def tCB (r:List V→Hp→VK→Prop)(t:TA):TE:=fun σ H Q=>t σ H fun vs H1=>r vs H1 Q
theorem aU (hc:eK X (.builtin id) r)(hg:Gl X x)(hm:X.mg x=none)(hv:bootBuiltins x=some (.builtin id))(ha:PA X (e::es) t)(hn:x≠ "__name__":=by decide)(yr:(x==("__debug__":Str))=false:=by decide)
  (he:starEach (e::es) X.env=(false,eval e X.env)::starEach es X.env:=by rfl) (wL:(backTo pos (starEach es X.env)).any (·.1)=false:=by rfl):PE X (.Call (.Name x p) (e::es) [] pos) (tCB r t):=by
 intro pins s σ H Q I h
 refine wpAny_Call_Name_kw (gD I hg hm hv ?_ hn yr)
 exact PyProof.Rows.callWith_builtin1 (bV (ha pos pins s σ H _ I h) fun us s1 ⟨vs,H1,I1,r1,q1⟩=>hc pins s1 σ H1 vs us Q I1 r1 q1) he wL
theorem cz (hc:eK X (.type T) r)(hg:Gl X x)(hm:X.mg x=none)(hv:bootBuiltins x=some (.type T))(ha:PA X (e::es) t)(hn:x≠ "__name__":=by decide)(yr:(x==("__debug__":Str))=false:=by decide)
  (he:starEach (e::es) X.env=(false,eval e X.env)::starEach es X.env:=by rfl) (wL:(backTo pos (starEach es X.env)).any (·.1)=false:=by rfl):PE X (.Call (.Name x p) (e::es) [] pos) (tCB r t):=by
 intro pins s σ H Q I h
 refine wpAny_Call_Name_kw (gD I hg hm hv ?_ hn yr)
 exact PyProof.Rows.callWith_type1 (bV (ha pos pins s σ H _ I h) fun us s1 ⟨vs,H1,I1,r1,q1⟩=>hc pins s1 σ H1 vs us Q I1 r1 q1) he wL
end
end L2
namespace HT
open PySem PyProof.Rows
section
open PySem.SeqAt
open PySem.AutoSeq1 (wpAny_loadPart')
open PySem.MeetsSeq PySem.MeetsSeq2 PySem.MeetsSeq3
end
section
variable {prog:Program}{w:World}{A:Around}{E:Value→Shared→Prop}{s:Shared}
theorem Jf {t b:Addr}{vs ws:List Value}{Q:Value→Shared→Prop}(ht:IsTup s.heap t vs.toArray)(hb:IsTup s.heap b ws.toArray)(hv:vs≠[])
  (h1:ws=[]→Q (.ref t) s) (h2:ws≠[]→Q (.ref s.heap.objs.size) {s with heap:=s.heap.push {cls:=.type "tuple",data:=.seq (vs++ws).toArray}})
  (hsz:vs.length+ws.length≤sizeLine):wpAny (model prog w) A (binaryOp .Add (.ref t) (.ref b)) Q E s:=by
 obtain ⟨⟨cls,dd,data,sl⟩,ho,hc,n,hd⟩:=id ht
 obtain ⟨⟨anh,dd2,data2,sl2⟩,Wt,hc2,n2,hd2⟩:=id hb
 simp only at hc hd hc2 hd2
 subst hc hd hc2 hd2
 have e:vs.toArray++ws.toArray=(vs++ws).toArray:=by simp
 by_cases hw:ws=[]
 ·exact concat_meets ⟨_,ho,rfl⟩ ⟨_,Wt,rfl⟩ noFill_tuple_add seq_tuple_add PySem.F.slot_tuple_add PySem.F.entry_tuple_add (PySem.F.args_tuple_add_2 _ _)
   (tuple_addW1 t b vs.toArray ws.toArray n n2 dd dd2 sl sl2 (by simpa using hv) (by simp [hw])) ⟨ho,Wt,h1 hw⟩
 ·refine concat_meets ⟨_,ho,rfl⟩ ⟨_,Wt,rfl⟩ noFill_tuple_add seq_tuple_add PySem.F.slot_tuple_add PySem.F.entry_tuple_add (PySem.F.args_tuple_add_2 _ _)
   (tuple_addW2 t b vs.toArray ws.toArray n n2 dd dd2 sl sl2 (by simpa using hv) (by simpa using hw) (by rw [afa,afa];exact hsz)) ⟨ho,Wt,?_⟩
  rw [e]
  exact h2 hw
def dB (n d:Nat):Option Int→Nat
 | none=>d
 | some v=>if v < 0 then (v+(n:Int)).toNat else min v.toNat n
theorem sV (n d:Nat):dB n d none=d:=rfl
theorem wO (n d k:Nat):dB n d (some (k:Int))=min k n:=by
 show (if (k:Int) < 0 then ((k:Int)+(n:Int)).toNat else min (k:Int).toNat n)=min k n
 rw [if_neg (by omega),agu]
theorem MR (n d:Nat)(hd:d≤n)(o:Option Int):dB n d o≤n:=by
 cases o with
 | none=>exact hd
 | some v=>
  show (if v < 0 then (v+(n:Int)).toNat else min v.toNat n)≤n
  by_cases hv:v < 0
  ·rw [if_pos hv];omega
  ·rw [if_neg hv];exact Nat.min_le_right _ _
theorem wQ (v:Int)(n d:Nat):(if v < 0 then max (v+(n:Int)) 0 else min v (n:Int))=((dB n d (some v):Nat):Int):=by
 show (if v < 0 then max (v+(n:Int)) 0 else min v (n:Int))=(((if v < 0 then (v+(n:Int)).toNat else min v.toNat n):Nat):Int)
 by_cases hv:v < 0
 ·simp only [if_pos hv];omega
 ·simp only [if_neg hv];omega
theorem vi (lo hi:Option Int)(n:Nat):Builtin.Slice.sliceAdjust lo hi 1 (n:Int)=(((dB n 0 lo:Nat):Int),((dB n n hi:Nat):Int)):=by
 have h1:¬ ((1:Int) < 0):=by omega
 unfold Builtin.Slice.sliceAdjust
 simp only [h1,if_false]
 refine agj ?_ ?_
 ·cases lo with
  | none=>rfl
  | some v=>exact wQ v n 0
 ·cases hi with
  | none=>rfl
  | some v=>exact wQ v n n
theorem vj (i j:Nat):Builtin.Slice.slicePlaces (i:Int) (j:Int) 1=j - i:=by
 unfold Builtin.Slice.slicePlaces
 have h1:(1:Int) > 0:=by omega
 simp only [h1,if_true,Int.ediv_one]
 split <;> omega
theorem mf {v:Value}{o:Option Int}{Q:Option Int→Shared→Prop}(p:IsPart v o)(h:Q o s):wpAny (model prog w) A (Builtin.Slice.slicePartIndex v) Q E s:=by
 cases p with
 | none=>exact slicePart_none h
 | int i t=>exact slicePart_int h
theorem jM {sl:Addr}{vl vu:Value}{lo hi:Option Int}{n:Nat}{Q:Int×Int×Nat→Shared→Prop}(hs:s.heap.IsSliceOf sl vl vu .none)(pl:IsPart vl lo)(pu:IsPart vu hi)
  (h:Q (((dB n 0 lo:Nat):Int),1,dB n n hi - dB n 0 lo) s):wpAny (model prog w) A (Builtin.Slice.sliceApplied (.ref sl) (pure (n:Int))) Q E s:=by
 obtain ⟨os,P7,hcs,Wu⟩:=id hs
 unfold Builtin.Slice.sliceApplied Builtin.Slice.sliceFields
 refine wpAny_bind (wpAny_bind (wpAny_field P7 Wu (x:=vl) rfl (wpAny_bind (wpAny_field P7 Wu (x:=vu) rfl (wpAny_bind (wpAny_field P7 Wu (x:=.none) rfl (wpAny_pure ?_)))))))
 refine wpAny_bind (slicePart_none ?_)
 show wpAny _ _ (if ((1:Int)==0)=true then _ else _) _ _ s
 rw [if_neg (by decide)]
 refine wpAny_bind (mf pl (wpAny_bind (mf pu (wpAny_bind (wpAny_pure ?_)))))
 show wpAny _ _ (match Builtin.Slice.sliceAdjust lo hi 1 (n:Int) with | (lo,hi)=>pure (lo,(1:Int),Builtin.Slice.slicePlaces lo hi 1)) _ _ s
 rw [vi lo hi n]
 show wpAny _ _ (pure (((dB n 0 lo:Nat):Int),(1:Int),Builtin.Slice.slicePlaces ((dB n 0 lo:Nat):Int) ((dB n n hi:Nat):Int) 1)) _ _ s
 rw [vj]
 exact wpAny_pure h
theorem BX (xs:Array Value)(i k:Nat):((afz k).filterMap fun (m:Nat)=>xs[((i:Int)+(m:Int)*1).toNat]?).toArray=((xs.toList.drop i).take k).toArray:=by
 have e:(fun (m:Nat)=>xs[((i:Int)+(m:Int)*1).toNat]?)=fun m=>xs[i+m]? :=by
  funext m
  have:((i:Int)+(m:Int)*1).toNat=i+m:=by omega
  rw [this]
 rw [e]
 have:=pick_run xs i k
 rw [List.filterMap_map] at this
 have e2:((fun x=>xs[x]?) ∘ fun x=>i+x)=fun m=>xs[i+m]? :=rfl
 rw [e2] at this
 rw [this]
theorem i5 {t sl:Addr}{items:Array Value}{vl vu:Value}{lo hi:Option Int}{Q:Value→Shared→Prop}(ht:IsTup s.heap t items)(hs:s.heap.IsSliceOf sl vl vu .none)(pl:IsPart vl lo)(pu:IsPart vu hi)
  (hw:¬ (dB items.size 0 lo=0∧dB items.size items.size hi=items.size))
  (h:Q (.ref s.heap.objs.size) {s with heap:=s.heap.push {cls:=.type "tuple",data:=.seq ((items.toList.drop (dB items.size 0 lo)).take (dB items.size items.size hi - dB items.size 0 lo)).toArray}})
  (hsz:items.size≤sizeLine):wpAny (model prog w) A (getItem (.ref t) (.ref sl)) Q E s:=by
 have wU:sizeOk (.seq ((items.toList.drop (dB items.size 0 lo)).take (dB items.size items.size hi - dB items.size 0 lo)).toArray):=by
  show ((items.toList.drop (dB items.size 0 lo)).take (dB items.size items.size hi - dB items.size 0 lo)).toArray.size≤sizeLine
  rw [afa,afv,an4,af9]
  omega
 have hj:dB items.size items.size hi≤items.size:=MR _ _ (aai _) hi
 obtain ⟨os,P7,hcs,Wu⟩:=id hs
 have hTs:s.TypeIs (.ref sl) "slice":=⟨os,P7,hcs⟩
 unfold getItem
 try with_reducible refine wpAny_holding ?_
 first | refine wpAny_bind (wpAny_pure ?_) | skip
 refine wpAny_bind (wpAny_sequenceKey ht.typeIs (by decide) ?_)
 refine wpAny_bind (wpAny_callSpecial?_slot (name:=Str.ofString "__getitem__") ht.typeIs PyProof.Rows.slot_tuple_getitem
  (wpAny_call_entry PyProof.Rows.slot_tuple_getitem ht.typeIs entry_tuple_getitem ?_ (args_tuple_getitem _ _)))
 show wpAny _ _ (Builtin.Tuple.tupleItemsOf (.ref t) >>=_) _ _ s
 refine wpAny_bind (tupleItemsOf_ ht ?_)
 refine wpAny_bind (wpAny_typeOf hTs ?_)
 rw [if_pos (by decide)]
 refine wpAny_bind (jM hs pl pu ?_)
 have P8:¬ ((((dB items.size 0 lo:Nat):Int)==0 && (1:Int)==1 && (dB items.size items.size hi - dB items.size 0 lo)==items.size)=true):=by
  intro q
  rw [afB,afB] at q
  have q1:((dB items.size 0 lo:Nat):Int)=0:=eq_of_beq q.1.1
  have q2:dB items.size items.size hi - dB items.size 0 lo=items.size:=eq_of_beq q.2
  exact hw ⟨by omega,by omega⟩
 show wpAny _ _ (if (((dB items.size 0 lo:Nat):Int)==0 && (1:Int)==1 && (dB items.size items.size hi - dB items.size 0 lo)==items.size)=true then _ else _) _ _ s
 rw [if_neg P8,BX]
 first
  | exact wpAny_bind (m:=Builtin.Tuple.tupleExact _) (wpAny_newObj_type (wpAny_pure ⟨_,rfl,wpAny_pure h⟩) wU)
  | exact wpAny_bind (m:=Builtin.Tuple.tupleExact _) (wpAny_newObj_type (wpAny_bind (wpAny_pure (wpAny_pure ⟨_,rfl,wpAny_pure h⟩))) wU)
  | exact wpAny_bind (wpAny_bind (m:=Builtin.Tuple.tupleExact _) (wpAny_newObj_type (wpAny_pure (wpAny_pure ⟨_,rfl,wpAny_pure h⟩)) wU))
  | exact wpAny_bind (wpAny_bind (m:=Builtin.Tuple.tupleExact _) (wpAny_newObj_type (wpAny_pure ⟨_,rfl,wpAny_pure h⟩) wU))
end
end HT
namespace L2
open PySem PySem.Spec PyProof.Rows
abbrev TO:=St→Hp→(Option Int→Hp→Prop)→Prop
def PO (X:Cx)(e:Option Expr)(t:TO):Prop:=
 ∀(pins:List (Addr×Obj)) (s:Shared) (σ:St) (H:Hp) (Q:Option Int→Hp→Prop),Inv X pins σ H s→t σ H Q→
  wpAny (model X.prog X.w) X.A (evalPart e X.env) (fun u s' =>∃o H',Inv X pins σ H' s' ∧IsPart u o∧Q o H') X.xe s
def Jg:TO:=fun _ H Q=>Q none H
inductive BY (Q:(Option Int→Hp→Prop))(x:V)(H1:Hp):Prop where
 | mk (i:_) (_:x=.int i) (_:Q (some i) H1):BY Q x H1
def P9 (t:TE):TO:=fun σ H Q=>t σ H fun x H1=>BY Q x H1
section
variable {X:Cx}{e:Expr}{te:TE}{lo hi:Option Expr}{tl th:TO}{pos p2:Pos}
theorem lH:PO X none Jg:=by
 intro pins s σ H Q I h
 rw [evalPart_none]
 exact wpAny_pure ⟨none,H,I,.none,h⟩
theorem fk (h:PE X e te):PO X (some e) (P9 te):=by
 intro pins s σ H Q I hw
 rw [evalPart_some]
 refine bV (h pins s σ H _ I hw) fun u s1 ⟨x,H1,I1,r1,q1⟩=> ?_
 obtain ⟨i,rfl,q⟩:=q1
 obtain ⟨t,rfl⟩:=r1
 exact ⟨some i,H1,I1,.int i t,q⟩
def P_ (X:Cx)(r:V→Option Int→Option Int→Hp→VK→Prop):Prop:=
 ∀(pins:List (Addr×Obj)) (s:Shared) (σ:St) (H:Hp) (x:V) (v vl vu:Value) (lo hi:Option Int) (sl:Addr) (Q:VK),Inv X pins σ H s→RelV x v→s.heap.IsSliceOf sl vl vu .none→IsPart vl lo→IsPart vu hi→r x lo hi H Q→
  ∃T id,typeLookup (.type T) "__getitem__"=pure (some (.builtin id))∧s.TypeIs v T∧wpAny (model X.prog X.w) X.A (getItem v (.ref sl)) (EP X pins σ Q) X.xe s
def tSl (r:V→Option Int→Option Int→Hp→VK→Prop)(te:TE)(tl th:TO):TE:=fun σ H Q=>te σ H fun x H1=>tl σ H1 fun l H2=>th σ H2 fun u H3=>r x l u H3 Q
theorem fK {r:V→Option Int→Option Int→Hp→VK→Prop}(hr:P_ X r)(he:PE X e te)(hl:PO X lo tl)(hu:PO X hi th):PE X (.Subscript e (.Slice lo hi none p2) pos) (tSl r te tl th):=by
 intro pins s σ H Q I h
 refine Subscript_ (bV (he pins s σ H _ I h) fun v s1 ⟨x,H1,I1,r1,q1⟩=> ?_)
 refine wpAny_Slice (bV (hl pins s1 σ H1 _ I1 q1) fun vl s2 ⟨l,H2,I2,pl,q2⟩=>bV (hu pins s2 σ H2 _ I2 q2) fun vu s3 ⟨u,H3,I3,pu,q3⟩=> ?_)
 rw [evalPart_none]
 refine wpAny_pure ?_
 have I4:Inv X pins σ H3 {s3 with heap:=s3.heap.push {cls:=.type "slice",data:=.fields #[vl,vu,.none]}}:=I3.kept (t' :=s3.toks) fun b ob q=>Heap.get?_push_of_some _ q
 obtain ⟨T,id,hT,ht,hg⟩:=hr pins {s3 with heap:=s3.heap.push {cls:=.type "slice",data:=.fields #[vl,vu,.none]}} σ H3 x v vl vu l u s3.heap.objs.size Q I4 r1 (Heap.IsSliceOf.new ..) pl pu q3
 show wpAny (model X.prog X.w) X.A (subscriptTail e (.Slice lo hi none p2) v (.ref s3.heap.objs.size)) (EP X pins σ Q) X.xe {s3 with heap:=s3.heap.push {cls:=.type "slice",data:=.fields #[vl,vu,.none]}}
 exact tail_any (ops:=[.ref s3.heap.objs.size,v]) ht hT hg (by with_unfolding_all rfl)
def fL (xs:List V)(lo hi:Option Int):List V:=(xs.drop (HT.dB xs.length 0 lo)).take (HT.dB xs.length xs.length hi - HT.dB xs.length 0 lo)
theorem kq (xs:List V)(lo hi:Option Int):(fL xs lo hi).length≤xs.length:=by
 unfold fL
 rw [afv,an4]
 omega
inductive MS (K:Frag)(x:V)(lo:Option Int)(hi:Option Int)(H:Hp)(Q:VK):Prop where
 | mk (a xs:_) (_:x=.ref a) (_:bK K H a xs) (_:¬ (HT.dB xs.length 0 lo=0∧HT.dB xs.length xs.length hi=xs.length)) (_:∀p,H p=none→Q (.ref p) (upd H p (.tup (fL xs lo hi)))):MS K x lo hi H Q
theorem vk:P_ X (MS X.K):=by
 intro pins s σ H x v vl vu lo hi sl Q I rx hs pl pu h
 obtain ⟨a,xs,rfl,hx,hw,q⟩:=h
 cases rx
 obtain ⟨its,r,ht,hz⟩:=I.tuple hx
 have hlen:its.toArray.size=xs.length:=by rw [afa];exact r.length.symm
 refine ⟨"tuple",_,PyProof.Rows.slot_tuple_getitem.lookup,ht.typeIs,?_⟩
 refine HT.i5 ht hs pl pu (by rw [hlen];exact hw) ?_ (by rw [hlen];exact hz)
 rw [hlen]
 refine ⟨.ref s.heap.objs.size,_,I.laid (t' :=s.toks) (o:=.tup (fL xs lo hi)) (fun b ob q=>Heap.get?_push_of_some _ q) (aai _) ?_,rfl,q _ (I.bt.fresh (aai _))⟩
 exact ⟨aaj (kq xs lo hi) hz,_,(r.drop (HT.dB xs.length 0 lo)).take (HT.dB xs.length xs.length hi - HT.dB xs.length 0 lo),IsTup.new _ _⟩
inductive K_ (K:Frag)(x:V)(y:V)(H:Hp)(Q:VK):Prop where
 | mk (a b xs ys:_) (_:x=.ref a) (_:y=.ref b) (_:bK K H a xs) (_:bK K H b ys) (_:xs≠[]) (_:xs.length+ys.length≤sizeLine) (_:(ys=[]→Q (.ref a) H)) (_:(ys≠[]→∀p,H p=none→Q (.ref p) (upd H p (.tup (xs++ys))))):K_ K x y H Q
theorem Vals.qJ {xs:List V}{us:List Value}(r:Vals xs us):us=[] ↔ xs=[]:=by
 cases r with
 | nil=>simp
 | cons _ _=>simp
theorem Jh:iV X (binaryOp .Add) (K_ X.K):=by
 intro pins s σ H x y v u Q I rx ry h
 obtain ⟨a,b,xs,ys,rfl,rfl,ha,hb,hx,hz,q1,q2⟩:=h
 cases rx
 cases ry
 obtain ⟨its,r1,p1,_⟩:=I.tuple ha
 obtain ⟨cR,r2,p2,_⟩:=I.tuple hb
 refine HT.Jf p1 p2 (fun z=>hx (r1.qJ.mp z)) (fun z=>⟨.ref a,H,I,rfl,q1 (r2.qJ.mp z)⟩) (fun z=> ?_) (by rw [← r1.length, ← r2.length];exact hz)
 refine ⟨.ref s.heap.objs.size,_,I.laid (t' :=s.toks) (o:=.tup (xs++ys)) (fun b ob q=>Heap.get?_push_of_some _ q) (aai _) ?_,rfl,q2 (fun w=>z (r2.qJ.mpr w)) _ (I.bt.fresh (aai _))⟩
 exact ⟨by rw [afi];exact hz,_,r1.append r2,IsTup.new _ _⟩
end
end L2
namespace L2
open PySem PySem.Spec PyProof.Rows
def HH (n:Nat)(i:Int):Option Nat:=if 0≤i then (if i < n then some i.toNat else none) else if -(n:Int)≤i then some (i+n).toNat else none
def i6 {α:Type}(xs:List α)(i:Int):Option α:=(HH xs.length i).bind fun j=>xs[j]?
theorem wV {n:Nat}{i:Int}{j:Nat}(h:HH n i=some j):seqIndex? i n=some j∧j < n∧ -(n:Int)≤i∧i < n:=by
 unfold HH at h
 by_cases h0:0≤i
 ·rw [if_pos h0] at h
  by_cases h1:i < n
  ·rw [if_pos h1] at h
   have e:i.toNat=j:=aff h
   exact ⟨by rw [seqIndex_of h0 h1,e],by omega,by omega,h1⟩
  ·rw [if_neg h1] at h;cases h
 ·rw [if_neg h0] at h
  by_cases h1: -(n:Int)≤i
  ·rw [if_pos h1] at h
   have e:(i+n).toNat=j:=aff h
   exact ⟨by rw [seqIndex_neg (by omega) h1,e],by omega,h1,by omega⟩
  ·rw [if_neg h1] at h;cases h
theorem qK {α:Type}{xs:List α}{i:Int}{v:α}(h:i6 xs i=some v):∃j,seqIndex? i xs.length=some j∧xs[j]? =some v∧j < xs.length∧ -(xs.length:Int)≤i∧i < xs.length:=by
 unfold i6 at h
 cases e:HH xs.length i with
 | none=>rw [e] at h;cases h
 | some j=>
  rw [e] at h
  obtain ⟨h1,h2,h3,h4⟩:=wV e
  exact ⟨j,h1,h,h2,h3,h4⟩
theorem dC {α:Type}{xs:List α}{j:Nat}{v:α}(h:xs[j]? =some v):i6 xs (j:Int)=some v:=by
 have hj:j < xs.length:=(be.mp h).1
 have e:HH xs.length (j:Int)=some j:=by
  unfold HH
  rw [if_pos (by omega),if_pos (by omega)];simp
 unfold i6;rw [e];exact h
def Ji (b:Expr):Prop:=∀o i,subscripted b false o i=operate [o,i] (getItem o i)
def OW (X:Cx)(r:R2):Prop:=
 ∀(value slice:Expr) (pins:List (Addr×Obj)) (s:Shared) (σ:St) (H:Hp) (x y:V) (v u:Value) (Q:VK),Inv X pins σ H s→RelV x v→RelV y u→r x y H Q→
  subscripted slice false v u=operate [v,u] (getItem v u)→wpAny (model X.prog X.w) X.A (subscriptTail value slice v u) (EP X pins σ Q) X.xe s
def MtR (X:Cx)(id:String)(r:V→List V→Hp→VK→Prop):Prop:=
 ∀(pins:List (Addr×Obj)) (s:Shared) (σ:St) (H:Hp) (x:V) (xs:List V) (v:Value) (us:List Value) (Q:VK),Inv X pins σ H s→RelV x v→Vals xs us→r x xs H Q→
  wpAny (model X.prog X.w) X.A (call (.builtin id) (v::us)) (EP X pins σ Q) X.xe s
section
variable {X:Cx}{a b:Expr}{ta tb:TE}{pos:Pos}
theorem bD {r:R2}(hr:OW X r)(ha:PE X a ta)(hb:PE X b tb)(hs:Ji b):PE X (.Subscript a b pos) (MI r ta tb):=by
 intro pins s σ H Q I h
 exact Subscript_ (MJ ha hb I h fun v u s2 x y H2 I2 rx ry q=>hr a b pins s2 σ H2 x y v u Q I2 rx ry q (hs _ _))
inductive MT (K:Frag)(x:V)(y:V)(H:Hp)(Q:VK):Prop where
 | mk (p xs i v:_) (_:x=.ref p) (_:y=.int i) (_:ba K H p xs) (_:i6 xs i=some v) (_:Q v H):MT K x y H Q
inductive BZ (K:Frag)(x:V)(y:V)(H:Hp)(Q:VK):Prop where
 | mk (p xs i v:_) (_:x=.ref p) (_:y=.int i) (_:bK K H p xs) (_:i6 xs i=some v) (_:Q v H):BZ K x y H Q
inductive Qa (x:V)(y:V)(H:Hp)(Q:VK):Prop where
 | mk (z i c:_) (_:x=.str z) (_:y=.int i) (_:z.length≤sizeLine) (_:i6 z.cps.toList i=some c) (_:Q (.str ⟨#[c]⟩) H):Qa x y H Q
theorem bu:OW X (MT X.K):=by
 intro value slice pins s σ H x y v u Q I rx ry h hs
 obtain ⟨p,xs,i,z,rfl,rfl,hq,he,q⟩:=h
 cases rx
 obtain ⟨t,rfl⟩:=ry
 obtain ⟨its,r,pl,hz⟩:=I.list hq
 obtain ⟨j,h1,h2,h3,h4,h5⟩:=qK he
 obtain ⟨w,ew,lj⟩:=r.get h2
 have hl:=r.length
 have hn:=md
 have fin:EP X pins σ Q w s:=⟨z,H,I,lj,q⟩
 by_cases h0:0≤i
 ·have hj:i.toNat=j:=by
   rw [seqIndex_of h0 h5] at h1
   exact aff h1
  exact item_listR pl.isList h0 (by omega) (by rw [hj];simpa using ew) fin hs
 ·have hj:(i+(its.toArray.size:Int)).toNat=j:=by
   rw [seqIndex_neg (by omega) h4] at h1
   rw [afa, ← hl]
   exact aff h1
  exact subscriptTail_builtinR (x:=w) pl.isList.typeIs slot_list_getitem.lookup
   (wpAny_getItem_list_neg (Q:=fun r s' =>r=w∧EP X pins σ Q r s') pl.isList (by omega) (by rw [afa] <;> omega) (by omega) (by rw [hj];simpa using ew) ⟨rfl,fin⟩) hs
theorem jN:OW X (BZ X.K):=by
 intro value slice pins s σ H x y v u Q I rx ry h hs
 obtain ⟨p,xs,i,z,rfl,rfl,hq,he,q⟩:=h
 cases rx
 obtain ⟨t,rfl⟩:=ry
 obtain ⟨its,r,pl,hz⟩:=I.tuple hq
 obtain ⟨j,h1,h2,h3,h4,h5⟩:=qK he
 obtain ⟨w,ew,lj⟩:=r.get h2
 have hl:=r.length
 have hn:=md
 have fin:EP X pins σ Q w s:=⟨z,H,I,lj,q⟩
 exact subscriptTail_builtinR (x:=w) pl.typeIs slot_tuple_getitem.lookup
  (getItem_tuple (j:=j) (Q:=fun r s' =>r=w∧EP X pins σ Q r s') pl (by omega) (by omega) (by rw [afa, ← hl];exact h1) (by simpa using ew) ⟨rfl,fin⟩) hs
theorem MU:OW X Qa:=by
 intro value slice pins s σ H x y v u Q I rx ry h hs
 obtain ⟨z,i,c,rfl,rfl,hz,he,q⟩:=h
 obtain ⟨t,rfl⟩:=rx
 obtain ⟨t',rfl⟩:=ry
 obtain ⟨j,h1,h2,h3,h4,h5⟩:=qK he
 have hl:z.cps.toList.length=z.length:=by simp [Str.length]
 rw [hl] at h1 h4 h5
 have hn:=md
 exact tail_any (typeIs_str s z t) slot_str_getitem.lookup (getItem_str (c:=c) (by
  have e1:decide (i < -(2^63:Int))=false:=decide_eq_false (by omega)
  have e2:decide (i≥2^63)=false:=decide_eq_false (by omega)
  rw [e1,e2,anL]) (by rw [h1];simpa using h2) ⟨.str ⟨#[c]⟩,H,I.tok _,⟨_,rfl⟩,q⟩) hs
theorem vm (its:List Value)(n j:Nat)(u:Value):Obj.mapSeq (·.setIfInBounds j u) {cls:=.type "list",data:=.seq its.toArray n}={cls:=.type "list",data:=.seq (its.set j u).toArray n}:=by
 simp [Obj.mapSeq]
theorem Inv.lst {pins:List (Addr×Obj)}{σ:St}{H:Hp}{s:Shared}{p:Addr}{xs:List V}(I:Inv X pins σ H s)(h:H p=some (.lst xs)):
  ∃(its:List Value) (n:Nat),Vals xs its∧s.heap.get? p=some {cls:=.type "list",data:=.seq its.toArray n}∧xs.length≤sizeLine:=by
 obtain ⟨z,its,n,r,e⟩:=I.bt p _ h
 exact ⟨its,n,r,e,z⟩
theorem Inv.MV {pins:List (Addr×Obj)}{σ:St}{H:Hp}{s:Shared}{p:Addr}{xs ys:List V}{its its' :List Value}{n n' :Nat}{f:Obj→Obj}(I:Inv X pins σ H s)(h:H p=some (.lst xs))
  (ho:s.heap.get? p=some {cls:=.type "list",data:=.seq its.toArray n}) (hf:f {cls:=.type "list",data:=.seq its.toArray n}={cls:=.type "list",data:=.seq its'.toArray n' }) (r:Vals ys its') (hz:ys.length≤sizeLine) (t:Nat):
  Inv X pins σ (upd H p (.lst ys)) {s with heap:=s.heap.update p f,toks:=t}:=by
 have e:(s.heap.update p f).get? p=some {cls:=.type "list",data:=.seq its'.toArray n' }:=by
  rw [Heap.get?_update_self f ho (by rw [hf] <;> rfl),hf]
 refine I.write (x:=p) (e:=p) (by rw [h];trivial) (.inl rfl) (fun b u hb q=>(Heap.get?_update_other _ _ (afk hb)).trans q) ⟨_,e⟩ ?_
 exact ⟨hz,its',n',r,e⟩
inductive K' (o:V)(i:V)(v:V)(H:Hp)(Q:(Hp→Prop)):Prop where
 | mk (p xs k j:_) (_:o=.ref p) (_:i=.int k) (_:H p=some (.lst xs)) (_:HH xs.length k=some j) (_:Q (upd H p (.lst (xs.set j v)))):K' o i v H Q
theorem set_list:PR X K':=by
 intro pins s σ H o i v ov iv u Q I ro ri rv h
 obtain ⟨p,xs,k,j,rfl,rfl,hp,hj,q⟩:=h
 cases ro
 obtain ⟨t,rfl⟩:=ri
 obtain ⟨its,n,r,ho,hz⟩:=I.lst hp
 obtain ⟨h1,h2,h3,h4⟩:=wV hj
 have hl:=r.length
 have hn:=md
 have I' :Inv X pins σ (upd H p (.lst (xs.set j v))) {s with heap:=s.heap.update p (Obj.mapSeq (·.setIfInBounds j u))}:=
  I.MV hp ho (vm its n j u) (r.set rv j) (by rw [an'];exact hz) s.toks
 by_cases h0:0≤k
 ·have hk:k.toNat=j:=by
   rw [seqIndex_of h0 h4] at h1
   exact aff h1
  exact PySem.W.ki_setAt ho h0 (by omega) (by rw [afa, ← hl];exact h4) (by rw [hk];exact ⟨_,I',q⟩)
 ·have hk:(k+(its.toArray.size:Int)).toNat=j:=by
   rw [seqIndex_neg (by omega) h3] at h1
   rw [afa, ← hl]
   exact aff h1
  exact PySem.W.ki_setBack ho (by omega) (by rw [afa, ← hl];exact h3) (by omega) (by rw [hk];exact ⟨_,I',q⟩)
theorem qL (lo hi:Option Int)(n:Nat):(sliceBounds lo hi none n).1=((HT.dB n 0 lo:Nat):Int)∧(sliceBounds lo hi none n).2.1=((HT.dB n n hi:Nat):Int)∧(sliceBounds lo hi none n).2.2=1:=by
 refine ⟨?_,?_,rfl⟩
 ·cases lo with
  | none=>simp [sliceBounds,HT.dB]
  | some i=>
   simp only [sliceBounds,HT.dB,an5,show (1:Int) > 0 by decide,if_true]
   by_cases h:i < 0
   ·simp only [h,if_true] <;> omega
   ·simp only [h,if_false] <;> omega
 ·cases hi with
  | none=>simp [sliceBounds,HT.dB]
  | some i=>
   simp only [sliceBounds,HT.dB,an5,show (1:Int) > 0 by decide,if_true]
   by_cases h:i < 0
   ·simp only [h,if_true] <;> omega
   ·simp only [h,if_false] <;> omega
theorem oC (its:List Value)(lo hi:Option Int):slicePick its.toArray lo hi none=((its.drop (HT.dB its.length 0 lo)).take (HT.dB its.length its.length hi - HT.dB its.length 0 lo)).toArray:=by
 obtain ⟨h1,h2,h3⟩:=qL lo hi its.toArray.size
 unfold slicePick
 rw [h1,h2,h3]
 simp only [sliceRange_one,pick_run,afa] <;> rfl
inductive Qb (K:Frag)(x:V)(lo:Option Int)(hi:Option Int)(H:Hp)(Q:VK):Prop where
 | mk (a xs:_) (_:x=.ref a) (_:ba K H a xs) (_:∀p,H p=none→Q (.ref p) (upd H p (.lst (fL xs lo hi)))):Qb K x lo hi H Q
theorem wW:P_ X (Qb X.K):=by
 intro pins s σ H x v vl vu lo hi sl Q I rx hs pl pu h
 obtain ⟨a,xs,rfl,hx,q⟩:=h
 cases rx
 obtain ⟨its,r,ht,hz⟩:=I.list hx
 have hlen:=r.length
 refine ⟨"list",_,slot_list_getitem.lookup,ht.isList.typeIs,?_⟩
 refine wpAny_getItem_list_slice ht.isList hs pl pu .none (by simp) ?_ (by rw [afa] <;> omega)
 rw [oC, ← hlen]
 refine ⟨.ref s.heap.objs.size,_,I.laid (t' :=s.toks) (o:=.lst (fL xs lo hi)) (fun b ob q=>Heap.get?_push_of_some _ q) (aai _) ?_,rfl,q _ (I.bt.fresh (aai _))⟩
 exact ⟨aaj (kq xs lo hi) hz,_,0,(r.drop (HT.dB xs.length 0 lo)).take (HT.dB xs.length xs.length hi - HT.dB xs.length 0 lo),Heap.get?_push_size _ rfl⟩
def iq:V→Bool
 | .cb=>true
 | .bl _=>true
 | .int _=>true
 | .str _=>true
 | _=>false
def om:V→V→Bool
 | .cb,.cb=>true
 | .bl a,.bl b=>a==b
 | .bl a,.int b=>(if a then 1 else 0)==b
 | .int a,.bl b=>a==(if b then 1 else 0)
 | .int a,.int b=>a==b
 | .str a,.str b=>a==b
 | _,_=>false
theorem B_ {A:Around}{s:Shared}{y x:V}{u v:Value}(ry:RelV y u)(rx:RelV x v)(fy:iq y=true)(fx:iq x=true):SeqAt.EqAt A s u v (om y x):=by
 cases y with
 | cb=>
  cases ry
  cases x with
  | cb=>cases rx;exact SeqAt.EqAt.same _
  | bl b=>cases rx;exact SeqAt.EqAt.none_bool b
  | int b=>obtain ⟨t,rfl⟩:=rx;exact SeqAt.EqAt.none_int b t
  | str b=>obtain ⟨t,rfl⟩:=rx;exact SeqAt.EqAt.none_str b t
  | _=>exact absurd (show false=true from fx) ad_
 | bl a=>
  cases ry
  cases x with
  | cb=>cases rx;exact SeqAt.EqAt.bool_none a
  | bl b=>cases rx;exact SeqAt.EqAt.bool_bool a b
  | int b=>obtain ⟨t,rfl⟩:=rx;exact SeqAt.EqAt.bool_int a b t
  | str b=>obtain ⟨t,rfl⟩:=rx;exact SeqAt.EqAt.bool_str a b t
  | _=>exact absurd (show false=true from fx) ad_
 | int a=>
  obtain ⟨t',rfl⟩:=ry
  cases x with
  | cb=>cases rx;exact SeqAt.EqAt.int_none a t'
  | bl b=>cases rx;exact SeqAt.EqAt.int_bool a t' b
  | int b=>obtain ⟨t,rfl⟩:=rx;exact SeqAt.EqAt.int_int a t' b t
  | str b=>obtain ⟨t,rfl⟩:=rx;exact SeqAt.EqAt.int_str a t' b t
  | _=>exact absurd (show false=true from fx) ad_
 | str a=>
  obtain ⟨t',rfl⟩:=ry
  cases x with
  | cb=>cases rx;exact SeqAt.EqAt.str_none a t'
  | bl b=>cases rx;exact SeqAt.EqAt.str_bool a t' b
  | int b=>obtain ⟨t,rfl⟩:=rx;exact SeqAt.EqAt.str_int a t' b t
  | str b=>obtain ⟨t,rfl⟩:=rx;exact SeqAt.EqAt.str_str a t' b t
  | _=>exact absurd (show false=true from fx) ad_
 | _=>exact absurd (show false=true from fy) ad_
def Jj (x:V)(u:Value):Bool:=match u with
 | .none=>om .cb x
 | .bool b=>om (.bl b) x
 | .int i _=>om (.int i) x
 | .str z _=>om (.str z) x
 | _=>false
theorem B' {x y:V}{u:Value}(r:RelV y u)(f:iq y=true):Jj x u=om y x:=by
 cases y with
 | cb=>cases r;rfl
 | bl b=>cases r;rfl
 | int i=>obtain ⟨t,rfl⟩:=r;rfl
 | str z=>obtain ⟨t,rfl⟩:=r;rfl
 | _=>exact absurd (show false=true from f) ad_
theorem qM {x:V}:∀{xs:List V} {us:List Value},Vals xs us→xs.all iq=true→us.any (Jj x)=xs.any fun y=>om y x
 | _,_,.nil,_=>rfl
 | y::xs,u::us,.cons r t,f=>by
  rw [am6,afB] at f
  rw [ah_,ah_,B' r f.1,qM t f.2]
theorem mh {A:Around}{s:Shared}{x:V}{v:Value}(rx:RelV x v)(fx:iq x=true):∀{xs:List V} {us:List Value},Vals xs us→xs.all iq=true→∀u∈us,SeqAt.EqAt A s u v (Jj x u)
 | _,_,.nil,_=>fun u hu=>by cases hu
 | y::xs,u::us,.cons r t,f=>fun u' hu=>by
  rw [am6,afB] at f
  rcases afo.mp hu with rfl | hu
  ·rw [B' r f.1];exact B_ r rx f.1 fx
  ·exact mh rx fx t f.2 u' hu
def OX (x:V)(xs:List V):Bool:=xs.any fun y=>om y x
inductive XH (K:Frag)(neg:Bool)(x:V)(y:V)(H:Hp)(Q:VK):Prop where
 | mk (p xs:_) (_:y=.ref p) (_:(ba K H p xs∨bK K H p xs)) (_:iq x=true) (_:xs.all iq=true) (_:Q (.bl (if neg then !OX x xs else OX x xs)) H):XH K neg x y H Q
theorem pJ:iV X (compareOp .In) (XH X.K false):=by
 intro pins s σ H x y v u Q I rx ry h
 obtain ⟨p,xs,rfl,hq,fx,fs,q⟩:=h
 cases ry
 rcases hq with hq | hq
 ·obtain ⟨its,r,pl,hz⟩:=I.list hq
  refine SeqAt.in_listAt (Jj x) pl.isList (fun w hw=>mh rx fx r fs w (by simpa using hw)) ⟨.bl _,H,I,rfl,?_⟩
  rw [show its.toArray.any (Jj x)=its.any (Jj x) by simp,qM r fs]
  exact q
 ·obtain ⟨its,r,pl,hz⟩:=I.tuple hq
  refine SeqAt.in_tupleAt (Jj x) pl (fun w hw=>mh rx fx r fs w (by simpa using hw)) ⟨.bl _,H,I,rfl,?_⟩
  rw [show its.toArray.any (Jj x)=its.any (Jj x) by simp,qM r fs]
  exact q
theorem a9:eK X (.builtin "len") (fun xs H Q=>∃p ys,xs=[.ref p]∧(ba X.K H p ys∨bK X.K H p ys)∧Q (.int ys.length) H):=by
 intro pins s σ H xs us Q I r h
 obtain ⟨p,ys,rfl,hq,q⟩:=h
 obtain ⟨u,rfl,rx⟩:=vals1 r
 cases rx
 have hn:=md
 rcases hq with hq | hq
 ·obtain ⟨its,r',pl,hz⟩:=I.list hq
  have hlen:=r'.length
  exact Calls.call_len_list pl.isList (by simp only [afa] <;> omega) ⟨.int ys.length,H,I.tok _,⟨s.toks+1,by rw [afa,hlen]⟩,q⟩
 ·obtain ⟨its,r',pl,hz⟩:=I.tuple hq
  have hlen:=r'.length
  exact len_tuple pl (by simp only [afa] <;> omega) ⟨.int ys.length,H,I.tok _,⟨s.toks+1,by rw [afa,hlen]⟩,q⟩
def tyV (K:Frag)(T:String)(x:V)(H:Hp):Prop:=match x with
 | .str _=>T="str"
 | .int _=>T="int"
 | .ref p=>(T="list"∧∃xs,ba K H p xs)∨(T="tuple"∧∃o,K.lookup p=some o∧o.cls=.type "tuple"∧o.dict=none)∨
   (T="dict"∧((∃kvs,H p=some (.dK kvs))∨∃kvs,H p=some (.dT kvs)))∨(T="set"∧∃S n,H p=some (.set S n))
 | _=>False
theorem CA {pins:List (Addr×Obj)}{σ:St}{H:Hp}{s:Shared}{T:String}{x:V}{v:Value}(I:Inv X pins σ H s)(r:RelV x v)(ty:tyV X.K T x H):
  s.TypeIs v T∧∀a,v=.ref a→∃ob,s.heap.get? a=some ob∧ob.dict=none:=by
 cases x with
 | str z=>
  obtain ⟨t,rfl⟩:=r
  cases (show T="str" from ty)
  exact ⟨typeIs_str s z t,fun _ e=>nomatch e⟩
 | int i=>
  obtain ⟨t,rfl⟩:=r
  cases (show T="int" from ty)
  exact ⟨typeIs_int s i t,fun _ e=>nomatch e⟩
 | ref p=>
  cases r
  rcases ty with ⟨rfl,xs,hq⟩ | ⟨rfl,o,hk,hc,hd⟩ | ⟨rfl,hk⟩ | ⟨rfl,S,n,hk⟩
  ·obtain ⟨its,_,pl,_⟩:=I.list hq
   refine ⟨pl.isList.typeIs,fun a e=> ?_⟩
   cases e
   obtain ⟨o,n,e,c,hd,_⟩:=pl
   exact ⟨o,e,hd⟩
  ·refine ⟨⟨o,I.iH p o hk,hc⟩,fun a e=> ?_⟩
   cases e
   exact ⟨o,I.iH _ o hk,hd⟩
  ·have z:∃o,s.heap.get? p=some o∧o.ExactDict:=by
    rcases hk with ⟨kvs,hk⟩ | ⟨kvs,hk⟩
    ·obtain ⟨_,_,_,_,o,_,_,e,ex,_⟩:=I.bt p _ hk
     exact ⟨o,e,ex⟩
    ·obtain ⟨_,_,_,_,o,_,_,e,ex,_⟩:=I.bt p _ hk
     exact ⟨o,e,ex⟩
   obtain ⟨o,e,ex⟩:=z
   refine ⟨⟨o,e,ex.1⟩,fun a e2=> ?_⟩
   cases e2
   exact ⟨o,e,ex.2.1⟩
  ·obtain ⟨o,_,_,_,e,ex,_⟩:=I.bt p _ hk
   refine ⟨⟨o,e,ex.1⟩,fun a e2=> ?_⟩
   cases e2
   exact ⟨o,e,ex.2.1⟩
 | _=>exact False.elim ty
def tBM (K:Frag)(T:String)(r:V→List V→Hp→VK→Prop)(to:TE)(t:TA):TE:=fun σ H Q=>to σ H fun x H1=>tyV K T x H1∧t σ H1 fun xs H2=>r x xs H2 Q
variable {o e:Expr}{es:List Expr}{to:TE}{t:TA}{name:Str}{apos b6:Pos}{T id:String}{r:V→List V→Hp→VK→Prop}
theorem i7 (pa:PlainAttrs T)(slot:Slot T name id)(hty:typeOf (.builtin id)=pure (.type "method_descriptor"))(hm:MtR X id r)(ho:PE X o to)(ha:PA X (e::es) t)
  (gI:attributeBase o name X.env (eval o X.env)=eval o X.env:=by rfl)
  (XI:((backTo b6 (starEach (e::es) X.env)).all (fun x=> !x.1) && (backToKw b6 (keywordEach [] X.env)).all (fun x=>x.1.isSome)
   && decide ((e::es).length+([]:List Keyword).length+(if ([]:List Keyword).isEmpty then 0 else 1) < 30))=true:=by rfl)
  (gJ:(apos.endLine==b6.line)=true:=by rfl) (hs:starEach (e::es) X.env=(false,eval e X.env)::starEach es X.env:=by rfl) (MX:(backTo b6 (starEach es X.env)).any (·.1)=false:=by rfl):
  PE X (.Call (.Attribute o name apos) (e::es) [] b6) (tBM X.K T r to t):=by
 intro pins s σ H Q I h
 refine wpAny_Call_method_late gI XI gJ rfl (bV (ho pins s σ H _ I h) fun v s1 ⟨x,H1,I1,r1,ty,q1⟩=> ?_)
 obtain ⟨h1,h2⟩:=CA I1 r1 ty
 refine ⟨T,id,pa,slot,hty,h1,h2,?_⟩
 have hA:=ha b6 pins s1 σ H1 _ I1 q1
 rw [hs] at hA ⊢
 refine Calls.callWith_builtin (by show (false || (backTo b6 (starEach es X.env)).any (·.1))=false;rw [MX] <;> rfl) (Calls.evalArgs_plain ?_)
 exact bV hA fun us s2 ⟨vs,H2,I2,r2,q2⟩=>hm pins s2 σ H2 x vs v us Q I2 r1 r2 q2
end
end L2
namespace L2
open PySem PySem.Spec PyProof.Rows
def XJ (X:Cx)(id:String)(r:V→List V→Hp→VK→Prop):Prop:=
 ∀(pins:List (Addr×Obj)) (s:Shared) (σ:St) (H:Hp) (x:V) (xs:List V) (v:Value) (us:List Value) (Q:VK),Inv X pins σ H s→RelV x v→Vals xs us→r x xs H Q→
  wpAny (model X.prog X.w) X.A (call (.builtin id) (v::us)) (EP X pins σ Q) X.xe s
theorem Vals.one:∀{x:V} {us:List Value},Vals [x] us→∃u,us=[u]∧RelV x u
 | _,_,.cons r .nil=>⟨_,rfl,r⟩
theorem Vals.eraseIdx:∀{xs:List V} {us:List Value} (i:Nat),Vals xs us→Vals (xs.eraseIdx i) (us.eraseIdx i)
 | _,_,_,.nil=>.nil
 | _,_,0,.cons _ t=>t
 | _,_,i+1,.cons r t=>.cons r (Vals.eraseIdx i t)
theorem Vals.rep {xs:List V}{us:List Value}(h:Vals xs us):∀k:Nat,Vals (afh k xs).flatten (afh k us).flatten
 | 0=>.nil
 | k+1=>by
  rw [af_,af_,amV,amV]
  exact Vals.append h (Vals.rep h k)
theorem pK {α:Type}:∀(l:List α) (i:Nat),(l.eraseIdx i).length≤l.length
 | [],_=>aai _
 | _::_,0=>agl _
 | _::r,i+1=>Nat.succ_le_succ (pK r i)
theorem foldl_rep (its:List Value):∀(k:Nat) (acc:List Value),
  aok (fun x1 x2=>x1++x2) acc.toArray (afh k its.toArray)=(acc++(afh k its).flatten).toArray
 | 0,acc=>by simp
 | k+1,acc=>by
  have e:acc.toArray++its.toArray=(acc++its).toArray:=by simp
  have e2:(acc++its)++(afh k its).flatten=acc++(afh (k+1) its).flatten:=by
   rw [af_,amV,af6]
  rw [← e2, ← foldl_rep its k (acc++its), ← e,af_,List.foldl_cons]
section
variable {X:Cx}{pins:List (Addr×Obj)}{σ:St}{H:Hp}{s:Shared}{l b:Addr}{xs ys zs:List V}
theorem Inv.Jk {its its' :List Value}{n:Nat}{f:Array Value→Array Value}{t' :Nat}(I:Inv X pins σ H s)(hH:H l=some (.lst xs))
  (e:s.heap.get? l=some {cls:=.type "list",data:=.seq its.toArray n}) (hf:f its.toArray=its'.toArray) (hv:Vals ys its') (hz:ys.length≤sizeLine):
  Inv X pins σ (upd H l (.lst ys)) {s with heap:=s.heap.update l (Obj.mapSeq f),toks:=t' }:=by
 have q:=PySem.IsL.update e f
 rw [hf] at q
 refine I.write (x:=l) (e:=l) (by rw [hH];exact trivial) (.inl rfl) (fun b' u hb hu=>(Heap.get?_update_other s.heap (Obj.mapSeq f) (afk hb)).trans hu) ⟨_,q⟩ ?_
 exact ⟨hz,its',_,hv,q⟩
theorem Inv.Jl {its:List Value}{t' :Nat}(I:Inv X pins σ H s)(hv:Vals ys its)(hz:ys.length≤sizeLine):
  Inv X pins σ (upd H s.heap.objs.size (.lst ys)) {s with heap:=s.heap.push {cls:=.type "list",data:=.seq its.toArray},toks:=t' }:=
 I.laid (fun _ _ q=>Heap.get?_push_of_some _ q) (aai _) ⟨hz,its,0,hv,Heap.get?_push_size _ rfl⟩
theorem Inv.fresh (I:Inv X pins σ H s):H s.heap.objs.size=none:=I.bt.fresh (aai _)
theorem Inv.sW (I:Inv X pins σ H s)(hH:H l=some (.lst xs)):xs.length≤sizeLine∧∃(its:List Value) (n:Nat),Vals xs its∧xs.length=its.length∧s.heap.get? l=some {cls:=.type "list",data:=.seq its.toArray n}:=by
 obtain ⟨z,its,n,r,e⟩:=I.bt l _ hH
 exact ⟨z,its,n,r,r.length,e⟩
theorem mi {n:Nat}(h:n≤sizeLine):Builtin.List.listTooLong n=false:=by
 unfold Builtin.List.listTooLong
 exact decide_eq_false (by omega)
end
section
variable {X:Cx}
inductive wX (x:V)(vs:List V)(H:Hp)(Q:VK):Prop where
 | mk (l xs y:_) (_:x=.ref l) (_:vs=[y]) (_:H l=some (.lst xs)) (_:xs.length < sizeLine) (_:Q .cb (upd H l (.lst (xs++[y])))):wX x vs H Q
theorem dz:XJ X "list.append" wX:=by
 intro pins s σ H x vs v us Q I rx rv h
 obtain ⟨l,xs,y,rfl,rfl,hH,hz,q⟩:=h
 cases rx
 obtain ⟨u,rfl,ru⟩:=rv.one
 obtain ⟨z,its,n,r,hl,e⟩:=I.sW hH
 refine call_meets F.slot_list_append ⟨_,e,rfl⟩ F.entry_list_append (F.args_list_append_2 _ _) (PySem.list_append l its.toArray n u (by rw [afa];omega)) ⟨e,?_⟩
 refine ⟨.cb,_,I.Jk (its' :=its++[u]) hH e (by simp) (r.append (.cons ru .nil)) ?_,rfl,q⟩
 rw [afi,anB]
 omega
inductive wY (x:V)(vs:List V)(H:Hp)(Q:VK):Prop where
 | mk (l b xs zs:_) (_:x=.ref l) (_:vs=[.ref b]) (_:H l=some (.lst xs)) (_:H b=some (.lst zs)) (_:xs.length+zs.length≤sizeLine) (_:Q .cb (upd H l (.lst (xs++zs)))):wY x vs H Q
theorem yu:XJ X "list.extend" wY:=by
 intro pins s σ H x vs v us Q I rx rv h
 obtain ⟨l,b,xs,zs,rfl,rfl,hH,hB,hz,q⟩:=h
 cases rx
 obtain ⟨u,rfl,ru⟩:=rv.one
 cases ru
 obtain ⟨z,its,n,r,hl,e⟩:=I.sW hH
 obtain ⟨z2,cR,n2,r2,hl2,e2⟩:=I.sW hB
 have hsz:its.toArray.size+cR.toArray.size≤sizeLine:=by rw [afa,afa];omega
 have sX:¬ (!its.toArray.isEmpty && Builtin.List.listTooLong (its.toArray.size+cR.toArray.size))=true:=by
  rw [mi hsz,amW]
  exact ad_
 refine call_meets F.slot_list_extend ⟨_,e,rfl⟩ F.entry_list_extend (F.args_list_extend_2 _ _)
  (AutoSeq1.list_extend_list_list_0 l its.toArray n b cR.toArray n2 sX (by rw [afa];omega) (by omega)) ⟨e,e2,?_⟩
 refine ⟨.cb,_,I.Jk (its' :=its++cR) hH e (by simp) (r.append r2) ?_,rfl,q⟩
 rw [afi]
 omega
def MY:V→List V→Hp→VK→Prop:=fun x vs H Q=>∃l xs i k y,x=.ref l∧vs=[.int i]∧H l=some (.lst xs)∧ -(2^63)≤i∧i < 2^63∧seqIndex? i xs.length=some k∧xs[k]? =some y∧Q y (upd H l (.lst (xs.eraseIdx k)))
theorem CB:XJ X "list.pop" MY:=by
 intro pins s σ H x vs v us Q I rx rv h
 obtain ⟨l,xs,i,k,y,rfl,rfl,hH,h1,h2,hk,hy,q⟩:=h
 cases rx
 obtain ⟨u,rfl,ru⟩:=rv.one
 obtain ⟨t,rfl⟩:=ru
 obtain ⟨z,its,n,r,hl,e⟩:=I.sW hH
 obtain ⟨w,hw,lj⟩:=r.get hy
 refine call_meets F.slot_list_pop ⟨_,e,rfl⟩ F.entry_list_pop (F.args_list_pop_2 _ _)
  (MeetsSeq.list_pop_at l its.toArray n i t k w (fitsIndex_both h1 h2) (by rw [afa, ← hl];exact hk) (by rw [← agr];exact hw) (by rw [afa];omega)) ⟨e,?_⟩
 refine ⟨y,_,I.Jk (its' :=its.eraseIdx k) hH e ?_ (r.eraseIdx k) ?_,lj,q⟩
 ·show its.toArray.eraseIdxIfInBounds k=(its.eraseIdx k).toArray
  rw [List.eraseIdxIfInBounds_toArray]
 ·have:=pK xs k
  omega
inductive Qc (x:V)(y:V)(H:Hp)(Q:VK):Prop where
 | mk (l b xs zs:_) (_:x=.ref l) (_:y=.ref b) (_:H l=some (.lst xs)) (_:H b=some (.lst zs)) (_:xs.length+zs.length≤sizeLine) (_:∀p,H p=none→Q (.ref p) (upd H p (.lst (xs++zs)))):Qc x y H Q
theorem CC:iV X (binaryOp .Add) Qc:=by
 intro pins s σ H x y v u Q I rx ry h
 obtain ⟨l,b,xs,zs,rfl,rfl,hH,hB,hz,q⟩:=h
 cases rx
 cases ry
 obtain ⟨z,its,n,r,hl,e⟩:=I.sW hH
 obtain ⟨z2,cR,n2,r2,hl2,e2⟩:=I.sW hB
 refine PySem.P.add_list e e2 ?_ (by rw [afa,afa];omega)
 have ea:its.toArray++cR.toArray=(its++cR).toArray:=by simp
 rw [ea]
 exact ⟨.ref _,_,I.Jl (t' :=s.toks) (r.append r2) (by rw [afi];omega),rfl,q _ I.fresh⟩
inductive Qd (x:V)(y:V)(H:Hp)(Q:VK):Prop where
 | mk (l k xs:_) (_:x=.ref l) (_:y=.int k) (_:H l=some (.lst xs)) (_: -(2^63)≤k) (_:k < 2^63) (_:xs.length*k.toNat≤sizeLine) (_:∀p,H p=none→Q (.ref p) (upd H p (.lst (afh k.toNat xs).flatten))):Qd x y H Q
theorem len_rep {α:Type}(xs:List α)(k:Nat):(afh k xs).flatten.length=k*xs.length:=by
 induction k with
 | zero=>simp
 | succ k ih=>rw [af_,amV,afi,ih,Nat.succ_mul,anv]
theorem MZ:iV X (binaryOp .Mult) Qd:=by
 intro pins s σ H x y v u Q I rx ry h
 obtain ⟨l,k,xs,rfl,rfl,hH,h1,h2,hz,q⟩:=h
 cases rx
 obtain ⟨t,rfl⟩:=ry
 obtain ⟨z,its,n,r,hl,e⟩:=I.sW hH
 have hlen:its.toArray.size*k.toNat≤sizeLine:=by rw [afa, ← hl];exact hz
 have XM:¬ its.toArray.size*k.toNat > (2^63 - 1) / 8:=by
  have:(sizeLine:Nat)≤(2^63 - 1) / 8:=by decide
  omega
 have XN:¬ (!Builtin.List.listFitsIndex k)=true:=by
  rw [fitsIndex_both h1 h2]
  exact ad_
 have sX:¬ Builtin.List.listTooLong (its.toArray.size*k.toNat)=true:=by
  rw [mi hlen]
  exact ad_
 have XO:aok (fun x1 x2=>x1++x2) #[] (afh (if its.toArray.isEmpty=true then 0 else k.toNat) its.toArray)=(afh k.toNat its).flatten.toArray:=by
  have f0:∀m:Nat,aok (fun x1 x2=>x1++x2) #[] (afh m its.toArray)=(afh m its).flatten.toArray:=fun m=>by
   have:=foldl_rep its m []
   rw [anz] at this
   exact this
  rw [f0]
  cases its with
  | nil=>simp
  | cons a r' =>rw [if_neg (by simp)]
 refine wpAny_binaryOp_repeat_ref (T:="list") (U:="int") (by decide) ⟨_,e,rfl⟩ (fun s' =>typeIs_int s' k t) noFill_list_mul F.fills_int_mul F.slot_int_rmul repeat_list F.slot_int_index.lookup
  (call_meets F.slot_int_rmul (typeIs_int s k t) F.entry_int_rmul (F.args_int_rmul_2 _ _) (int___rmul___int_list k t l its.toArray n)
   ⟨e,rfl,⟨_,e,rfl⟩,call_meets F.slot_list_mul ⟨_,e,rfl⟩ F.entry_list_mul (F.args_list_mul_2 _ _) (AutoListH.list___mul___list_int_3 l its.toArray n k t XN XM sX) ⟨e,?_⟩⟩)
 rw [XO]
 exact ⟨.ref _,_,I.Jl (t' :=s.toks) (r.rep k.toNat) (by rw [len_rep,anb];exact hz),rfl,q _ I.fresh⟩
end
section
variable {prog:Program}{w:World}{A:Around}{E:Value→Shared→Prop}{s:Shared}
set_option maxRecDepth 100000 in
end
section
variable {X:Cx}
end
end L2
namespace Att
open PySem PySem.W PySem.Calls PyProof.Rows
theorem kN {P:Params}{h:Heap}:∀(ns:List Int) (vs:List Value),WellAll P h vs (ns.map WData.int)→IntsAre vs ns:=by
 intro ns
 induction ns with
 | nil=>
  intro vs w
  rw [anc] at w
  cases w
  exact .nil
 | cons n ns ih=>
  intro vs w
  rw [ac_] at w
  cases w with
  | cons a b=>
   cases a
   exact .cons _ _ (ih _ b)
theorem yv {l:OpenLaw}{n:Nat}(hn:l.most=some n){P:Params}{h:Heap}{args:List WData}{vals:List Value}
  (Jm:l.row.toRowW.claim.pre args=true) (XQ:WellAll P h vals args):
  ∃a vs ns,vals=[Value.ref a]∧args=[WData.list (ns.map WData.int)]∧h.get? a=some {cls:=.type "list",data:=.seq vs.toArray}∧IntsAre vs ns∧ns.length≤n:=by
 have hsh:WShape.hasAll [] args [.list .int]=true:=(pre_splitW Jm).1
 have hc:l.pre.holds [] {args:=args}=true:=(pre_splitW Jm).2
 obtain ⟨d,r,rfl,h1,h2⟩:=hasAllW_cons hsh
 obtain rfl:=hasAllW_nil h2
 obtain ⟨xs,rfl,h3⟩:=hasW_list h1
 obtain ⟨ns,rfl⟩:=items_int h3
 have hlen:ns.length≤n:=by
  unfold OpenLaw.pre at hc
  have h4:(WTm.not (.lt (.lit (.int (n:Int))) (.len (.arg 0)))).holds [] {args:=[.list (ns.map .int)]}=true:=by
   have h4:=(holds_andW hc).1
   rw [hn] at h4
   exact h4
  have h5:=condW_of h4 (w_not (w_lt w_lit (w_len_list (w_arg rfl))))
  rw [aaa] at h5
  refine ans fun q=> ?_
  have q' :(n:Int) < ((ns.length:Nat):Int):=by omega
  first
   | (rw [decide_eq_true q'] at h5;exact absurd h5 (by decide))
   | (simp at h5;omega)
 cases XQ with
 | cons w1 w2=>
  cases w2
  cases w1 with
  | list ho CD=>exact ⟨_,_,ns,rfl,rfl,ho,kN ns _ CD,hlen⟩
theorem yw (l:OpenLaw)(args:List WData):l.row.toRowW.claim.post args (.bool true) args=true:=
 postW_of (r:=l.row.toRowW) (X:=(true==true))
  (show WShape.has [] (.bool true) .bool=true by first | rfl | decide | simp [WShape.has,WShape.arms,WShape.armsAll])
  (show (WTm.eq .res (.lit (.bool true))).value [] {args:=args,res:=some (.bool true),after:=args}=some (.bool (true==true)) from w_eq_bool (w_res rfl) w_lit) rfl
section
variable {prog:Program}{w:World}{A:Around}{E:Value→Shared→Prop}{s:Shared}{K:Frag}
end
end Att
namespace L2
open PySem PySem.Spec PyProof.Rows
theorem pM:∀{vs:List Value} {ns:List Int},IntsAre vs ns→Vals (ns.map V.int) vs
 | _,_,.nil=>.nil
 | _,_,.cons n t h=>.cons ⟨t,rfl⟩ (pM h)
def Qe (H:Hp):Prop:=∀b,H b=none∨∃o xs,H b=some (.cf o (.lst xs))
theorem CG {P:Program}{w:World}{K:Frag}{mg mb:Str→Option Value}{CX:jF}{k:Nat}{fa a:Addr}{fd:FuncData}{x:Str}{sp:Sp}{s₁:Shared}{vs:List Value}{ns:List Int}
  (KX:K.In s₁.heap) (hns:s₁.heap.Ns mainGlobals mg) (hb:s₁.heap.Ns builtinsNs mb) (hbb:∀x:Str,x≠ "__name__"→mb x=bootBuiltins x) (XR:s₁.heap.NoLimit) (Jn:s₁.heap.NoSeer) (hg:s₁.gens= #[])
  (ha:s₁.heap.get? a=some {cls:=.type "list",data:=.seq vs.toArray}) (hi:IntsAre vs ns) (hl:ns.length≤sizeLine) (hr:b8 k callerA)
  (F:∀base:Heap,K.In base→base.Ns mainGlobals mg→cv P w K mg base CX k fa fd [x] sp) (Qf:∀(s:Shared) (u:Value),BindsTo s fd ⟨[u],[]⟩ [(x,u)])
  (oB:∀H:Hp,Qe H→ba K H a (ns.map V.int)→sp [.ref a] H (fun v _=>v=.bl true) fun _ _ _=>False)
  (hCX:∀H e s',CX [] H s₁ (fun _ _ _=>False) e s' →False):
  codeAny (model P w) callerA (.call (.ref fa) ⟨[.ref a],[]⟩) (fun r s' =>r=.ok (.ret (.bool true))∧OldK s₁.heap s'.heap∧s'.os=s₁.os∧AllBare s'.gens) s₁:=by
 have rv:=pM hi
 have XS:=hi.length
 have core:∀H:Hp,Qe H→ba K H a (ns.map V.int)→h8 P w H s₁.heap→(∀b,H b≠none→b=a)→(H a≠none→K.lookup a=none)→
   codeAny (model P w) callerA (.call (.ref fa) ⟨[.ref a],[]⟩) (fun r s' =>r=.ok (.ret (.bool true))∧OldK s₁.heap s'.heap∧s'.os=s₁.os∧AllBare s'.gens) s₁:=by
  intro H hO hS bt hA hK
  have qN:∀{b:Addr} {o:Obj},s₁.heap.get? b=some o→H b=none→(qA s₁.heap H).get? b=some o:=fun e n=>BH e n
  have P5:∀{b:Addr} {o:Obj} {es:Array DictEntry} {ep:Nat},s₁.heap.get? b=some o→o.data=.dict es ep→H b=none:=fun {b o es ep} e d=>by
   cases q:H b with
   | none=>rfl
   | some u=>
    have e' :b=a:=hA b (by rw [q];simp)
    subst e'
    rw [ha] at e;cases e
    have d' :Data.seq vs.toArray _=Data.dict es ep:=d
    cases d'
  have La:∀{b:Addr} {m:Str→Option Value},s₁.heap.Ns b m→(qA s₁.heap H).Ns b m:=fun {b m} ⟨o,es,ep,e,d,r⟩=>⟨o,es,ep,qN e (P5 e d),d,r⟩
  have hKb:K.In (qA s₁.heap H):=fun b o e=>qN (KX b o e) (by
   cases q:H b with
   | none=>rfl
   | some u=>
    have e' :b=a:=hA b (by rw [q];simp)
    subst e'
    rw [hK (by rw [q];simp)] at e;cases e)
  have hM:Mod K mg (qA s₁.heap H):=⟨hKb,La hns,⟨mb,La hb,hbb⟩,let ⟨mc,h1,h2⟩:=XR;⟨mc,La h1,h2⟩,
   ⟨let ⟨mc,h1,h2⟩:=Jn.statics;⟨mc,La h1,h2⟩,let ⟨mc,h1,h2⟩:=Jn.mods;⟨mc,La h1,h2⟩,let ⟨mc,h1,h2⟩:=Jn.imp;⟨mc,La h1,h2⟩,
    let ⟨mg',bm,ob,h1,h2,h3,h4,h5⟩:=Jn.main;⟨mg',bm,ob,La h1,h2,qN h3 (by
     cases q:H bm with
     | none=>rfl
     | some u=>
      have e' :bm=a:=hA bm (by rw [q];simp)
      subst e'
      rw [ha] at h3
      cases h3
      have h4' :Value.type "list"=Value.type "module":=h4
      injection h4' with e9
      exact absurd e9 (by decide)),h4,h5⟩⟩⟩
  have e0:vh P w K mg (qA s₁.heap H) callerA [] s₁ H:=⟨rfl,hM,fun b o e=>IL e,anu (yg _ _),trivial,fun b hb=>absurd (show b∈([]:List Addr) from hb) (by simp),bt,.of_eq hg⟩
  refine codeAny_mono ((F _ hKb (La hns)).run callerA [] s₁ H ⟨[.ref a],[]⟩ [.ref a] [.ref a] _ _ hr e0 (Qf s₁ (.ref a)) (.cons rfl .nil) (oB H hO hS)) fun r s' h=> ?_
  cases r with
  | error e=>exact (hCX H e s' h).elim
  | ok fl=>
   cases fl with
   | next=>exact False.elim h
   | brk=>exact False.elim h
   | cont=>exact False.elim h
   | ret u=>
    obtain ⟨v,H',os,bare,un,XT,r',q⟩:=h
    have q' :v=.bl true:=q
    subst q'
    obtain rfl:u=Value.bool true:=r'
    refine ⟨rfl,OldK.of_keep fun b o e=> ?_,os,bare⟩
    cases q:H b with
    | none=>exact un.keep b o e q (by intro z;exact absurd (show b∈([]:List Addr) from z) (by simp)) (by simp)
    | some u=>
     rcases hO b with z | ⟨ob,xs,z⟩
     ·rw [q] at z;cases z
     ·have z2:=un.l0 b ob _ z
      obtain ⟨e1,_⟩:=bt b _ z
      obtain ⟨e2,_⟩:=XT b _ z2
      rw [e] at e1;cases e1
      exact e2
 cases hk:K.lookup a with
 | some o=>
  have e:=KX a o hk
  rw [ha] at e
  cases e
  refine core (fun _=>none) (fun _=>.inl rfl) (.inr ⟨_,vs.toArray,_,hk,rfl,rfl,rfl,by rw [afa,XS];exact hl,by simpa using rv⟩) (fun b u z=>by have z' :(none:Option HO)=some u:=z;cases z') (fun b z=>absurd rfl z) fun z=>absurd rfl z
 | none=>
  refine core (fun b=>if b=a then some (.cf {cls:=.type "list",data:=.seq vs.toArray} (.lst (ns.map V.int))) else none) (fun b=> ?_) (.inl (.inr ⟨{cls:=.type "list",data:=.seq vs.toArray},if_pos rfl⟩)) (fun b u z=> ?_) (fun b z=> ?_) fun _=>hk
  ·by_cases hb:b=a
   ·exact .inr ⟨_,_,if_pos hb⟩
   ·exact .inl (if_neg hb)
  ·by_cases hb:b=a
   ·have z' :=(if_pos hb).symm.trans z
    cases z'
    subst hb
    exact ⟨ha,by rw [aaa];exact hl,vs,_,rv,ha⟩
   ·have z' :=(if_neg hb).symm.trans z
    cases z'
  ·by_cases hb:b=a
   ·exact hb
   ·exact absurd (if_neg hb) z
end L2
namespace L2
open PySem PySem.Spec PyProof.Rows
abbrev KOf {K:Frag}{h:Heap}(_:K.In h):Frag:=K
end L2
namespace L2
open PySem PySem.Spec PyProof.Rows
def inClass (s:Stmt)(j:Nat):Stmt:=match s with
 | .ClassDef _ _ _ body _ _ _ _ _ _ _=>body.getD j (.Pass ⟨0,0,0,0⟩)
 | _=>.Pass ⟨0,0,0,0⟩
def ay (s:Stmt):Arguments:=match s with
 | .FunctionDef _ a _ _ _ _ _ _ _ _=>a
 | _=>{posonlyargs:=[],args:=[],vararg:=none,kwonlyargs:=[],kw_defaults:=[],kwarg:=none,defaults:=[]}
def aw (s:Stmt):List Stmt:=match s with
 | .FunctionDef _ _ b _ _ _ _ _ _ _=>b
 | _=>[]
def ag (s:Stmt):Scope:=match s with
 | .FunctionDef _ _ _ _ _ _ sc _ _ _=>sc
 | _=>{kind:=.function,names:=[],isGenerator:=false,isCoroutine:=false}
abbrev E0:XK:=fun _ _ _=>False
structure mj (K:Frag)(x qual:Str)(st:Stmt)(f:Addr)(fd:FuncData):Prop where
 ex:∃(oc:Value) (od:Option Addr) (kV doc pm:Value) (an:Option Addr) (bC ct:Value) (kL:Array (Option Value)),
  fd=fnOf x qual (ay st) (aw st) (ag st) .none kV doc pm an bC ct∧K.lookup f=some ⟨oc,od,.func fd,kL⟩∧codeIn K bC qual=true
 kp:keepIn K (.ref f)=true
section
variable {P:Program}{w:World}{K:Frag}{mg:Str→Option Value}{base:Heap}
theorem mj.binds {x qual:Str}{st:Stmt}{f:Addr}{fd:FuncData}{ps:List Str}(F:mj K x qual st f fd)
  (h:∀(kV doc pm:Value) (an:Option Addr) (bC ct:Value) (us:List Value),us.length=ps.length→bindArgs (fnOf x qual (ay st) (aw st) (ag st) .none kV doc pm an bC ct) ⟨us,[]⟩=pure (ps.zip us)):Binds K fd ps []:=by
 obtain ⟨oc,od,kV,doc,pm,an,bC,ct,kL,rfl,lk,oz⟩:=F.ex
 exact .all (h kV doc pm an bC ct)
theorem cJ {x qual:Str}{st:Stmt}{f:Addr}{oc:Value}{od an:Option Addr}{kL:Array (Option Value)}{kV doc pm bC ct:Value}(l:K.lookup f=some ⟨oc,od,.func (fnOf x qual (ay st) (aw st) (ag st) .none kV doc pm an bC ct),kL⟩)
  (c:codeIn K bC qual=true) (k:keepIn K (.ref f)=true):mj K x qual st f (fnOf x qual (ay st) (aw st) (ag st) .none kV doc pm an bC ct):=⟨⟨oc,od,kV,doc,pm,an,bC,ct,kL,rfl,l,c⟩,k⟩
end
theorem bT {A:Around}{k:Nat}(hr:b8 k A):A.units+1 < cLine:=afe (Nat.add_le_add_left (by decide:1≤64) _) hr.units
section
variable {X:Cx}
theorem pv (i:Nat){x:Str}{pos:Pos}(hN:X.N[i]? =some x:=by rfl)(hv:Xm X.env.scope x:=by first | exact ab_ rfl | exact afx (ab_ rfl) | exact afx (afx rfl))(hd:(x==("__debug__":Str))=false:=by decide)
  (oz:(x==("__classdict__":Str))=false:=by decide):PE X (.Name x pos) (IS i):=My hN hv hd oz
end
theorem M0 {A B:Prop}(h:B):if false=true then A else B:=by
 rw [if_neg ad_]
 exact h
theorem a_ {c A B:Prop}[Decidable c](h1:c→A)(h2:¬ c→B):if c then A else B:=by
 by_cases h:c
 ·rw [if_pos h]
  exact h1 h
 ·rw [if_neg h]
  exact h2 h
theorem CH {c A B:Prop}[Decidable c](hc:c)(h:B):if (!decide c)=true then A else B:=by
 rw [decide_eq_true hc]
 exact M0 h
def av (H H' :Hp):Prop:=∀b o,H b=some o→H' b=some o
theorem av.refl (H:Hp):av H H:=fun _ _ h=>h
theorem av.trans {H H1 H2:Hp}(a:av H H1)(b:av H1 H2):av H H2:=fun c o h=>b c o (a c o h)
theorem av.free {H H' :Hp}(e:av H H'){l:Addr}(h:H' l=aoP):H l=aoP:=by
 cases q:H l with
 | none=>rfl
 | some o=>
  rw [e l o q] at h
  cases h
theorem av.seq {K:Frag}{H H' :Hp}{a:Addr}{xs:List V}(e:av H H')(h:ba K H a xs):ba K H' a xs:=by
 rcases h with (h | ⟨o,h⟩) | h
 ·exact .inl (.inl (e _ _ h))
 ·exact .inl (.inr ⟨o,e _ _ h⟩)
 ·exact .inr h
end L2
namespace Ty
def gz (t b:Int):Int:=(afE t b:Nat)
def sg (t b:Int):Int:=if b < 0 then -gz t b else gz t b
def low (t b:Int):Int×Int:=(t.fdiv (sg t b),b.fdiv (sg t b))
theorem sY (a b:Int):afE b (a.fmod b)=afE a b:=by
 rw [anR,Int.gcd_sub_mul_left_right,Int.gcd_comm]
theorem pO {a b:Int}(h:b≠0):(a.fmod b).natAbs < b.natAbs:=by
 rcases ank b 0 with q | q | q
 ·have h1:(-a).fmod (-b)= -(a.fmod b):=by
   rw [anR,anR,Int.neg_fdiv_neg,Int.neg_mul]
   omega
  have h2:=agm (-a) (show 0 < -b by omega)
  have h3:=ani (-a) (show 0 < -b by omega)
  omega
 ·exact absurd q h
 ·have h2:=agm a q
  have h3:=ani a q
  omega
theorem qO {t b:Int}(h:b≠0):0 < gz t b:=by
 have:=aoa.mpr (afx h:t≠0∨b≠0)
 show (0:Int) < ((afE t b:Nat):Int)
 omega
theorem Qg {t b:Int}(h:b≠0):(gz t b).natAbs≤b.natAbs:=by
 have h1:afE t b ∣ b.natAbs:=ags.mpr (agc t b)
 have h2:=Nat.le_of_dvd (by omega) h1
 show ((afE t b:Nat):Int).natAbs≤_
 omega
theorem mn {t b:Int}(h:b≠0):sg t b≠0:=by
 have:=qO (t:=t) h
 unfold sg
 split <;> omega
theorem M3 {t b:Int}:(sg t b).natAbs=(gz t b).natAbs:=by
 unfold sg
 split
 ·exact anF _
 ·rfl
theorem sZ (t b:Int):sg t b ∣ t:=by
 unfold sg gz
 split
 ·exact Int.neg_dvd.mpr (agk t b)
 ·exact agk t b
theorem qP (t b:Int):sg t b ∣ b:=by
 unfold sg gz
 split
 ·exact Int.neg_dvd.mpr (agc t b)
 ·exact agc t b
theorem b7 {a g:Int}(h:g≠0)(d:g ∣ a):a=g*a.fdiv g:=by
 obtain ⟨c,hc⟩:=d
 have:=agv h hc
 rw [this]
 exact hc
theorem lI {t b:Int}(h:b≠0):t=sg t b*(low t b).1:=b7 (mn h) (sZ t b)
theorem i8 {t b:Int}(h:b≠0):b=sg t b*(low t b).2:=b7 (mn h) (qP t b)
theorem i9 {t b:Int}(h:b≠0):0 < (low t b).2:=by
 have e:=i8 (t:=t) h
 have g:=qO (t:=t) h
 rcases ank (low t b).2 0 with q | q | q
 ·exfalso
  by_cases c:b < 0
  ·have s:sg t b= -gz t b:=by unfold sg;rw [if_pos c]
   rw [s] at e
   have:=Int.mul_pos_of_neg_of_neg (show -gz t b < 0 by omega) q
   omega
  ·have s:sg t b=gz t b:=by unfold sg;rw [if_neg c]
   rw [s] at e
   have:=anj g q
   omega
 ·exfalso
  rw [q,amX] at e
  exact h e
 ·exact q
theorem yx {t b:Int}(h:b≠0):(low t b).1*b=t*(low t b).2:=by
 have e1:=lI (t:=t) h
 have e2:=i8 (t:=t) h
 calc (low t b).1*b=(low t b).1*(sg t b*(low t b).2):=by rw [← e2]
  _=sg t b*(low t b).1*(low t b).2:=by rw [← am7,agd (low t b).1]
  _=t*(low t b).2:=by rw [← e1]
theorem lJ {t b:Int}(h:b≠0):afE (low t b).1 (low t b).2=1:=by
 have e1:=lI (t:=t) h
 have e2:=i8 (t:=t) h
 have k:afE t b=(sg t b).natAbs*afE (low t b).1 (low t b).2:=by
  have q:=an6 (sg t b) (low t b).1 (low t b).2
  rw [← e1, ← e2] at q
  exact q
 have g:(sg t b).natAbs=afE t b:=by
  rw [M3]
  rfl
 have p:=aoa.mpr (afx h:t≠0∨b≠0)
 rw [g] at k
 have k' :afE t b*1=afE t b*afE (low t b).1 (low t b).2:=by rw [Nat.mul_one];exact k
 exact (Nat.eq_of_mul_eq_mul_left p k').symm
theorem dh {g a:Int}(h:g≠0):a.natAbs≤(g*a).natAbs:=by
 rw [af3]
 have:1≤g.natAbs:=by omega
 have:=af4 a.natAbs this
 omega
theorem mq {t b:Int}(h:b≠0):(low t b).1.natAbs≤t.natAbs:=by
 have e:=lI (t:=t) h
 have:=dh (g:=sg t b) (a:=(low t b).1) (mn h)
 rw [← e] at this
 exact this
theorem mB {t b:Int}(h:b≠0):(low t b).2.natAbs≤b.natAbs:=by
 have e:=i8 (t:=t) h
 have:=dh (g:=sg t b) (a:=(low t b).2) (mn h)
 rw [← e] at this
 exact this
theorem CI {t b g x y:Int}(hg:g≠0)(ht:t=g*x)(hb:b=g*y)(hy:0 < y)(h1:afE x y=1):low t b=(x,y):=by
 have hbn:b≠0:=by
  rw [hb]
  exact aob hg (by omega)
 have gg:afE t b=g.natAbs:=by
  rw [ht,hb,an6,h1,Nat.mul_one]
 have s:sg t b=g:=by
  unfold sg gz
  rw [gg]
  by_cases c:g < 0
  ·have:b < 0:=by rw [hb];exact Int.mul_neg_of_neg_of_pos c hy
   rw [if_pos this]
   omega
  ·have:¬ b < 0:=by
    have:=Int.mul_nonneg (show 0≤g by omega) (show 0≤y by omega)
    omega
   rw [if_neg this]
   omega
 unfold low
 rw [s]
 rw [agv hg ht,agv hg hb]
theorem mC {x y:Int}(hy:0 < y)(h:afE x y=1):low x y=(x,y):=CI (g:=1) (by decide) (by omega) (by omega) hy h
theorem pQ {t b k:Int}(hk:k≠0)(h:b≠0):low (k*t) (k*b)=low t b:=by
 refine CI (g:=k*sg t b) (aob hk (mn h)) ?_ ?_ (i9 h) (lJ h)
 ·rw [am7]
  exact congrArg (k*·) (lI h)
 ·rw [am7]
  exact congrArg (k*·) (i8 h)
theorem oE {t b u c:Int}(hb:b≠0)(hc:c≠0)(h:t*c=u*b):low t b=low u c:=by
 rw [← pQ (t:=t) (b:=b) hc hb, ← pQ (t:=u) (b:=c) hb hc]
 rw [agd c t,h,agd u b,agd c b]
end Ty
set_option maxHeartbeats 4000000
namespace Ty
open PySem PySem.Spec PyProof.Rows L2
open Builtin.Int (intBits)
section
variable {X:Cx}
def wZ (i j:Int):Prop:=intBits i≤33554432∧intBits j≤33554432
theorem cE:iV X (binaryOp .Mult) (rI wZ fun i j=>.int (i*j)):=
 Ws fun _ _ _ _ _ _ _ hc q=>mul_int q (IntMulOk.of_le hc.1 hc.2 (by decide))
def Qh (i j:Int):Prop:=j≠0∧intBits j≤9000
theorem XU {i j:Int}(h:intBits j≤9000):Builtin.divisionGoesByPylong i j=false:=by
 refine PyProof.noPylong_of_log2 ?_
 have h1:=intBits_le_iff.mp h
 by_cases h0:j.natAbs=0
 ·rw [h0]
  decide+kernel
 ·exact (Nat.log2_lt h0).mpr h1
theorem s_:iV X (binaryOp .FloorDiv) (rI Qh fun i j=>.int (i.fdiv j)):=
 Ws fun _ _ _ _ _ _ _ hc q=>floordiv_int hc.1 q (.inl (XU hc.2))
end
inductive Da where
 | v (x:V)
 | t (ds:List Da)
 | l (ds:List Da)
mutual
def Is (K:Frag)(H:Hp):Da→V→Prop
 | .v x,u=>u=x∧iq x=true
 | .t ds,u=>∃p xs,u=.ref p∧bK K H p xs∧dS K H ds xs
 | .l ds,u=>∃p xs,u=.ref p∧ba K H p xs∧dS K H ds xs
def dS (K:Frag)(H:Hp):List Da→List V→Prop
 | [],[]=>True
 | d::ds,x::xs=>Is K H d x∧dS K H ds xs
 | _,_=>False
end
mutual
def fB:Da→Da→Bool
 | .v x,.v y=>om x y
 | .t ds,.t es=>cg ds es
 | .l ds,.l es=>cg ds es
 | _,_=>false
def cg:List Da→List Da→Bool
 | [],[]=>true
 | d::ds,e::es=>fB d e && cg ds es
 | _,_=>false
end
mutual
def alike:Da→Da→Bool
 | .v _,.v _=>true
 | .t ds,.t es=>cK ds es
 | .l ds,.l es=>cK ds es
 | _,_=>false
def cK:List Da→List Da→Bool
 | d::ds,e::es=>alike d e && cK ds es
 | _,_=>true
end
mutual
def dep:Da→Nat
 | .v _=>0
 | .t ds=>eM ds+1
 | .l ds=>eM ds+1
def eM:List Da→Nat
 | []=>0
 | d::ds=>max (dep d) (eM ds)
end
theorem dS.length {K:Frag}{H:Hp}:∀{ds:List Da} {xs:List V},dS K H ds xs→ds.length=xs.length
 | [],[],_=>rfl
 | _::_,_::_,h=>congrArg (·+1) (dS.length (by unfold dS at h;exact h.2))
 | [],_::_,h=>by unfold dS at h;exact h.elim
 | _::_,[],h=>by unfold dS at h;exact h.elim
def gK (ds es:List Da)(j:Nat):Bool:=match ds[j]?,es[j]? with
 | some d,some e=>fB d e
 | _,_=>true
theorem cL:∀ds es:List Da,cg ds es=((afz (min ds.length es.length)).all (gK ds es) && ds.length==es.length)
 | [],[]=>rfl
 | [],_::_=>by simp [cg]
 | _::_,[]=>by simp [cg]
 | d::ds,e::es=>by
  have ih:=cL ds es
  have r:min (d::ds).length (e::es).length=min ds.length es.length+1:=by simp [Nat.succ_min_succ]
  rw [r,amY,am6,List.all_map]
  have b0:gK (d::ds) (e::es) 0=fB d e:=rfl
  have b1:(gK (d::ds) (e::es) ∘ Nat.succ)=gK ds es:=by
   funext j
   rfl
  have l1:((d::ds).length==(e::es).length)=(ds.length==es.length):=by simp
  rw [b0,b1,l1,Bool.and_assoc, ← ih]
  rfl
section
variable {X:Cx}{pins:List (Addr×Obj)}{σ:L2.St}{H:Hp}{s:Shared}
theorem tf {x:V}(h:iq x=true):om x x=true:=by
 cases x <;> first | rfl | (simp [om];done) | (cases h;done)
mutual
theorem qQ (I:Inv X pins σ H s):∀(d e:Da) (x:V),Is X.K H d x→Is X.K H e x→alike d e=true→fB d e=true
 | .v a,.v b,x,h1,h2,_=>by
  unfold Is at h1 h2
  obtain ⟨rfl,f⟩:=h1
  obtain ⟨rfl,_⟩:=h2
  unfold fB
  exact tf f
 | .t ds,.t es,x,h1,h2,a=>by
  unfold Is at h1 h2
  obtain ⟨p,xs,rfl,q1,k1⟩:=h1
  obtain ⟨p',ys,e',q2,k2⟩:=h2
  cases e'
  cases I.fH q1 q2
  unfold fB
  unfold alike at a
  exact mD I ds es xs k1 k2 a
 | .l ds,.l es,x,h1,h2,a=>by
  unfold Is at h1 h2
  obtain ⟨p,xs,rfl,q1,k1⟩:=h1
  obtain ⟨p',ys,e',q2,k2⟩:=h2
  cases e'
  cases I.gG q1 q2
  unfold fB
  unfold alike at a
  exact mD I ds es xs k1 k2 a
 | .v _,.t _,_,_,_,a=>by unfold alike at a;cases a
 | .v _,.l _,_,_,_,a=>by unfold alike at a;cases a
 | .t _,.v _,_,_,_,a=>by unfold alike at a;cases a
 | .t _,.l _,_,_,_,a=>by unfold alike at a;cases a
 | .l _,.v _,_,_,_,a=>by unfold alike at a;cases a
 | .l _,.t _,_,_,_,a=>by unfold alike at a;cases a
theorem mD (I:Inv X pins σ H s):∀(ds es:List Da) (xs:List V),dS X.K H ds xs→dS X.K H es xs→cK ds es=true→cg ds es=true
 | [],[],_,_,_,_=>by unfold cg;rfl
 | d::ds,e::es,x::xs,h1,h2,a=>by
  unfold dS at h1 h2
  unfold cK at a
  rw [afB] at a
  unfold cg
  rw [qQ I d e x h1.1 h2.1 a.1,mD I ds es xs h1.2 h2.2 a.2]
  rfl
 | [],_::_,[],_,h2,_=>by unfold dS at h2;exact h2.elim
 | [],_::_,_::_,h1,_,_=>by unfold dS at h1;exact h1.elim
 | _::_,[],[],h1,_,_=>by unfold dS at h1;exact h1.elim
 | _::_,[],_::_,_,h2,_=>by unfold dS at h2;exact h2.elim
 | _::_,_::_,[],h1,_,_=>by unfold dS at h1;exact h1.elim
end
theorem in1_units (A:Around):A.in1.units=A.units+1:=rfl
mutual
theorem w4 (I:Inv X pins σ H s):∀(d e:Da) (x y:V) (u w:Value) (A:Around),Is X.K H d x→Is X.K H e y→alike d e=true→RelV x u→RelV y w→A.units+dep d < cLine→SeqAt.EqAt A s u w (fB d e)
 | .v a,.v b,x,y,u,w,A,h1,h2,_,r1,r2,_=>by
  unfold Is at h1 h2
  obtain ⟨rfl,f1⟩:=h1
  obtain ⟨rfl,f2⟩:=h2
  unfold fB
  exact B_ r1 r2 f1 f2
 | .t ds,.t es,x,y,u,w,A,h1,h2,a,r1,r2,hu=>by
  have de :=h1
  have Jo :=h2
  unfold Is at h1 h2
  obtain ⟨p,xs,rfl,q1,k1⟩:=h1
  obtain ⟨p',ys,rfl,q2,k2⟩:=h2
  cases r1
  cases r2
  by_cases e:p=p'
  ·subst e
   rw [qQ I _ _ _ de Jo a]
   exact .same _
  ·refine .of_refs e ?_
   obtain ⟨its,v1,t1,_⟩:=I.tuple q1
   obtain ⟨cR,v2,t2,_⟩:=I.tuple q2
   unfold fB
   rw [cL,k1.length,k2.length,v1.length,v2.length]
   have z:=SeqAt.RcAt.tuples (A:=A) (e:=gK ds es) t1 t2 (by unfold dep at hu;omega) fun j g1 g2=>by
    unfold dep at hu
    unfold alike at a
    exact eZ I ds es xs ys its cR A.in1 k1 k2 a v1 v2 (by rw [in1_units];omega) j (by simpa using g1) (by simpa using g2)
   simpa using z
 | .l ds,.l es,x,y,u,w,A,h1,h2,a,r1,r2,hu=>by
  have de :=h1
  have Jo :=h2
  unfold Is at h1 h2
  obtain ⟨p,xs,rfl,q1,k1⟩:=h1
  obtain ⟨p',ys,rfl,q2,k2⟩:=h2
  cases r1
  cases r2
  by_cases e:p=p'
  ·subst e
   rw [qQ I _ _ _ de Jo a]
   exact .same _
  ·refine .of_refs e ?_
   obtain ⟨its,v1,t1,_⟩:=I.list q1
   obtain ⟨cR,v2,t2,_⟩:=I.list q2
   unfold fB
   unfold dep at hu
   unfold alike at a
   by_cases el:its.length=cR.length
   ·rw [cL,k1.length,k2.length,v1.length,v2.length]
    have z:=SeqAt.RcAt.lists (A:=A) (e:=gK ds es) t1.isList t2.isList (by simpa using el) (by omega) fun j g1 g2=>
     eZ I ds es xs ys its cR A.in1 k1 k2 a v1 v2 (by rw [in1_units];omega) j (by simpa using g1) (by simpa using g2)
    rw [el,anS,beq_self_eq_true,anr]
    rw [afa,el] at z
    exact z
   ·have ne:cg ds es=false:=by
     rw [cL,k1.length,k2.length,v1.length,v2.length,beq_eq_false_iff_ne.mpr el,amW]
    rw [ne]
    exact SeqAt.RcAt.lists_lengths t1.isList t2.isList (by simpa using el) (by omega)
 | .v _,.t _,_,_,_,_,_,_,_,a,_,_,_=>by unfold alike at a;cases a
 | .v _,.l _,_,_,_,_,_,_,_,a,_,_,_=>by unfold alike at a;cases a
 | .t _,.v _,_,_,_,_,_,_,_,a,_,_,_=>by unfold alike at a;cases a
 | .t _,.l _,_,_,_,_,_,_,_,a,_,_,_=>by unfold alike at a;cases a
 | .l _,.v _,_,_,_,_,_,_,_,a,_,_,_=>by unfold alike at a;cases a
 | .l _,.t _,_,_,_,_,_,_,_,a,_,_,_=>by unfold alike at a;cases a
theorem eZ (I:Inv X pins σ H s):∀(ds es:List Da) (xs ys:List V) (us ws:List Value) (A:Around),dS X.K H ds xs→dS X.K H es ys→cK ds es=true→Vals xs us→Vals ys ws→A.units+eM ds < cLine→
  ∀(j:Nat) (h1:j < us.length) (h2:j < ws.length),SeqAt.EqAt A s us[j] ws[j] (gK ds es j)
 | d::ds,e::es,x::xs,y::ys,u::us,w::ws,A,k1,k2,a,.cons r1 v1,.cons r2 v2,hu,0,_,_=>by
  unfold dS at k1 k2
  unfold cK at a
  rw [afB] at a
  unfold eM at hu
  exact w4 I d e x y u w A k1.1 k2.1 a.1 r1 r2 (by omega)
 | d::ds,e::es,x::xs,y::ys,u::us,w::ws,A,k1,k2,a,.cons r1 v1,.cons r2 v2,hu,j+1,h1,h2=>by
  unfold dS at k1 k2
  unfold cK at a
  rw [afB] at a
  unfold eM at hu
  exact eZ I ds es xs ys us ws A k1.2 k2.2 a.2 v1 v2 (by omega) j (by simpa using h1) (by simpa using h2)
 | [],_,[],_,_,_,_,_,_,_,.nil,_,_,_,h1,_=>absurd h1 (afW _)
 | _,[],_,[],_,_,_,_,_,_,_,.nil,_,_,_,h2=>absurd h2 (afW _)
 | [],_,_::_,_,_,_,_,k1,_,_,_,_,_,_,_,_=>by unfold dS at k1;exact k1.elim
 | _::_,_,[],_,_,_,_,k1,_,_,_,_,_,_,_,_=>by unfold dS at k1;exact k1.elim
 | _,[],_,_::_,_,_,_,_,k2,_,_,_,_,_,_,_=>by unfold dS at k2;exact k2.elim
 | _,_::_,_,[],_,_,_,_,k2,_,_,_,_,_,_,_=>by unfold dS at k2;exact k2.elim
end
end
section
variable {X:Cx}
inductive Lb (K:Frag)(x:V)(y:V)(H:Hp)(Q:VK):Prop where
 | mk (ds es:_) (_:((Is K H (.t ds) x∧Is K H (.t es) y)∨(Is K H (.l ds) x∧Is K H (.l es) y))) (_:cK ds es=true) (_:eM ds≤60) (_:Q (.bl (cg ds es)) H):Lb K x y H Q
inductive tj (K:Frag)(x:V)(y:V)(H:Hp)(Q:VK):Prop where
 | mk (ds es:_) (_:((Is K H (.t ds) x∧Is K H (.t es) y)∨(Is K H (.l ds) x∧Is K H (.l es) y))) (_:cK ds es=true) (_:eM ds≤60) (_:Q (.bl (!cg ds es)) H):tj K x y H Q
theorem i_ (hu:X.A.units+64 < cLine):iV X (compareOp .Eq) (Lb X.K):=by
 intro pins s σ H x y v u Q I rx ry h
 obtain ⟨ds,es,h,a,hd,q⟩:=h
 rcases h with ⟨h1,h2⟩ | ⟨h1,h2⟩
 ·unfold Is at h1 h2
  obtain ⟨p,xs,rfl,q1,k1⟩:=h1
  obtain ⟨p',ys,rfl,q2,k2⟩:=h2
  cases rx
  cases ry
  obtain ⟨its,v1,t1,_⟩:=I.tuple q1
  obtain ⟨cR,v2,t2,_⟩:=I.tuple q2
  have z:=SeqAt.RcAt.tuples (A:=X.A) (e:=gK ds es) t1 t2 (by omega) fun j g1 g2=>
   eZ I ds es xs ys its cR X.A.in1 k1 k2 a v1 v2 (by rw [in1_units];omega) j (by simpa using g1) (by simpa using g2)
  refine z X.prog X.w X.xe _ ⟨.bl _,H,I,rfl,?_⟩
  have e:=cL ds es
  rw [k1.length,k2.length,v1.length,v2.length] at e
  simpa [e] using q
 ·unfold Is at h1 h2
  obtain ⟨p,xs,rfl,q1,k1⟩:=h1
  obtain ⟨p',ys,rfl,q2,k2⟩:=h2
  cases rx
  cases ry
  obtain ⟨its,v1,t1,_⟩:=I.list q1
  obtain ⟨cR,v2,t2,_⟩:=I.list q2
  have e:=cL ds es
  rw [k1.length,k2.length,v1.length,v2.length] at e
  by_cases el:its.length=cR.length
  ·have z:=SeqAt.RcAt.lists (A:=X.A) (e:=gK ds es) t1.isList t2.isList (by simpa using el) (by omega) fun j g1 g2=>
    eZ I ds es xs ys its cR X.A.in1 k1 k2 a v1 v2 (by rw [in1_units];omega) j (by simpa using g1) (by simpa using g2)
   refine z X.prog X.w X.xe _ ⟨.bl _,H,I,rfl,?_⟩
   rw [el,anS,beq_self_eq_true,anr] at e
   simpa [e,el] using q
  ·have ne:cg ds es=false:=by rw [e,beq_eq_false_iff_ne.mpr el,amW]
   rw [ne] at q
   exact SeqAt.RcAt.lists_lengths t1.isList t2.isList (by simpa using el) (by omega) X.prog X.w X.xe _ ⟨.bl _,H,I,rfl,q⟩
theorem lK (hu:X.A.units+64 < cLine):iV X (compareOp .NotEq) (tj X.K):=by
 intro pins s σ H x y v u Q I rx ry h
 obtain ⟨ds,es,h,a,hd,q⟩:=h
 rcases h with ⟨h1,h2⟩ | ⟨h1,h2⟩
 ·unfold Is at h1 h2
  obtain ⟨p,xs,rfl,q1,k1⟩:=h1
  obtain ⟨p',ys,rfl,q2,k2⟩:=h2
  cases rx
  cases ry
  obtain ⟨its,v1,t1,_⟩:=I.tuple q1
  obtain ⟨cR,v2,t2,_⟩:=I.tuple q2
  have z:=SeqAt.RcNeAt.tuples (A:=X.A) (e:=gK ds es) t1 t2 (by omega) fun j g1 g2=>
   eZ I ds es xs ys its cR X.A.in1 k1 k2 a v1 v2 (by rw [in1_units];omega) j (by simpa using g1) (by simpa using g2)
  refine z X.prog X.w X.xe _ ⟨.bl _,H,I,rfl,?_⟩
  have e:=cL ds es
  rw [k1.length,k2.length,v1.length,v2.length] at e
  simpa [e] using q
 ·unfold Is at h1 h2
  obtain ⟨p,xs,rfl,q1,k1⟩:=h1
  obtain ⟨p',ys,rfl,q2,k2⟩:=h2
  cases rx
  cases ry
  obtain ⟨its,v1,t1,_⟩:=I.list q1
  obtain ⟨cR,v2,t2,_⟩:=I.list q2
  have e:=cL ds es
  rw [k1.length,k2.length,v1.length,v2.length] at e
  by_cases el:its.length=cR.length
  ·have z:=SeqAt.RcNeAt.lists (A:=X.A) (e:=gK ds es) t1.isList t2.isList (by simpa using el) (by omega) fun j g1 g2=>
    eZ I ds es xs ys its cR X.A.in1 k1 k2 a v1 v2 (by rw [in1_units];omega) j (by simpa using g1) (by simpa using g2)
   refine z X.prog X.w X.xe _ ⟨.bl _,H,I,rfl,?_⟩
   rw [el,anS,beq_self_eq_true,anr] at e
   simpa [e,el] using q
  ·have ne:cg ds es=false:=by rw [e,beq_eq_false_iff_ne.mpr el,amW]
   rw [ne] at q
   exact SeqAt.RcNeAt.lists_lengths t1.isList t2.isList (by simpa using el) (by omega) X.prog X.w X.xe _ ⟨.bl _,H,I,rfl,q⟩
def M4:V→Value
 | .ty n=>.type n
 | .ref a=>.ref a
 | _=>.none
def Lc:V→Bool
 | .ty _=>true
 | .ref _=>true
 | _=>false
theorem w6 {c:V}{u:Value}(h:Lc c=true)(r:RelV c u):u=M4 c:=by
 cases c <;> first | exact r | (cases h;done)
inductive Qi (K:Frag)(xs:List V)(H:Hp)(Q:VK):Prop where
 | mk (x c t b:_) (_:xs=[x,c]) (_:Lc c=true) (_:jL K H x t) (_:PySem.W.kitOne K t (M4 c)=some b) (_:Q (.bl b) H):Qi K xs H Q
theorem e_:eK X (.builtin "isinstance") (Qi X.K):=by
 intro pins s σ H xs us Q I r h
 obtain ⟨x,c,t,b,rfl,hc,ty,e,q⟩:=h
 obtain ⟨u,w,rfl,r1,r2⟩:=vals2 r
 obtain rfl:=w6 hc r2
 exact yq I r1 ty e fun tk=>⟨.bl b,H,I.tok tk,rfl,q⟩
end
section
variable {K:Frag}
theorem CJ {a b:String}{v:Bool}(h:((Value.type a==Value.type b)=true→v=true)∧((Value.type a==Value.type b)=false→PySem.W.kitMeta b=true∧(fastBuiltinMro a).map (·.contains (Value.type b))=some v)):PySem.W.kitOne K (.type a) (.type b)=some v:=by
 unfold PySem.W.kitOne
 by_cases e:(Value.type a==Value.type b)=true
 ·rw [if_pos e,h.1 e]
 ·rw [if_neg e]
  obtain ⟨h1,h2⟩:=h.2 (by simpa using e)
  unfold PySem.W.kitCls
  dsimp only
  rw [if_pos h1]
  exact h2
end
theorem dD:bootBuiltins "len"=some (.builtin "len"):=by decide+kernel
theorem Ld:bootBuiltins "abs"=some (.builtin "abs"):=by decide+kernel
theorem bP:bootBuiltins "isinstance"=some (.builtin "isinstance"):=by decide+kernel
theorem Qj:bootBuiltins "all"=some (.builtin "all"):=by decide+kernel
theorem w8:bootBuiltins "int"=some (.type "int"):=by decide+kernel
theorem CK:bootBuiltins "bool"=some (.type "bool"):=by decide+kernel
theorem Qk:bootBuiltins "str"=some (.type "str"):=by decide+kernel
theorem iK:bootBuiltins "list"=some (.type "list"):=by decide+kernel
theorem qR:bootBuiltins "tuple"=some (.type "tuple"):=by decide+kernel
theorem CL:bootBuiltins "dict"=some (.type "dict"):=by decide+kernel
theorem ja {X:Cx}{x:Str}{n:String}{pos:Pos}(hg:Gl X x)(hm:X.mg x=none)(hv:bootBuiltins x=some (.type n))(hn:x≠ "__name__":=by decide)(hd:(x==("__debug__":Str))=false:=by decide):PE X (.Name x pos) (tC (.ty n)):=IT (v:=.ty n) hg hm hv rfl hn hd
def M5 (_ j:Int):Prop:=j≠0
theorem nz {i j:Int}(h:j≠0):M5 i j:=h
theorem fm {X:Cx}:iV X (binaryOp .Mod) (rI M5 fun i j=>.int (i.fmod j)):=I_
theorem w_ {a b:V}:eM [.v a,.v b]≤60:=by simp [eM,dep]
end Ty
set_option maxHeartbeats 4000000
namespace TyAtt
open PySem PySem.W PySem.Calls PyProof.Rows
open Builtin.Int (intBits)
theorem yy {ns:List Int}{n:Int}(h:(WData.list (ns.map WData.int)).layable=true)(hn:n∈ns):intBits n≤1048576:=by
 obtain ⟨_,_,hw⟩:=layableW_iff.mp h
 have a:∀(l:List Int),n∈l→intBits n≤WData.weightAll (l.map WData.int):=by
  intro l
  induction l with
  | nil=>intro q;cases q
  | cons y r ih=>
   intro q
   rw [ac_]
   unfold WData.weightAll
   rcases afo.mp q with z | z
   ·subst z
    have:intBits n≤WData.weight (.int n):=by
     unfold WData.weight
     exact aai _
    omega
   ·have:=ih z
    omega
 have b:=a ns hn
 unfold WData.weight at hw
 omega
theorem tq {l:OpenLaw}{n:Nat}{q:Program}{loose:List Str}{XP:(Str→Option Value)→Heap→Prop}{YP:World→Heap→Prop}{d:DefRec}
  (hn:l.most=some n) (XW:d.params.defaults=[])
  (call:∀(w:World) (s₀ s₁:Shared) (mg mb:Str→Option Value) (fa:Addr) (o:Obj) (pm cd doc:Value) (a:Addr) (vs:List Value) (ns:List Int),
   Ground q loose [] XP w s₀ mg mb s₁.heap→YP w s₁.heap→
   s₁.heap.get? fa=some o→o.data=.func (docDef d.name d.params d.body d.scope pm cd doc)→s₁.heap.CodeRec cd d.name→mg d.name=some (.ref fa)→
   s₁.heap.get? a=some {cls:=.type "list",data:=.seq vs.toArray}→IntsAre vs ns→ns.length≤n→(∀i∈ns,intBits i≤1048576)→s₁.gens= #[]→
   codeAny (model l.prog w) callerA (.call (.ref fa) ⟨[.ref a],[]⟩) (fun r s' =>r=.ok (.ret (.bool true))∧OldK s₁.heap s'.heap∧s'.os=s₁.os∧AllBare s'.gens) s₁):
  WalkO q loose XP YP l.row.toRowW d [] (fun f vs=>PySem.call f vs):=by
 intro w s₀ s₁ mg mb G Y fa o pm cd doc dV kV ho hd oz hD Ql hg args vals as Jm hlay hrd XQ hlo
 obtain rfl:dV=.none:=Dflts.none hD XW
 obtain rfl:kV=.none:=Dflts.noKw hD
 obtain ⟨a,vs,ns,rfl,rfl,M6,hints,hlen⟩:=Att.yv hn Jm XQ
 have hb:∀i∈ns,intBits i≤1048576:=fun i hi=>yy (layW_cons hlay).1 hi
 refine enter_call (codeAny_mono (call w s₀ s₁ mg mb fa o pm cd doc a vs ns G Y ho (fd_plain hd) oz Ql M6 hints hlen hb hg) fun r s' hq=> ?_)
 obtain ⟨rfl,h2,h3,h4⟩:=hq
 exact ⟨.inl ⟨.bool true,.bool true,[],rfl,fun _=>rfl,.bool true,Att.yw l _,fun _=>⟨List.Pairwise.nil,fun _ hm=>(nomatch hm)⟩⟩,h2,h3,h4⟩
end TyAtt
namespace Ty
open PySem PySem.Spec PyProof.Rows L2
open Builtin.Int (intBits)
structure Fn (P:Program)(w:World)(K:Frag)(mg:Str→Option Value)(base:Heap)(CX:jF)(k:Nat)(x:Str)(ps:List Str)(sp:Sp):Prop where
 ex:∃(f:Addr) (fd:FuncData),cv P w K mg base CX k f fd ps sp∧Binds K fd ps []∧mg x=some (.ref f)∧keepIn K (.ref f)=true
structure Def (K:Frag)(mg:Str→Option Value)(x:Str)(st:Stmt)(ps:List Str):Prop where
 ex:∃(f:Addr) (dV oc:Value) (od:Option Addr) (kV doc pm:Value) (an:Option Addr) (bC ct:Value) (kL:Array (Option Value)),
  K.lookup f=some ⟨oc,od,.func (fnOf x x (ay st) (aw st) (ag st) dV kV doc pm an bC ct),kL⟩∧codeIn K bC x=true∧keepIn K (.ref f)=true∧
  Binds K (fnOf x x (ay st) (aw st) (ag st) dV kV doc pm an bC ct) ps []∧mg x=some (.ref f)
theorem Def.of {K:Frag}{mg:Str→Option Value}{x:Str}{st:Stmt}{ps:List Str}{f:Addr}{fd:FuncData}(F:mj K x x st f fd)(b:Binds K fd ps [])(m:mg x=some (.ref f)):Def K mg x st ps:=by
 obtain ⟨oc,od,kV,doc,pm,an,bC,ct,kL,rfl,lk,oz⟩:=F.ex
 exact ⟨f,.none,oc,od,kV,doc,pm,an,bC,ct,kL,lk,oz,F.kp,b,m⟩
section
variable {P:Program}{w:World}{K:Frag}{mg:Str→Option Value}{base:Heap}{CX:jF}
theorem Def.ok {x:Str}{st:Stmt}{N ps:List Str}{k:Nat}{sp:Sp}(D:Def K mg x st ps)(S:aD N ps (ag st))(len:∀vs H Q E,sp vs H Q E→vs.length=ps.length)
  (i0:∀(f:Addr) (bC:Value) (A:Around) (outer:List Env) (s:Shared) (H:Hp) (vs:List V) (Q:VK) (E:XK),b8 k (A.deeper (envOfC x (ag st) s.heap.objs.size f bC))→sp vs H Q E→
   ∃t,PSs (kK CX P w K mg base N x (ag st) f bC A outer s H E).wD (aw st) t∧t {nx:=fun _ H' =>Q .cb H',rt:=Q} (start N vs) H):Fn P w K mg base CX (k+1) x ps sp:=by
 obtain ⟨f,dV,oc,od,kV,doc,pm,an,bC,ct,kL,lk,oz,kp,b,m⟩:=D.ex
 refine ⟨f,_,wN lk oz S len fun A outer s H vs Q E hr oB=> ?_,b,m,kp⟩
 obtain ⟨t,h,q⟩:=i0 f bC A outer s H vs Q E hr oB
 exact ⟨t,h.wD,q⟩
theorem _root_.L2.mj.okG {x:Str}{st:Stmt}{f:Addr}{fd:FuncData}{N ps:List Str}{k:Nat}{sp:Sp}(F:mj K x x st f fd)(S:aD N ps (ag st))(len:∀vs H Q E,sp vs H Q E→vs.length=ps.length)
  (i0:∀(bC:Value) (A:Around) (outer:List Env) (s:Shared) (H:Hp) (vs:List V) (Q:VK) (E:XK),b8 k (A.deeper (envOfC x (ag st) s.heap.objs.size f bC))→sp vs H Q E→
   ∃t,PSs (kK CX P w K mg base N x (ag st) f bC A outer s H E).wD (aw st) t∧t {nx:=fun _ H' =>Q .cb H',rt:=Q} (start N vs) H):cv P w K mg base CX (k+1) f fd ps sp:=by
 obtain ⟨oc,od,kV,doc,pm,an,bC,ct,kL,rfl,lk,oz⟩:=F.ex
 refine wN lk oz S len fun A outer s H vs Q E hr oB=> ?_
 obtain ⟨t,h,q⟩:=i0 bC A outer s H vs Q E hr oB
 exact ⟨t,h.wD,q⟩
def tu (CX:jF):Prop:=∀outer H s e s',CX outer H s E0 e s' →False
theorem tw {X:Cx}(h:tu CX):Passes CX X.wD E0:=fun _ _ _ _ _ _ _ q=>(h _ _ _ _ _ q).elim
section
variable {X:Cx}{k:Nat}{ps:List Str}{sp:Sp}{E:XK}{x:Str}{p pos:Pos}{e:Expr}{es:List Expr}{t:TA}
theorem aC (F:Fn X.prog X.w X.K X.mg X.base CX k x ps sp)(hr:b8 k X.A)(hx:Passes CX X E)(ha:PA X (e::es) t)(hg:Gl X x:=by rfl)(yr:(x==("__debug__":Str))=false:=by decide)
  (he:starEach (e::es) X.env=(false,eval e X.env)::starEach es X.env:=by rfl) (wL:(backTo pos (starEach es X.env)).any (·.1)=false:=by rfl):PE X (.Call (.Name x p) (e::es) [] pos) (K8 sp [] E t):=by
 obtain ⟨f,fd,G,b,m,kp⟩:=F.ex
 exact Je G hr hg m kp b .nil hx ha yr he wL
end
end
def CM (K:Frag):Sp:=fun vs H Q _=>∃(a:Addr) (ns:List Int),vs=[.ref a]∧ba K H a (ns.map V.int)∧ns.length≤63∧(∀i∈ns,intBits i≤1048576)∧∀H',Q (.bl true) H'
theorem walk {l:PySem.W.OpenLaw}{q:Program}{loose:List Str}{XP:(Str→Option Value)→Heap→Prop}{YP:World→Heap→Prop}{d:DefRec}{K:Params→Frag}{CX:World→jF}{x:Str}{k:Nat}
  (hn:l.most=some 63) (XW:d.params.defaults=[]) (hi:importsNone q=true) (hr:b8 k callerA)
  (hY:∀(w:World) (h:Heap),YP w h→(K w.params).In h) (hm:∀w,tu (CX w))
  (F:∀(w:World) (mg:Str→Option Value) (fa:Addr) (h:Heap),(K w.params).In h→h.Ns mainGlobals mg→mg d.name=some (.ref fa)→
   ∃fd:FuncData,(∀(s:Shared) (u:Value),BindsTo s fd ⟨[u],[]⟩ [(x,u)])∧
    ∀base:Heap,(K w.params).In base→base.Ns mainGlobals mg→cv l.prog w (K w.params) mg base (CX w) k fa fd [x] (CM (K w.params))):
  PySem.W.WalkO q loose XP YP l.row.toRowW d [] (fun f vs=>PySem.call f vs):=by
 refine TyAtt.tq hn XW fun w s₀ s₁ mg mb fa o pm cd doc a vs ns G Y ho hd oz Ql M6 hints hlen hb hg=> ?_
 have KX:=hY w _ Y
 obtain ⟨fd,hbd,hF⟩:=F w mg fa _ KX G.T.g Ql
 exact CG KX G.T.g G.T.b G.T.builtins G.T.nolimit (G.T.seer hi) hg M6 hints (aaj hlen (by decide)) hr hF hbd (fun H hO hS=>⟨a,ns,rfl,hS,hlen,hb,fun _=>rfl⟩) fun H e s' =>hm w [] H s₁ e s'
end Ty
set_option maxHeartbeats 4000000
namespace Ty
open PySem PySem.Spec PyProof.Rows
end Ty
set_option maxHeartbeats 4000000
namespace Ty
open PySem PySem.Spec PyProof.Rows L2
def DictAt (h:Heap)(a:Addr)(dx:Option Addr):Prop:=∃o,h.get? a=some o∧o.dict=dx
def a8 (P:Program)(w:World):jF:=fun outer H s E e s' =>∃(a:Addr) (cls a0:Value) (dx:Option Addr) (H' :Hp) (B:Heap),
 e=.ref a∧Heap.FlyingW B outer a cls a0 s'.heap∧DictAt s'.heap a dx∧Un (u4 outer) [] H H' s.heap s'.heap∧h8 P w H' s'.heap∧s'.os=s.os∧AllBare s'.gens∧
 (∀b o,s.heap.get? b=some o→b∉u4 outer→∃o',B.get? b=some o')∧(∀b u,H' b=some u→∃o,B.get? b=some o)∧E cls dx H'
theorem a8.qS {P:Program}{w:World}:tu (a8 P w):=fun _ _ _ _ _ ⟨_,_,_,_,_,_,_,_,_,_,_,_,_,_,_,z⟩=>z
section
variable {P:Program}{w:World}{K:Frag}{mg:Str→Option Value}{base:Heap}{N:List Str}{qual:Str}{scope:Scope}{f:Addr}{bC:Value}{A:Around}{outer:List Env}{s0:Shared}{H0:Hp}{E:XK}
abbrev cxr (P:Program)(w:World)(K:Frag)(mg:Str→Option Value)(base:Heap)(N:List Str)(qual:Str)(scope:Scope)(f:Addr)(bC:Value)(A:Around)(outer:List Env)(s0:Shared)(H0:Hp)(E:XK):Cx:=kK (a8 P w) P w K mg base N qual scope f bC A outer s0 H0 E
end
end Ty
set_option maxHeartbeats 4000000
namespace Ty
open PySem PySem.Spec PyProof.Rows L2
section
variable {X:Cx}{pins:List (Addr×Obj)}{σ:L2.St}{H H' :Hp}{s:Shared}
def XP (X:Cx)(pins:List (Addr×Obj))(σ:L2.St)(E:XK)(e:Value)(s' :Shared):Prop:=∃H s,Inv X pins σ H s∧a8 X.prog X.w X.stack H s E e s'
end
end Ty
set_option maxHeartbeats 4000000
namespace TyExc
open PySem PySem.W PySem.Calls PyProof.Rows Builtin Builtin.ObjectAttr Builtin.Getset_descriptor
section
variable {prog:Program}{w:World}{A:Around}{E:Value→Shared→Prop}{K:Frag}{h:Heap}{g:Array GenState}{d:Drawn}{t:Nat}{os:OsState}{a C:Addr}{o:Obj}
end
end TyExc
set_option maxHeartbeats 4000000
namespace Ty
open PySem PySem.Spec PyProof.Rows L2
section
variable {X:Cx}
end
end Ty
set_option maxHeartbeats 4000000
namespace TyExc
open PySem PySem.W PySem.Calls PyProof.Rows Builtin Builtin.ObjectAttr Builtin.Getset_descriptor
section
variable {prog:Program}{w:World}{A:Around}{E:Value→Shared→Prop}{K:Frag}{h:Heap}{g:Array GenState}{d:Drawn}{t:Nat}{os:OsState}{a C:Addr}{o:Obj}{od:Option Obj}{name:Str}{v:Value}
end
end TyExc
set_option maxHeartbeats 4000000
namespace TyExc
open PySem PySem.W PySem.Calls PyProof.Rows Builtin Builtin.ObjectAttr
section
variable {prog:Program}{w:World}{A:Around}{E:Value→Shared→Prop}{K:Frag}{s:Shared}{x C:Addr}{ox:Obj}{od:Option Obj}{name:Str}{v:Value}{cd:ClassData}
end
end TyExc
set_option maxHeartbeats 400000
namespace TyExc
open PySem PySem.W PySem.Calls PyProof.Rows Builtin
section
variable {prog:Program}{w:World}{A:Around}{K:Frag}{h:Heap}{g:Array GenState}{d:Drawn}{t:Nat}{os:OsState}{e C:Addr}{oe:Obj}{vs:Array Value}{args:List Value}{E:Value→Shared→Prop}
end
end TyExc
set_option maxHeartbeats 400000
namespace TyExc
open PySem PySem.W PySem.Calls PyProof.Rows Builtin
section
variable {prog:Program}{w:World}{A:Around}{K:Frag}{h:Heap}{g:Array GenState}{d:Drawn}{t:Nat}{os:OsState}{nm q:Str}{C N f:Addr}{bs bm bmB:List Value}{XX:Bool}{sn:List Str}{sub:List Value}{ab:Bool}{col:Option Bool}{dd:Option Addr}{k0 k1 k2 k3 k5:Option Value}{B newId XY:String}{rest:List Value}{E:Value→Shared→Prop}
end
end TyExc
set_option maxHeartbeats 400000
namespace TyExc
open PySem PySem.W PySem.Calls PyProof.Rows Builtin
section
variable {M:Model}{A:Around}{E:Value→Shared→Prop}{env:Env}{nm q:Str}{C N:Addr}{bs bm:List Value}{XX:Bool}{sn:List Str}{sub:List Value}{ab:Bool}{col:Option Bool}{dd:Option Addr}{k0 k1 k2 k3 k5:Option Value}{newId:String}{s:Shared}{x:Sem Value}{Q:Flow→Shared→Prop}
end
end TyExc
set_option maxHeartbeats 400000
namespace TyExc
open PySem PySem.W
end TyExc
namespace Ty
open PySem PySem.Spec PyProof.Rows L2
section
variable {P:Program}{w:World}{H:Hp}{h:Heap}{C a:Addr}{dx:Option Addr}
end
section
variable {X:Cx}
end
end Ty
set_option maxHeartbeats 1000000
namespace Ty
open PySem PySem.Spec PyProof.Rows L2
section
variable {P:Program}{w:World}{K:Frag}{mg:Str→Option Value}{base:Heap}{N:List Str}{qual:Str}{scope:Scope}{f:Addr}{bC:Value}{A:Around}{outer:List Env}{s0:Shared}{H0:Hp}{E:XK}
end
end Ty
set_option maxHeartbeats 4000000
namespace Ty
open PySem PySem.Spec PyProof.Rows L2
section
variable {prog:Program}{w:World}{A:Around}{R:Result→Shared→Prop}{s:Shared}
theorem jb {elt target iter:Expr}{ifs:List Expr}{scope:Scope}{pos:Pos}{it acc:Value}{env:Env}(I:Nat→Shared→Prop)
  (turn:∀n s,I n s→wpAny (model prog w) A (pyNext it) (fun r s₁=>match r with
   | none=>R (.ok .next) s₁
   | some v=>wpAny (model prog w) A (letOwnedTupleGo target it v) (fun _ s₁' =>wpAny (model prog w) A (assign target env v) (fun _ s₂=>
     wpAny (model prog w) A (forIn ifs true fun c r=>if r=true then do let ok ← isTrue c env (eval c env);pure (ForInStep.yield ok) else pure (ForInStep.yield r)) (fun ok s₃=>
      if ok=true then wpAny (model prog w) A (eval elt env) (fun x s₄=>
       wpAny (model prog w) A (call (.builtin "list.append") [acc,x]) (fun _ s₅=>∃m,m < n∧I m s₅) (fun _ _=>False) s₄) (fun _ _=>False) s₃
      else ∃m,m < n∧I m s₃) (fun _ _=>False) s₂) (fun _ _=>False) s₁') (fun _ _=>False) s₁) (fun _ _=>False) s)
  (n:Nat) (h:I n s):
  codeAny (model prog w) A (.compLoop (.ListComp elt [⟨target,iter,ifs,0⟩] scope pos) 0 it acc env) R s:=by
 refine codeAny_loop rfl I (fun n s hI=> ?_) n h
 show wpAny _ A ((compTurn (.ListComp elt [⟨target,iter,ifs,0⟩] scope pos) 0 it acc env).onRaise (fun x=>do noteFrame x env;theTreesLotGoes x)) _ _ s
 refine wpAny_noted ?_
 rw [compTurn_list]
 refine wpAny_bind (wpAny_standAt (wpAny_bind (wpAny_mono (turn n s hI) (fun r s₁ h₁=> ?_) fun _ _ h' =>h'.elim)))
 cases r with
 | none=>exact wpAny_pure h₁
 | some v=>
  refine wpAny_bind (wpAny_mono h₁ (fun _ s₁' h₁' => ?_) fun _ _ h' =>h'.elim)
  refine wpAny_bind (wpAny_mono h₁' (fun _ s₂ h₂=>wpAny_bind (wpAny_mono h₂ (fun ok s₃ h₃=> ?_) fun _ _ h' =>h'.elim)) fun _ _ h' =>h'.elim)
  cases ok with
  | false=>exact wpAny_pure ⟨rfl,h₃⟩
  | true=>
   exact wpAny_bind (wpAny_bind (wpAny_mono h₃ (fun x s₄ h₄=>wpAny_bind (wpAny_mono h₄ (fun _ s₅ h₅=>wpAny_pure (wpAny_pure ⟨rfl,h₅⟩)) fun _ _ h' =>h'.elim)) fun _ _ h' =>h'.elim))
end
def bj (env:Env)(fr:List Str):List (Str×Addr):=fr.filterMap fun n=>(env.cells.lookup n).map fun c=>(n,c)
theorem lookup_mem {α:Type}{x:Str}{c:α}:∀{l:List (Str×α)},l.lookup x=some c→(x,c)∈l
 | [],h=>by simp at h
 | (y,d)::r,h=>by
  rw [am3] at h
  cases e:x==y with
  | true=>
   rw [e] at h
   have e1:x=y:=by simpa using e
   cases h
   rw [e1]
   exact ae'
  | false=>
   rw [e] at h
   exact aa_ _ (lookup_mem h)
theorem yz {env:Env}{fr:List Str}{x:Str}{c:Addr}(h:(x,c)∈bj env fr):env.cells.lookup x=some c:=by
 obtain ⟨n,_,e⟩:=anf.mp h
 cases q:env.cells.lookup n with
 | none=>rw [q] at e;cases e
 | some d=>
  rw [q] at e
  have e' :(n,d)=(x,c):=aff e
  cases e'
  exact q
theorem bX {env:Env}{fr:List Str}{x:Str}{c:Addr}(h:(bj env fr).lookup x=some c):env.cells.lookup x=some c:=yz (lookup_mem h)
theorem fM {env:Env}{x:Str}{c:Addr}(q:env.cells.lookup x=some c):∀{fr:List Str},x∈fr→(bj env fr).lookup x=some c
 | [],h=>nomatch h
 | y::r,h=>by
  unfold bj
  rw [agD]
  by_cases e:x=y
  ·subst e
   rw [q]
   simp
  ·have hr:x∈r:=by
    rcases afo.mp h with z | z
    ·exact absurd z e
    ·exact z
   have ih:=fM q hr
   cases z:env.cells.lookup y with
   | none=>exact ih
   | some d=>
    show af' x ((y,d)::_)=_
    rw [am3]
    have ne:(x==y)=false:=by simpa using e
    rw [ne]
    exact ih
def gL (env:Env):List Str→Prop
 | []=>True
 | y::r=>(env.kindOf y=some .cell∨env.kindOf y=some .free)∧gL env r
theorem gL.at {env:Env}{x:Str}:∀{fr:List Str},gL env fr→x∈fr→env.kindOf x=some .cell∨env.kindOf x=some .free
 | [],_,h=>nomatch h
 | y::r,a,h=>by
  rcases afo.mp h with z | z
  ·rw [z]
   exact a.1
  ·exact gL.at a.2 z
section
variable {X:Cx}
def tD (X:Cx)(NB:List Str)(scope:Scope)(cl:List (Str×Addr))(C:Addr)(s:Shared)(H:Hp)(fp:List Addr):Cx:=
 {prog:=X.prog,w:=X.w,K:=X.K,mg:=X.mg,base:=X.base,A:=X.A,N:=NB,s₀:=s,H₀:=H,env:=compEnvC scope cl C X.env,outer:=X.stack,stack:=X.stack,ex:=fp,fn:=fun _=>false,calm:=X.calm,pn:=[],xe:=fun _ _=>False}
structure M7 (X:Cx)(scope:Scope)(fr:List Str)(caps:List Nat):Prop where
 Jp:closureFor scope X.env=pure (bj X.env fr)
 cell:∀y∈scope.names,y.2≠.cell
 kind:scope.kind=.function
 names:∀y∈scope.names,y.2=.local→scope.names.lookup y.1=some .local
 free:∀y∈scope.names,y.2=.free→y.1∈fr
 caps:caps.map (fun i=>X.N[i]?)=fr.map some
 out:gL X.env fr
 XZ:gL (compEnvC scope [] 0 X.env) fr
def PF (X:Cx)(ifs:List Expr)(t:TT):Prop:=
 ∀(pins:List (Addr×Obj)) (s:Shared) (σ:L2.St) (H:Hp) (Q:Bool→Hp→Prop),Inv X pins σ H s→t σ H Q→
  wpAny (model X.prog X.w) X.A (forIn ifs true fun c r=>if r=true then do let ok ← isTrue c X.env (eval c X.env);pure (ForInStep.yield ok) else pure (ForInStep.yield r)) (TP X pins σ Q) X.xe s
def jO:TT:=fun _ H Q=>Q true H
theorem fb:PF X [] jO:=fun _ _ _ H _ I h=>wpAny_tests_nil ⟨H,I,h⟩
theorem CN {c:Expr}{t:TT}(h:PT X c t):PF X [c] t:=fun pins s σ H Q I q=>wpAny_tests_one (h pins s σ H Q I q)
def sB (k:Nat)(caps:List Nat)(σ:L2.St):L2.St:=afh k none++caps.map fun i=>(σ[i]?).getD none
def jd (D:Addr)(g:TG)(tt:TT)(te:TE)(J:It)(σ0:L2.St)(H1:Hp)(Q:VK):Prop:=∃W:Nat→Nat→L2.St→List V→Hp→Prop,
 (∃m,W 0 m σ0 [] (upd H1 D (.lst [])))∧∀i m σ2 ys H2,W i m σ2 ys H2→(J.stop i H2∧Q (.ref D) H2)∨(J.go i H2∧∀x H3,J.AX i H2 x H3→g x σ2 H3 fun σ4 H4=>tt σ4 H4 fun b H5=>
  if b=true then te σ4 H5 fun v H6=>H6 D=some (.lst ys)∧ys.length < sizeLine∧∃m',m' < m∧W (i+1) m' σ4 (ys++[v]) (upd H6 D (.lst (ys++[v]))) else ∃m',m' < m∧W (i+1) m' σ4 ys H5)
def CO (k:Nat)(caps:List Nat)(wi:TI)(g:TG)(tt:TT)(te:TE):TE:=fun σ H Q=>wi σ H fun J H1=>∀D,H1 D=none→jd D g tt te J (sB k caps σ) H1 Q
theorem CP {k:Nat}{caps:List Nat}{σ:L2.St}{i:Nat}{v:V}(h:(sB k caps σ)[i]? =some (some v)):k≤i∧∃j,caps[i - k]? =some j∧σ[j]? =some (some v):=by
 unfold sB at h
 by_cases c:i < k
 ·rw [afd (by simpa using c),agi,if_pos c] at h
  cases h
 ·rw [afm (by simpa using ans c),am2,Wp] at h
  refine ⟨ans c,?_⟩
  cases e:caps[i - k]? with
  | none=>rw [e] at h;cases h
  | some j=>
   rw [e] at h
   refine ⟨j,rfl,?_⟩
   have h' :(σ[j]?).getD none=some v:=aff h
   cases z:σ[j]? with
   | none=>rw [z] at h';cases h'
   | some o=>
    rw [z] at h'
    exact congrArg some h'
theorem mE {elt target iter:Expr}{ifs:List Expr}{scope:Scope}{pos:Pos}{tn fr:List Str}{caps:List Nat}{g:TG}{tt:TT}{te:TE}{pins:List (Addr×Obj)}{σ:L2.St}{H2:Hp}{s2:Shared}{J:It}{fp:List Addr}{it:Addr}
  {uZ:Nat→Heap→Prop} {Q:VK} {RR:Value→Addr→Result→Shared→Prop} {E:Value→Shared→Prop} (hc:X.calm=true) (B:M7 X scope fr caps)
  (hg:∀C s H fp,PG (tD X (tn++fr) scope (bj X.env fr) C s H fp) target g) (ht:∀C s H fp,PF (tD X (tn++fr) scope (bj X.env fr) C s H fp) ifs tt) (he:∀C s H fp,PE (tD X (tn++fr) scope (bj X.env fr) C s H fp) elt te)
  (I2:Inv X pins σ H2 s2) (T:Turn X.prog X.w X.K target J fp it uZ) (h_:uZ 0 s2.heap) (f2:∀b∈fp,f_ X pins H2 b) (q:∀D,H2 D=none→jd D g tt te J (sB tn.length caps σ) H2 Q)
  (fin:∀D C H' s' m,Inv X pins σ H' s' →s'.heap.Ns C m→f_ X pins H' C→Q (.ref D) H' →RR (.ref D) C (.ok .next) s'):
  wpAny (model X.prog X.w) X.A (newList []) (fun acc s₃=>wpAny (model X.prog X.w) X.A (newFunctionEnv scope X.env.globals (bj X.env fr) [] X.env.qual none .none (some X.env)) (fun CQ s₄=>
   codeAny (model X.prog X.w) X.A (.compStart (.ListComp elt [⟨target,iter,ifs,0⟩] scope pos) 0 (.ref it) acc {CQ with scope:=relabel scope X.env}) (RR acc CQ.locals) s₄) E s₃) E s2:=by
 refine wpAny_newObj_type (wpAny_newFunctionEnv B.cell (by intro y hy;simp at hy) (fun h₁ M8 X0=> ?_) B.kind)
 have I3:Inv X pins σ (upd H2 s2.heap.objs.size (.lst [])) {s2 with heap:=s2.heap.push {cls:=.type "list",data:=.seq ([]:List Value).toArray}}:=I2.Jl (t' :=s2.toks) (its:=[]) .nil (aft _)
 obtain ⟨W,⟨m0,w0⟩,turn⟩:=q s2.heap.objs.size (I2.bt.fresh (aai _))
 generalize X1:upd H2 s2.heap.objs.size (.lst [])=H3 at I3 w0
 have f3:∀b∈fp,f_ X pins H3 b:=fun b hb=>by
  obtain ⟨a0,a1⟩:=f2 b hb
  refine ⟨?_,a1⟩
  obtain ⟨o,e,_⟩:=T.obj _ _ h_ b hb
  rw [← X1,ao (afn (Heap.lt_size e))]
  exact a0
 generalize hD:s2.heap.objs.size=D at*
 generalize X2:({s2 with heap:=s2.heap.push {cls:=.type "list",data:=.seq ([]:List Value).toArray}}:Shared)=s3 at*
 have e3:s3.heap=s2.heap.push {cls:=.type "list",data:=.seq ([]:List Value).toArray}:=by rw [← X2]
 have sN:uZ 0 s3.heap:=T.keep _ _ _ h_ fun b _ o e=>by rw [e3];exact Heap.get?_push_of_some _ e
 have kept:∀b o,s3.heap.get? b=some o→h₁.get? b=some o:=fun b o e=>(X0.2 b (afn (Heap.lt_size e))).trans (Heap.get?_push_of_some _ e)
 generalize hC:s3.heap.objs.size=C at*
 have CS:s3.heap.objs.size≤C:=anu hC
 have I4:Inv X pins σ H3 {s3 with heap:=h₁,toks:=s3.toks+([]:List (Str×Value)).length}:=I3.kept kept
 have Qm:∀b∈fp,b≠C:=fun b hb z=>by
  obtain ⟨o,e,_⟩:=T.obj _ _ sN b hb
  exact absurd z (afn (afc (Heap.lt_size e) CS))
 have Qn:∀b∈fp,b∉u4 X.stack:=fun b hb z=>(afo.mp (I3.qB b z)).elim (f3 b hb).2.1 (f3 b hb).2.2.1
 have X3:(tD X (tn++fr) scope (bj X.env fr) C s3 H3 fp).Ok:=by
  refine ⟨I3.ok.mod,B.kind,I3.ok.glob,I3.ok.blt,CS,fun x y c e1 e2=>I3.ok.inj x y c (bX e1) (bX e2),fun x hx=> ?_,fun x c z=>(nomatch z),I3.ok.hd,I3.ok.frames,.inl rfl,
   fun b hb=>⟨Qm b hb,fun x c e=>(f3 b hb).2.2.2.2.1 x c (bX e)⟩,I3.bs,aaj I3.ok.BI I3.sz,fun b o e hb=> ?_,Qn,I3.stack,I3.qC⟩
  ·have hm:∃k,(x,k)∈scope.names∧k≠.local∧(k=.cell∨k=.free):=by
    have:∃k',(relabel scope X.env).names.lookup x=some k' ∧(k' =.cell∨k' =.free):=by
     rcases hx with z | z
     ·exact ⟨_,z,.inl rfl⟩
     ·exact ⟨_,z,.inr rfl⟩
    obtain ⟨k',e',h'⟩:=this
    obtain ⟨⟨n,k⟩,hn,en⟩:=aah.mp (lookup_mem e')
    dsimp only at en
    by_cases cc:(k==NameKind.free && X.env.scope.kind==.function && X.env.kindOf n==some .cell)=true
    ·rw [if_pos cc] at en
     cases en
     have kf:k=.free:=by
      rw [afB,afB] at cc
      simpa using cc.1.1
     exact ⟨k,hn,(by intro z;rw [kf] at z;cases z),.inr kf⟩
    ·rw [if_neg cc] at en
     cases en
     exact ⟨k',hn,fun z' =>by rcases h' with y | y <;> (rw [y] at z';cases z'),h'⟩
   obtain ⟨k,hk,_,h2⟩:=hm
   rcases h2 with z | z
   ·exact absurd z (B.cell _ hk)
   ·have hf:=B.free _ hk z
    obtain ⟨c,ec⟩:=I3.ok.has x (B.out.at hf)
    exact ⟨c,fM ec hf⟩
  ·obtain ⟨_,_,_,h1,_⟩:=f3 b hb
   rcases h1 with z | z
   ·exact I3.ok.yh b o e z
   ·exact afQ _ (afc (afc (Heap.lt_size e) I3.ok.BI) z)
 have IB:Inv (tD X (tn++fr) scope (bj X.env fr) C s3 H3 fp) [] (sB tn.length caps σ) H3 {s3 with heap:=h₁,toks:=s3.toks+([]:List (Str×Value)).length}:=by
  refine ⟨X3,rfl,I3.bare,Un.kept kept,⟨_,M8,fun i x v e1 e2 _=> ?_⟩,fun x c e=>I4.cell x c (bX e),?_,fun x c e=>I3.fG x c (bX e),fun p hp=>(nomatch hp),I3.bt.kept kept,?_⟩
  ·obtain ⟨hk,j,ej,es⟩:=CP e2
   have xa :fr[i - tn.length]? =some x:=by
    have z:(tn++fr)[i]? =some x:=e1
    rw [afm hk] at z
    exact z
   have hx:x∈fr:=ir xa
   have eN:X.N[j]? =some x:=by
    have z:=congrArg (fun l:List (Option Str)=>l[i - tn.length]?) B.caps
    simp only [Wp,ej,xa,af8] at z
    exact aff z
   have ko:=B.out.at hx
   obtain ⟨m,hn,hl⟩:=I4.loc
   obtain ⟨u,r,lk⟩:=hl j x v eN es (by rcases ko with z | z;exact .inr (.inl z);exact .inr (.inr z))
   refine ⟨u,r,?_⟩
   rcases lk with ⟨k1,_⟩ | ⟨_,c,ec,ic⟩
   ·rcases ko with z | z <;> (rw [z] at k1;cases k1)
   ·exact .inr ⟨B.XZ.at hx,c,fM ec hx,ic⟩
  ·exact I3.bt.fresh CS
  ·have:=congrArg afH B.caps
   simp only [aaa] at this
   show (sB tn.length caps σ).length=(tn++fr).length
   unfold sB
   simp [this]
 have mF:∀{H' :Hp},(∀b∈fp,H' b=none)→∀b∈fp,f_ (tD X (tn++fr) scope (bj X.env fr) C s3 H3 fp) [] H' b:=fun hn b hb=>
  ⟨hn b hb,Qm b hb,Qn b hb,.inl hb,fun x c e=>(f3 b hb).2.2.2.2.1 x c (bX e),fun p hp=>(nomatch hp)⟩
 have Jq:uZ 0 h₁:=T.keep _ _ _ sN fun b _ o e=>kept b o e
 have loop:codeAny (model X.prog X.w) X.A (.compLoop (.ListComp elt [⟨target,iter,ifs,0⟩] scope pos) 0 (.ref it) (.ref D) (compEnvC scope (bj X.env fr) C X.env)) (RR (.ref D) C) {s3 with heap:=h₁,toks:=s3.toks+([]:List (Str×Value)).length}:=by
  refine jb (fun n s' =>∃i σ' ys H',Inv (tD X (tn++fr) scope (bj X.env fr) C s3 H3 fp) [] σ' H' s' ∧uZ i s'.heap∧(∀b∈fp,H' b=none)∧W i n σ' ys H') ?_ m0 ⟨0,_,[],H3,IB,Jq,fun b hb=>(f3 b hb).1,w0⟩
  rintro n s5 ⟨i,σ5,ys,H5,I5,IY,MG,w5⟩
  rcases turn i n σ5 ys H5 w5 with ⟨stop,qn⟩ | ⟨go,step⟩
  ·refine wpAny_mono (T.done (tD X (tn++fr) scope (bj X.env fr) C s3 H3 fp) rfl rfl rfl hc i [] s5 σ5 H5 (fun _ _=>False) I5 (mF MG) IY stop) (fun r s6 ⟨hr,I6⟩=> ?_) fun _ _ z=>z
   subst hr
   obtain ⟨m,hn,_⟩:=I6.loc
   have J6:Inv X pins σ H5 s6:=I3.KS (ch:=fp) I6.os I6.base I6.bt I6.bare fun b hb=>⟨(f3 b hb).2.2.2.1,(f3 b hb).2.1,(f3 b hb).2.2.2.2.1,(f3 b hb).2.2.2.2.2⟩
   exact fin D C H5 s6 m J6 hn (I3.jI CS I6.free) qn
  ·refine wpAny_mono (T.item (tD X (tn++fr) scope (bj X.env fr) C s3 H3 fp) rfl rfl rfl hc i [] s5 σ5 H5 (fun _ _=>False) I5 (mF MG) IY go) (fun r s6 ⟨u,hr,h6⟩=> ?_) fun _ _ z=>z
   subst hr
   refine wpAny_mono h6 (fun _ s7 ⟨x,H7,I7,r7,y7,M9,Jr⟩=> ?_) fun _ _ z=>z
   have X4 :=I7.pinned (mF Jr) (T.obj _ _ M9)
   have held:∀{σ' :L2.St} {H' :Hp} {s' :Shared},Inv (tD X (tn++fr) scope (bj X.env fr) C s3 H3 fp) ([]++jJ fp s7.heap) σ' H' s' →uZ (i+1) s'.heap∧∀b∈fp,H' b=none:=fun {σ' H' s'} I' =>by
    refine ⟨T.keep _ _ _ M9 fun b hb o e=>(I'.pin (b,o) (afl _ (afl _ (dQ hb e)))).1,fun b hb=> ?_⟩
    obtain ⟨o,e,d⟩:=T.obj _ _ M9 b hb
    exact (I'.pin (b,o) (afl _ (afl _ (dQ hb e)))).2.1
   refine wpAny_mono (hg C s3 H3 fp _ s7 σ5 H7 x u _ X4 r7 (step x H7 y7)) (fun _ s8 ⟨σ8,H8,I8,q8⟩=> ?_) fun _ _ z=>z
   refine wpAny_mono (ht C s3 H3 fp _ s8 σ8 H8 _ I8 q8) (fun ok s9 ⟨H9,I9,q9⟩=> ?_) fun _ _ z=>z
   cases ok with
   | false=>
    rw [if_neg ad_] at q9
    obtain ⟨m',hm,w9⟩:=q9
    rw [if_neg ad_]
    obtain ⟨a,b⟩:=held I9
    exact ⟨m',hm,i+1,σ8,ys,H9,I9.eW,a,b,w9⟩
   | true=>
    rw [if_pos rfl] at q9
    rw [if_pos rfl]
    refine wpAny_mono (he C s3 H3 fp _ s9 σ8 H9 _ I9 q9) (fun v OY ⟨y,Wv,X5,X6,X7,hl,m',hm,X8⟩=> ?_) fun _ _ z=>z
    refine wpAny_mono (dz (X:=tD X (tn++fr) scope (bj X.env fr) C s3 H3 fp) _ OY σ8 Wv (.ref D) [y] (.ref D) [v] (fun _ H' =>W (i+1) m' σ8 (ys++[y]) H') X5 rfl (.cons X6 .nil) ⟨D,ys,y,rfl,rfl,X7,hl,X8⟩) (fun _ X9 ⟨z,Ww,Qo,_,X_⟩=> ?_) fun _ _ z=>z
    obtain ⟨a,b⟩:=held Qo
    exact ⟨m',hm,i+1,σ8,ys++[y],Ww,Qo.eW,a,b,X_⟩
 exact codeAny_compStart_list loop (T.self X.A 0 _ _ _ Jq loop)
theorem dX {elt target iter:Expr}{ifs:List Expr}{scope:Scope}{pos:Pos}{tn fr:List Str}{caps:List Nat}{wi:TI}{g:TG}{tt:TT}{te:TE}(hc:X.calm=true)(B:M7 X scope fr caps)(hi:PI X target iter wi)
  (hg:∀C s H fp,PG (tD X (tn++fr) scope (bj X.env fr) C s H fp) target g) (ht:∀C s H fp,PF (tD X (tn++fr) scope (bj X.env fr) C s H fp) ifs tt) (he:∀C s H fp,PE (tD X (tn++fr) scope (bj X.env fr) C s H fp) elt te)
  (hs:∀x,foldedSetIterable iter X.env x=pure x:=by intro _;rfl):PE X (.ListComp elt [⟨target,iter,ifs,0⟩] scope pos) (CO tn.length caps wi g tt te):=by
 intro pins s σ H Q I h
 rw [eval_ListComp]
 refine wpAny_comprehension_free (use:=none) rfl hs B.Jp B.kind B.names (bV (hi pins s σ H _ I h) fun v s1 h1=>bV h1 fun PV s2 h2=> ?_)
 obtain ⟨it,fp,uZ,J,H2,rfl,I2,T,h_,f2,q⟩:=h2
 refine mE (Q:=Q) (RR:=fun acc C=>compPost (model X.prog X.w) X.A X.xe none (EP X pins σ Q) acc C) hc B hg ht he I2 T h_ f2 q ?_
 intro D C H' s' m I' hn fc qq
 obtain ⟨g0,g1,g2,g3,g4,g5⟩:=fc
 exact ⟨m,hn,fun h' xf =>⟨.ref D,H',I'.turned (t' :=s'.toks) (fun b o hb e=>(xf.2 b hb).trans e) g0 g1 g3 g4 g5,rfl,qq⟩⟩
theorem xg {i:Nat}{y:Str}{py:Pos}{CT:Pos}{elt target iter:Expr}{ifs:List Expr}{scope:Scope}{pos:Pos}{tn fr:List Str}{caps:List Nat}{wi:TI}{g:TG}{tt:TT}{te:TE}(hN:X.N.Nodup)(X':X.N[i]? =some y)(hx:Loc X.env.scope y)
  (hc:X.calm=true) (B:M7 X scope fr caps) (hi:PI X target iter wi)
  (hg:∀C s H fp,PG (tD X (tn++fr) scope (bj X.env fr) C s H fp) target g) (ht:∀C s H fp,PF (tD X (tn++fr) scope (bj X.env fr) C s H fp) ifs tt) (he:∀C s H fp,PE (tD X (tn++fr) scope (bj X.env fr) C s H fp) elt te)
  (CU:swapsWith (.ListComp elt [⟨target,iter,ifs,0⟩] scope pos) (some (.Name y py)) CT.line X.env=pure true:=by rfl)
  (hs:∀x,foldedSetIterable iter X.env x=pure x:=by intro _;rfl) (hf:X.fn y=true∨X.env.scope.names.lookup y=some .local:=by first | exact .inl rfl | exact .inr rfl | assumption):
  PS X (.Assign [.Name y py] (.ListComp elt [⟨target,iter,ifs,0⟩] scope pos) CT) (IW (CO tn.length caps wi g tt te) (cD i)):=by
 intro pins s σ H D I h
 rw [exec_Assign_Name_used _ _ _ _ CU]
 refine wpAny_bind (wpAny_standAt (wpAny_bind ?_))
 show wpAny _ X.A (do let _ ← comprehension (.ListComp elt [⟨target,iter,ifs,0⟩] scope pos) scope X.env _ (newList []) false (eval iter X.env) (some (assign (.Name y py) X.env))) _ _ s
 refine wpAny_bind (wpAny_mono (wpAny_comprehension_free (use:=some (assign (.Name y py) X.env)) (Q:=fun _ s' =>SP X pins D .next s') rfl hs B.Jp B.kind B.names
  (bV (hi pins s σ H _ I h) fun v s1 h1=>bV h1 fun PV s2 h2=> ?_)) (fun _ s' hq=>wpAny_pure (wpAny_pure hq)) fun _ _ e=>e)
 obtain ⟨it,fp,uZ,J,H2,rfl,I2,T,h_,f2,q⟩:=h2
 refine mE (Q:=fun v H1=>cD i v σ H1 D.nx) (RR:=fun acc C=>compPost (model X.prog X.w) X.A X.xe (some (assign (.Name y py) X.env)) (fun _ s' =>SP X pins D .next s') acc C) hc B hg ht he I2 T h_ f2 q ?_
 intro DD C H' s' m I' hn fc qq
 obtain ⟨g0,g1,g2,g3,g4,g5⟩:=fc
 show wpAny _ X.A (assign (.Name y py) X.env (.ref DD)) _ _ _
 refine wpAny_assign_Name (jH I' hN X' hx (v:=.ref DD) (u:=.ref DD) rfl (fun MQ Ya ⟨a,sb,ha⟩=> ?_) hf)
 have Yb:C≠a:=by
  rcases ha with z | z
  ·rw [z]
   exact g1
  ·exact fun e=>g4 y a z e.symm
 exact ⟨m,hn.sameBut sb Yb,fun h' xf =>⟨_,H',Ya.turned (t' :=MQ.toks) (fun b o hb e=>(xf.2 b hb).trans e) g0 g1 g3 g4 g5,qq⟩⟩
end
section
variable {D:Addr}{te:TE}{cap:L2.St}{H1:Hp}{Q:VK}
theorem CV {J:It}(n:Nat)(xs:Nat→V)(Pv:Nat→List V→Hp→Prop)(h0:Pv 0 [] (upd H1 D (.lst [])))
  (go:∀i ys H,i < n→Pv i ys H→J.go i H∧∀x H',J.AX i H x H' →H' =H∧x=xs i) (stop:∀ys H,Pv n ys H→J.stop n H)
  (hs:∀i ys H (R:VK),i < n→Pv i ys H→H D=some (.lst ys)→(∀v H6,H6 D=some (.lst ys)→ys.length < sizeLine→Pv (i+1) (ys++[v]) (upd H6 D (.lst (ys++[v])))→R v H6)→te (some (xs i)::cap) H R)
  (hd:∀ys H,Pv n ys H→H D=some (.lst ys)→Q (.ref D) H):jd D (cD 0) jO te J (none::cap) H1 Q:=by
 refine ⟨fun i m σ ys H=>m=n - i∧i≤n∧(∃o,σ=o::cap)∧Pv i ys H∧H D=some (.lst ys),⟨n,by simp,aft _,⟨none,rfl⟩,h0,ak⟩,?_⟩
 rintro i m σ ys H ⟨rfl,hi,⟨o,rfl⟩,p,hD⟩
 by_cases iU:i < n
 ·obtain ⟨g1,g2⟩:=go i ys H iU p
  refine .inr ⟨g1,fun x H' y=> ?_⟩
  obtain ⟨e1,e2⟩:=g2 x H' y
  subst e1 e2
  unfold cD jO
  dsimp only
  rw [if_pos rfl]
  exact hs i ys _ _ iU p hD fun v H6 a b c=>⟨a,b,n - (i+1),by omega,rfl,by omega,⟨_,rfl⟩,c,ak⟩
 ·have e:i=n:=by omega
  subst e
  exact .inl ⟨stop ys H p,hd ys H p hD⟩
end
section
variable {X:Cx}{tg:Expr}
end
end Ty
set_option maxHeartbeats 4000000
namespace Ty
open PySem PySem.Spec PyProof.Rows L2
section
variable {prog:Program}{w:World}{A:Around}{E:Value→Shared→Prop}
end
structure OZ (K:Frag)(C:Addr):Prop where
 makes:PySem.W.makesIn K C=true
 init:PySem.W.findIn K (.ref C) "__init__"=some (some (.builtin "object.__init__"))
 kp:keepIn K (.ref C)=true
def Qp (C:Addr):TE:=fun _ H Q=>∀x dx,H x=none→H dx=none→dx≠x→Q (.ref x) (upd (upd H dx (.own x)) x (.ins C dx []))
section
variable {X:Cx}
theorem Js {pins:List (Addr×Obj)}{σ:L2.St}{H:Hp}{s:Shared}{Q:VK}{C:Addr}(M:OZ X.K C)(I:Inv X pins σ H s)(h:Qp C σ H Q):wpAny (model X.prog X.w) X.A (call (.ref C) []) (EP X pins σ Q) X.xe s:=by
 have hq:=h (s.heap.objs.size+1) s.heap.objs.size (I.bt.fresh (agl _)) (I.bt.fresh (aai _)) (afn (afF _))
 have I2:=Inv.made (C:=C) I
 have Y:=PySem.W.makes_of (M:=model X.prog X.w) I.iH M.makes
 refine wpAny_call (yo I.iH M.makes M.init (fun self=>PySem.W.Looks.of_pure (PySem.W.oi_bind self)) ?_)
 have ho:((s.heap.push PySem.W.emptyDict).push (PySem.W.instObj C s.heap.objs.size)).get? (s.heap.objs.size+1)=some (PySem.W.instObj C s.heap.objs.size):=by
  have:=Heap.get?_push_size (s.heap.push PySem.W.emptyDict) (o:=PySem.W.instObj C s.heap.objs.size) rfl
  rwa [Heap.size_push] at this
 have t1:PySem.W.Looks (model X.prog X.w) ((s.heap.push PySem.W.emptyDict).push (PySem.W.instObj C s.heap.objs.size)) (typeOf (.ref (s.heap.objs.size+1))) (.ref C):=(PySem.W.Looks.ld ho).andThen .now
 have t2:PySem.W.Looks (model X.prog X.w) ((s.heap.push PySem.W.emptyDict).push (PySem.W.instObj C s.heap.objs.size)) (isInstance (.ref (s.heap.objs.size+1)) (.type "object")) true:=
  t1.andThen (Y.top.keeps fun b o e=>Heap.get?_push_of_some _ (Heap.get?_push_of_some _ e))
 refine codeAny_call_builtin PySem.W.oi_plain PySem.W.entry_oi (@PySem.W.check_slot (model X.prog X.w) _ _ _ "object.__init__" "object" "__init__" (.ref (s.heap.objs.size+1)) [] [] _ PySem.W.oi_kind PySem.W.oi_split t2 (PySem.W.oi_args (.ref (s.heap.objs.size+1))) ?_)
 rw [PySem.W.oi_run]
 exact wpAny_pure (And.intro rfl ⟨V.ref (s.heap.objs.size+1),_,I2,rfl,hq⟩)
theorem CW {x:Str}{p pos:Pos}{C:Addr}(M:OZ X.K C)(hg:Gl X x)(hm:X.mg x=some (.ref C))(yr:(x==("__debug__":Str))=false:=by decide):PE X (.Call (.Name x p) [] [] pos) (Qp C):=by
 intro pins s σ H Q I h
 refine wpAny_Call_Name_kw (iY I hg hm ?_ yr)
 exact PySem.W.callWith_K0 I.iH M.kp (Js M I h)
end
structure bI (P:Program)(w:World)(K:Frag)(mg:Str→Option Value)(base:Heap)(CX:jF)(k:Nat)(C:Addr)(m:Str)(ps:List Str)(sp:Sp):Prop where
 ex:∃(f:Addr) (fd:FuncData),sS K C∧Meth K C m f∧cv P w K mg base CX k f fd ps sp∧Binds K fd ps []
theorem bI.mono {P:Program}{w:World}{K:Frag}{mg:Str→Option Value}{base:Heap}{CX:jF}{j k:Nat}{C:Addr}{m:Str}{ps:List Str}{sp:Sp}(M:bI P w K mg base CX j C m ps sp)(h:j≤k):bI P w K mg base CX k C m ps sp:=by
 obtain ⟨f,fd,a,b,c,d⟩:=M.ex
 exact ⟨f,fd,a,b,c.mono h,d⟩
section
variable {X:Cx}{CX:jF}{k:Nat}{E:XK}{m:Str}{pos apos:Pos}{e o:Expr}{es:List Expr}{ta:TE}{t:TA}
inductive Le (P:Program)(w:World)(K:Frag)(mg:Str→Option Value)(base:Heap)(CX:jF)(k:Nat)(m:Str)(E:XK)(t:TA)(σ:L2.St)(Q:VK)(x:V)(H1:Hp):Prop where
 | mk (a C dx fs ps sp:_) (_:x=.ref a) (_:H1 a=some (.ins C dx fs)) (_:fs.lookup m=none) (_:bI P w K mg base CX k C m ps sp) (_:t σ H1 fun vs H2=>sp (x::vs) H2 Q E):Le P w K mg base CX k m E t σ Q x H1
def Qq (P:Program)(w:World)(K:Frag)(mg:Str→Option Value)(base:Heap)(CX:jF)(k:Nat)(m:Str)(E:XK)(ta:TE)(t:TA):TE:=fun σ H Q=>ta σ H fun x H1=>Le P w K mg base CX k m E t σ Q x H1
theorem gY {pl:Sem Bool}(he:PE X o ta)(hr:b8 k X.A)(hx:Passes CX X E)
  (ht:eval (.Call (.Attribute o m apos) [] [] pos) X.env=(do
   let ov ← eval o X.env
   standAt apos.atName
   let (f,first) ← holding [ov] (getMethod ov m pl)
   callWith pos f first (backTo pos (starEach [] X.env)) (backToKw pos (keywordEach [] X.env))):=by rfl):
  PE X (.Call (.Attribute o m apos) [] [] pos) (Qq X.prog X.w X.K X.mg X.base CX k m E ta eI):=by
 intro pins s σ H Q I h
 refine PySem.W.methodCall_KW (pl:=pl) (bV (he pins s σ H _ I h) fun u s1 ⟨x,H1,I1,rx,a,C,dx,fs,ps,sp,ex,ea,l,M,q⟩=> ?_) ht
 subst ex
 obtain rfl:u=Value.ref a:=rx
 obtain ⟨f,fd,c,hm,F,hb⟩:=M.ex
 refine iJ I1 ea c hm l ?_
 exact PySem.W.callWith_K0 (first:=[.ref a]) I1.iH hm.kp (qI (us:=[.ref a]) (vs:=[.ref a]) (dvs:=[]) F hr hb .nil hx I1 (.cons rfl .nil) q)
theorem c8 {pl:Sem Bool}(he:PE X o ta)(hr:b8 k X.A)(hx:Passes CX X E)(ha:PA X (e::es) t)
  (IV:starEach (e::es) X.env=(false,eval e X.env)::starEach es X.env:=by rfl) (wL:(backTo pos (starEach es X.env)).any (·.1)=false:=by rfl)
  (ht:eval (.Call (.Attribute o m apos) (e::es) [] pos) X.env=(do
   let ov ← eval o X.env
   standAt apos.atName
   let (f,first) ← holding [ov] (getMethod ov m pl)
   callWith pos f first (backTo pos (starEach (e::es) X.env)) (backToKw pos (keywordEach [] X.env))):=by rfl):
  PE X (.Call (.Attribute o m apos) (e::es) [] pos) (Qq X.prog X.w X.K X.mg X.base CX k m E ta t):=by
 intro pins s σ H Q I h
 refine PySem.W.methodCall_KW (pl:=pl) (bV (he pins s σ H _ I h) fun u s1 ⟨x,H1,I1,rx,a,C,dx,fs,ps,sp,ex,ea,l,M,q⟩=> ?_) ht
 subst ex
 obtain rfl:u=Value.ref a:=rx
 obtain ⟨f,fd,c,hm,F,hb⟩:=M.ex
 refine iJ I1 ea c hm l ?_
 refine PySem.W.callWith_K (first:=[.ref a]) (h₀:=X.base) I.ok.mod.OU hm.kp (bV (ha pos pins s1 σ H1 _ I1 q) fun us s2 ⟨vs,H2,I2,r,q2⟩=>⟨I2.iH,?_⟩) IV wL
 refine qI (us:=.ref a::us) (vs:=.ref a::vs) (dvs:=[]) F hr hb .nil hx I2 (.cons rfl r) ?_
 rw [ai_]
 exact q2
end
theorem tE {X:Cx}{CX:jF}(h:tu CX)(e:X.xe=fun _ _=>False):Passes CX X E0:=fun _ _ _ _ _ _ _ q=>(h _ _ _ _ _ q).elim
end Ty
set_option maxHeartbeats 4000000
namespace Ty
open PySem PySem.Spec PyProof.Rows L2
section
variable {σ:L2.St}{H:Hp}{Q:VK}{QB:Bool→Hp→Prop}{QA:List V→Hp→Prop}{D:Ends}{t u:TS}{ta tb te:TE}{tc td:TT}{t1:TA}
end
end Ty
set_option maxHeartbeats 4000000
namespace Ty
open PySem PySem.Spec PyProof.Rows L2
section
variable {X:Cx}
inductive Qr (x:V)(lo:Option Int)(hi:Option Int)(H:Hp)(Q:VK):Prop where
 | mk (z:_) (_:x=.str z) (_:z.length≤sizeLine) (_:Q (.str (Txt.slice z lo hi)) H):Qr x lo hi H Q
theorem M_:P_ X Qr:=by
 intro pins s σ H x v vl vu lo hi sl Q I rx hs pl pu h
 obtain ⟨z,rfl,hz,q⟩:=h
 obtain ⟨t,rfl⟩:=rx
 refine ⟨"str",_,F.slot_str_getitem.lookup,typeIs_str _ _ _,?_⟩
 cases pl <;> cases pu
 ·exact wpAny_getItem_str_slice (l:=none) (u:=none) (st:=none) hs rfl (post_val_or_str ⟨aaj (Txt.slice_le z _ _) hz,fun t' k=>⟨.str _,H,I.tok k,⟨t',rfl⟩,q⟩⟩)
 ·rename_i j uj
  exact wpAny_getItem_str_slice (l:=none) (u:=some (j,uj)) (st:=none) hs rfl (post_val_or_str ⟨aaj (Txt.slice_le z _ _) hz,fun t' k=>⟨.str _,H,I.tok k,⟨t',rfl⟩,q⟩⟩)
 ·rename_i i ui
  exact wpAny_getItem_str_slice (l:=some (i,ui)) (u:=none) (st:=none) hs rfl (post_val_or_str ⟨aaj (Txt.slice_le z _ _) hz,fun t' k=>⟨.str _,H,I.tok k,⟨t',rfl⟩,q⟩⟩)
 ·rename_i i ui j uj
  exact wpAny_getItem_str_slice (l:=some (i,ui)) (u:=some (j,uj)) (st:=none) hs rfl (post_val_or_str ⟨aaj (Txt.slice_le z _ _) hz,fun t' k=>⟨.str _,H,I.tok k,⟨t',rfl⟩,q⟩⟩)
inductive Lf (x:V)(y:V)(H:Hp)(Q:VK):Prop where
 | mk (z n:_) (_:x=.str z) (_:y=.int n) (_:MulOk z n) (_:Q (.str (Txt.mul z n)) H):Lf x y H Q
theorem qT:iV X (binaryOp .Mult) Lf:=by
 intro pins s σ H x y v u Q I rx ry h
 obtain ⟨z,n,rfl,rfl,ok,q⟩:=h
 obtain ⟨t,rfl⟩:=rx
 obtain ⟨t',rfl⟩:=ry
 exact SB.mul ok fun t' k=>⟨.str _,H,I.tok k,⟨t',rfl⟩,q⟩
theorem all_range (bs:List Bool):(afz bs.length).all (fun i=>(bs[i]?).getD true)=bs.all id:=by
 induction bs with
 | nil=>rfl
 | cons b r ih=>
  rw [afu,amY,am6,List.all_map,am6, ← ih]
  rfl
inductive Qs (K:Frag)(xs:List V)(H:Hp)(Q:VK):Prop where
 | mk (p:Addr) (bs:List Bool) (_:xs=[.ref p]) (_:ba K H p (bs.map V.bl)) (_:Q (.bl (bs.all id)) H):Qs K xs H Q
theorem yA (hc:X.calm=true):eK X (.builtin "all") (Qs X.K):=by
 intro pins s σ H xs us Q I r h
 obtain ⟨p,bs,rfl,hq,q⟩:=h
 obtain ⟨u,rfl,r1⟩:=vals1 r
 cases r1
 obtain ⟨its,rv,pl,hz⟩:=I.list hq
 refine call_all_walk (wpAny_pyIter_list pl.isList ?_)
 have sE:p≠s.heap.objs.size:=by obtain ⟨o,ho,_⟩:=pl.isList;exact afn (Heap.lt_size ho)
 have I1:Inv X pins σ H {s with heap:=s.heap.push {cls:=.type "list_iterator",data:=.fields #[.ref p,.int 0 0]}}:=I.kept (t' :=s.toks) fun b o e=>Heap.get?_push_of_some _ e
 obtain ⟨f0,f1,f2,f3,f4,f5⟩:=I.jI (H' :=H) (aai s.heap.objs.size) (I.bt.fresh (aai _))
 have hl:its.length=bs.length:=by rw [← rv.length,aaa]
 refine ⟨s.heap.objs.size,_,_,_,_,_,fun i=>(bs[i]?).getD true,rfl,Walks.list (A:=X.A.in1) (I.ok.hd hc) s.heap.objs.size p sE its.toArray,⟨⟨_,Heap.get?_push_size _ rfl,rfl,rfl⟩,pl.isList.at fun o e=>Heap.get?_push_of_some _ e⟩,?_,fun h' tk kk=> ?_⟩
 ·intro i v s' Q' E' hv me
  have Ja :its[i]? =some v:=by simpa using hv
  have hi:i < bs.length:=by rw [← hl];exact (be.mp Ja).1
  have eb:(bs.map V.bl)[i]? =some (.bl bs[i]):=by rw [Wp,gE hi];rfl
  obtain ⟨u,eu,ru⟩:=rv.get eb
  rw [Ja] at eu
  cases eu
  cases ru
  dsimp only at me
  rw [gE hi] at me
  exact wpAny_truthy_bool me
 ·refine ⟨.bl (bs.all id),H,I1.turned (t' :=tk) (it:=s.heap.objs.size) (fun b o hb e=>kk b o (by simpa using hb) e) f0 f1 f3 f4 f5,?_,q⟩
  show _=_
  rw [← all_range bs,afa,hl]
end
end Ty
set_option maxHeartbeats 4000000
namespace Ty
open PySem PySem.Spec PyProof.Rows L2 PySem.NumText
def dg (m:Nat):List Nat:=(Nat.toDigits 10 m).map Char.toNat
def tx (n:Int):Str:=Str.ofString (toString n)
def Qt:Str:=Str.ofString "/"
def nt (q:Int×Int):Str:=if q.2=1 then tx q.1 else tx q.1++Qt++tx q.2
end Ty
set_option maxHeartbeats 4000000
namespace Ty
open PySem PySem.Spec PyProof.Rows L2 PySem.NumText
section
variable {X:Cx}
end
def isStar:Expr→Bool
 | .Starred .. =>true
 | _=>false
theorem yB {e:Expr}{es:List Expr}{env:Env}(h:isStar e=false):starEach (e::es) env=(false,eval e env)::starEach es env:=by
 cases e <;> first | rfl | (cases h;done)
theorem au {X:Cx}{e:Expr}{es:List Expr}{te:TE}{t:TA}(ha:PE X e te)(hr:PA X es t)(h:isStar e=false:=by rfl):PA X (e::es) (K7 te t):=Jd ha hr (yB h)
end Ty
set_option maxHeartbeats 4000000
namespace Ty
open PySem PySem.Spec PyProof.Rows L2
section
variable {D:Addr}{te:TE}{cap:L2.St}{H1:Hp}{Q:VK}
def aT (D:Addr)(H H' :Hp):Prop:=∀b o,b≠D→H b=some o→H' b=some o
theorem aT.of {H H' :Hp}(s:av H H'):aT D H H' :=fun b o _ e=>s b o e
theorem aT.upd {H:Hp}{o:HO}:aT D H (upd H D o):=fun b o' n e=>by rw [ao n];exact e
theorem tF {J:It}(n:Nat)(xs:Nat→V)(Rel:Nat→V→Hp→Prop)(nD:H1 D=none)(hn:n < sizeLine)
  (go:∀i H,i < n→av H1 H→J.go i H∧∀x H',J.AX i H x H' →H' =H∧x=xs i) (stop:∀H,av H1 H→J.stop n H)
  (hR:∀i v H H' ys,H D=some (.lst ys)→aT D H H' →Rel i v H→Rel i v H')
  (he:∀i H (R:VK),i < n→av H1 H→(∀v H6,av H H6→Rel i v H6→R v H6)→te (some (xs i)::cap) H R)
  (hd:∀ys H,ys.length=n→(∀i v,ys[i]? =some v→Rel i v H)→av H1 H→H D=some (.lst ys)→Q (.ref D) H):
  jd D (cD 0) jO te J (none::cap) H1 Q:=by
 refine CV n xs (fun i ys H=>ys.length=i∧(∀i v,ys[i]? =some v→Rel i v H)∧av H1 H) ⟨rfl,fun i v e=>by simp at e,fun b o e=>by rw [ao (aq e nD)];exact e⟩ ?_ ?_ ?_ ?_
 ·rintro i ys H hi ⟨_,_,s⟩
  exact go i H hi s
 ·rintro ys H ⟨_,_,s⟩
  exact stop H s
 ·rintro i ys H R hi ⟨l,r,s⟩ hD k
  refine he i H R hi s fun v H6 s6 rv=>k v H6 (s6 _ _ hD) (by omega) ⟨by simp [l],fun j u e=> ?_,fun b o e=> ?_⟩
  ·by_cases c:j < ys.length
   ·rw [afd c] at e
    have ru:=hR j u H H6 ys hD (aT.of s6) (r j u e)
    exact hR j u H6 _ ys (s6 _ _ hD) aT.upd ru
   ·rw [afm (by omega)] at e
    have ej:j=i:=by
     by_cases z:j - ys.length=0
     ·omega
     ·rw [aal (by simp;omega)] at e
      cases e
    subst ej
    have:v=u:=by
     rw [show j - ys.length=0 by omega] at e
     exact aff e
    subst this
    exact hR j v H6 _ ys (s6 _ _ hD) aT.upd rv
  ·rw [ao (aq e nD)]
   exact s6 _ _ (s _ _ e)
 ·rintro ys H ⟨l,r,s⟩ hD
  exact hd ys H l r s hD
theorem fN {K:Frag}{a:Addr}{xs:List V}(Rel:Nat→V→Hp→Prop)(nD:H1 D=none)(hn:xs.length < sizeLine)(hS:∀H,av H1 H→ba K H a xs)
  (hR:∀i v H H' ys,H D=some (.lst ys)→aT D H H' →Rel i v H→Rel i v H')
  (he:∀i x H (R:VK),xs[i]? =some x→av H1 H→(∀v H6,av H H6→Rel i v H6→R v H6)→te (some x::cap) H R)
  (hd:∀ys H,ys.length=xs.length→(∀i v,ys[i]? =some v→Rel i v H)→av H1 H→H D=some (.lst ys)→Q (.ref D) H):
  jd D (cD 0) jO te (IX K a) (none::cap) H1 Q:=by
 refine tF xs.length (fun i=>(xs[i]?).getD .cb) Rel nD hn (fun i H hi s=>⟨⟨xs,xs[i],hS H s,gE hi⟩,fun x H' y=>⟨y.1,?_⟩⟩) (fun H s=>⟨xs,hS H s,aai _⟩) hR (fun i H R hi s k=> ?_) hd
 ·rw [y.2 xs (hS H s)];rfl
 ·have e:xs[i]? =some xs[i]:=gE hi
  have k' :=he i _ H R e s k
  rw [← (show (xs[i]?).getD .cb=xs[i] by rw [e];rfl)] at k'
  exact k'
theorem vn {lo:Int}{n:Nat}(Rel:Nat→V→Hp→Prop)(nD:H1 D=none)(hn:n < sizeLine)
  (hR:∀i v H H' ys,H D=some (.lst ys)→aT D H H' →Rel i v H→Rel i v H')
  (he:∀(i:Nat) H (R:VK),i < n→av H1 H→(∀v H6,av H H6→Rel i v H6→R v H6)→te (some (.int (lo+i))::cap) H R)
  (hd:∀ys H,ys.length=n→(∀i v,ys[i]? =some v→Rel i v H)→av H1 H→H D=some (.lst ys)→Q (.ref D) H):
  jd D (cD 0) jO te (KY lo n) (none::cap) H1 Q:=
 tF n (fun i=>.int (lo+i)) Rel nD hn (fun i H hi s=>⟨hi,fun x H' y=>y⟩) (fun H s=>aai n) hR he hd
end
end Ty
set_option maxHeartbeats 4000000
namespace Ty
open PySem PySem.Spec PyProof.Rows L2
section
variable {X:Cx}{pins:List (Addr×Obj)}{σ:L2.St}{H:Hp}{s:Shared}{h' :Heap}
theorem Inv.xh {t' :Nat}{fp:List Addr}(I:Inv X pins σ H s)(k:∀b o,b∉fp→s.heap.get? b=some o→h'.get? b=some o)(hf:∀b∈fp,f_ X pins H b):Inv X pins σ H {s with heap:=h',toks:=t' }:=by
 have KQ:∀b u,H b=some u→b∉fp:=fun b u e z=>by rw [(hf b z).1] at e;cases e
 refine I.step (g' :=s.gens) (d' :=s.drawn) (ch:=fp) (fun b hb=> ?_) (fun b o _ _ hc e _=>k b o hc e) (fun b o _ _ hc e _=>⟨o.slots,k b o hc e⟩) (fun _ _ _ _ n=>n)
  (fun b o hc e=>⟨o,k b o hc e⟩) (fun _ _ e=>e) (fun _ _ _ e=>e) (fun b ps e=>⟨#[],by rw [e];simp⟩) (fun m hm=> ?_) (fun b u e=> ?_) I.bare
 ·obtain ⟨f0,f1,f2,f3,f4,f5⟩:=hf b hb
  exact ⟨f3,f1,f4,f5⟩
 ·obtain ⟨o,es,ep,ho,r⟩:=hm
  exact ⟨o,es,ep,k _ o (fun z=>(hf _ z).2.1 rfl) ho,r⟩
 ·refine (I.bt b u e).lZ (fun c v hc q=>k c v ?_ q) (fun _ q=>q) fun _ _ q=>q
  rcases hc with z | z
  ·rw [z];exact KQ b u e
  ·exact KQ c _ z
theorem Inv.qU {t' :Nat}{fp:List Addr}{T:Addr}{xs:List V}{its:List Value}(I:Inv X pins σ H s)(k:∀b o,b∉fp→s.heap.get? b=some o→h'.get? b=some o)(hf:∀b∈fp,f_ X pins H b)(hT:s.heap.objs.size≤T)
  (hz:xs.length≤sizeLine) (rv:Vals xs its) (ht:IsTup h' T its.toArray):Inv X pins σ (upd H T (.tup xs)) {s with heap:=h',toks:=t' }:=by
 have hn:=I.bt.fresh hT
 have KQ:∀b u,H b=some u→b∉fp:=fun b u e z=>by rw [(hf b z).1] at e;cases e
 have ne:∀b o,s.heap.get? b=some o→b≠T:=fun b o e=>afn (afc (Heap.lt_size e) hT)
 refine I.step (g' :=s.gens) (d' :=s.drawn) (ch:=fp) (fun b hb=> ?_) (fun b o _ _ hc e _=>k b o hc e) (fun b o _ _ hc e _=>⟨o.slots,k b o hc e⟩) (fun b o _ e n=>by rw [ao (ne b o e)];exact n)
  (fun b o hc e=>⟨o,k b o hc e⟩) (fun b ys e=>by rw [ao (aq e hn)];exact e) (fun b o u e=>by rw [ao (aq e hn)];exact e) (fun b ps e=>⟨#[],by rw [ao (aq e hn),e];simp⟩) (fun m hm=> ?_) (fun b u e=> ?_) I.bare
 ·obtain ⟨f0,f1,f2,f3,f4,f5⟩:=hf b hb
  exact ⟨f3,f1,f4,f5⟩
 ·obtain ⟨o,es,ep,ho,r⟩:=hm
  exact ⟨o,es,ep,k _ o (fun z=>(hf _ z).2.1 rfl) ho,r⟩
 ·by_cases hb:b=T
  ·subst hb
   rw [ak] at e
   cases e
   exact ⟨hz,its,rv,ht⟩
  ·rw [ao hb] at e
   refine (I.bt b u e).lZ (fun c v hc q=>k c v ?_ q) (fun c q=>by rw [ao (aq q hn)];exact q) fun c ys q=>by rw [ao (aq q hn)];exact q
   rcases hc with z | z
   ·rw [z];exact KQ b u e
   ·exact KQ c _ z
end
def Yc (K:Frag)(a b:Addr):It:=
 ⟨fun i H=>∃xs ys x y,ba K H a xs∧ba K H b ys∧xs[i]? =some x∧ys[i]? =some y,
  fun i H v H' =>∃p x y,(∀xs,ba K H a xs→xs[i]? =some x)∧(∀ys,ba K H b ys→ys[i]? =some y)∧v=.ref p∧H p=none∧H' =upd H p (.tup [x,y]),
  fun i H=>∃xs ys,ba K H a xs∧ba K H b ys∧(xs.length≤i∨ys.length≤i)⟩
theorem CY {P:Program}{w:World}{K:Frag}{es:List Expr}{k:Nat}{pos:Pos}(a b z TI TO i1 i2:Addr)(D:ZipApart z TI TO i1 i2 a b):
  Turn P w K (.Tuple es k pos) (Yc K a b) [z,TI,TO,i1,i2] z (fun i h=>IsZip h z TI TO .none∧IsPair h TI (.ref i1) (.ref i2)∧(∃x y,IsPair h TO x y)∧h.IsListIter i1 a i∧h.IsListIter i2 b i) where
 mem:=by simp
 obj:=fun i h st c hc=>by
  obtain ⟨hz,CZ,⟨x,y,HI⟩,⟨o1,e1,c1,d1⟩,⟨o2,e2,c2,d2⟩⟩:=st
  have uY :c=z∨c=TI∨c=TO∨c=i1∨c=i2:=by simpa using hc
  rcases uY with e | e | e | e | e <;> subst e
  ·exact ⟨_,hz,fun v z=>by cases z⟩
  ·exact ⟨_,CZ,fun v z=>by cases z⟩
  ·exact ⟨_,HI,fun v z=>by cases z⟩
  ·exact ⟨_,e1,fun v z=>by rw [d1] at z;cases z⟩
  ·exact ⟨_,e2,fun v z=>by rw [d2] at z;cases z⟩
 keep:=fun i h h' st k=>by
  obtain ⟨hz,CZ,⟨x,y,HI⟩,h1,h2⟩:=st
  exact ⟨k z (by simp) _ hz,k TI (by simp) _ CZ,⟨x,y,k TO (by simp) _ HI⟩,h1.at fun o e=>k i1 (by simp) o e,h2.at fun o e=>k i2 (by simp) o e⟩
 item:=by
  intro X hP hw hK hc i pins s σ H E I hf st hg
  subst hP hw hK
  obtain ⟨hz,CZ,⟨x0,y0,HI⟩,h1,h2⟩:=st
  obtain ⟨xs,ys,x,y,qx,qy,ex,ey⟩:=hg
  obtain ⟨its,rv,p,_⟩:=I.list qx
  obtain ⟨jts,lj,p',_⟩:=I.list qy
  obtain ⟨u,hu,ru⟩:=rv.get ex
  obtain ⟨v,hv,rv'⟩:=lj.get ey
  refine wpAny_pyNext_zip_item D hz CZ HI h1 h2 p.isList p'.isList (x:=u) (y:=v) (by simpa using hu) (by simpa using hv) fun h' a1 a2 a3 a4 a5 a6 a7=> ?_
  refine ⟨_,rfl,wpAny_letOwnedTupleGo_zip (s:={s with heap:=h' }) a1 fun HJ b1 sb=> ?_⟩
  have nz:∀c,c≠z→∀o,h'.get? c=some o→HJ.get? c=some o:=fun c hc o e=>(sb.2 c hc).trans e
  have kk:∀b o,b∉[z,TI,TO,i1,i2]→s.heap.get? b=some o→HJ.get? b=some o:=fun b o hb e=>by
   have gC :b≠z∧b≠TI∧b≠TO∧b≠i1∧b≠i2:=by simpa using hb
   exact nz b gC.1 o (a7 b o gC.1 gC.2.2.1 gC.2.2.2.1 gC.2.2.2.2 e)
  have sz:∀c o,s.heap.get? c=some o→s.heap.objs.size≠c:=fun c o e=>amU (Heap.lt_size e)
  have tz:s.heap.objs.size≠z:=sz _ _ hz
  have hn:=I.bt.fresh (aai s.heap.objs.size)
  have I2:Inv X pins σ (upd H s.heap.objs.size (.tup [x,y])) {s with heap:=HJ,toks:=s.toks}:=
   Inv.qU I kk hf (aai _) (by show 2≤sizeLine;decide) (its:=[u,v]) (.cons ru (.cons rv' .nil)) ⟨_,nz _ tz _ a5,rfl,_,rfl⟩
  refine ⟨.ref s.heap.objs.size,_,I2,rfl,⟨s.heap.objs.size,x,y,fun xs' q=>by rw [I.gG q qx];exact ex,fun ys' q=>by rw [I.gG q qy];exact ey,rfl,hn,rfl⟩,⟨b1,nz _ D.TIz _ (a7 _ _ D.TIz D.TITO D.TIi1 D.TIi2 CZ),⟨_,_,nz _ D.TOz _ a2⟩,a3.at fun o e=>nz _ D.i1z o e,a4.at fun o e=>nz _ D.i2z o e⟩,fun b hb=> ?_⟩
  have ob:∃o,s.heap.get? b=some o:=by
   obtain ⟨o1,e1,_⟩:=h1
   obtain ⟨o2,e2,_⟩:=h2
   have uY :b=z∨b=TI∨b=TO∨b=i1∨b=i2:=by simpa using hb
   rcases uY with e | e | e | e | e <;> subst e
   ·exact ⟨_,hz⟩
   ·exact ⟨_,CZ⟩
   ·exact ⟨_,HI⟩
   ·exact ⟨_,e1⟩
   ·exact ⟨_,e2⟩
  obtain ⟨o,e⟩:=ob
  rw [ao (afk (sz _ _ e))]
  exact (hf b hb).1
 done:=by
  intro X hP hw hK hc i pins s σ H E I hf st hg
  subst hP hw hK
  obtain ⟨hz,CZ,⟨x0,y0,HI⟩,h1,h2⟩:=st
  obtain ⟨xs,ys,qx,qy,ee⟩:=hg
  obtain ⟨its,rv,p,_⟩:=I.list qx
  obtain ⟨jts,lj,p',_⟩:=I.list qy
  have l1:=rv.length
  have l2:=lj.length
  refine wpAny_pyNext_zip_end (I.ok.hd hc) D hz CZ HI h1 h2 p.isList p'.isList ?_ fun h' kk=>⟨rfl,Inv.xh I (fun b o hb e=> ?_) hf⟩
  ·rcases ee with e | e
   ·exact .inl (by simp;omega)
   ·exact .inr (by simp;omega)
  ·have gC :b≠z∧b≠TI∧b≠TO∧b≠i1∧b≠i2:=by simpa using hb
   exact kk b o gC.1 gC.2.2.1 gC.2.2.2.1 gC.2.2.2.2 e
 self:=fun _ _ _ _ _ st h=>wpAny_pyIter_zip st.1 h
theorem boot_zip:bootBuiltins "zip"=some (.type "zip"):=by decide+kernel
section
variable {X:Cx}
inductive Lg (K:Frag)(R:(It→Hp→Prop))(vs:List V)(H1:Hp):Prop where
 | mk (a b:_) (_:vs=[.ref a,.ref b]) (_:(∃xs,ba K H1 a xs)) (_:(∃ys,ba K H1 b ys)) (_:R (Yc K a b) H1):Lg K R vs H1
def Yd (K:Frag)(ta:TA):TI:=fun σ H R=>ta σ H fun vs H1=>Lg K R vs H1
theorem Na {e1 e2:Expr}{ta:TA}{p pos:Pos}{es:List Expr}{k:Nat}{qG:Pos}(hg:Gl X "zip")(hm:X.mg "zip"=none)(ha:PA X [e1,e2] ta)(hs:starEach [e1,e2] X.env=[(false,eval e1 X.env),(false,eval e2 X.env)]:=by rfl)(K4:starEach [e2] X.env=[(false,eval e2 X.env)]:=by rfl):
  PI X (.Tuple es k qG) (.Call (.Name "zip" p) [e1,e2] [] pos) (Yd X.K ta):=by
 intro pins s σ H R I h
 refine Call_ (gD I hg hm boot_zip (PyProof.Rows.callWith_type1 (bV (ha pos pins s σ H _ I h) fun us s1 ⟨vs,H1,I1,r1,q1⟩=> ?_) (by rw [hs,K4]) (by rw [K4];rfl)))
 obtain ⟨a,b,e,⟨xs,hx⟩,⟨ys,hy⟩,q⟩:=q1
 subst e
 cases r1 with
 | cons r rr=>
  cases rr with
  | cons r' rr=>
   cases rr
   cases r
   cases r'
   obtain ⟨its,rv,pl,_⟩:=I1.list hx
   obtain ⟨jts,lj,pl',_⟩:=I1.list hy
   have lt1:a < s1.heap.objs.size:=by obtain ⟨o,ho,_⟩:=pl.isList;exact Heap.lt_size ho
   have lt2:b < s1.heap.objs.size:=by obtain ⟨o,ho,_⟩:=pl'.isList;exact Heap.lt_size ho
   refine call_zip_2 pl.isList pl'.isList fun h' hz CZ HI Ye hi2 hsz hk=>wpAny_pyIter_zip (s:={s1 with heap:=h' }) hz ?_
   refine ⟨s1.heap.objs.size+4,[s1.heap.objs.size+4,s1.heap.objs.size+2,s1.heap.objs.size+3,s1.heap.objs.size,s1.heap.objs.size+1],_,_,H1,rfl,I1.kept (t' :=s1.toks) hk,CY a b _ _ _ _ _ ?_,⟨hz,CZ,⟨_,_,HI⟩,Ye,hi2⟩,fun c hc=> ?_,q⟩
   ·constructor <;> (intro z;simp only [Addr] at*;omega)
   ·have uY :s1.heap.objs.size≤c:=by
     have:c=s1.heap.objs.size+4∨c=s1.heap.objs.size+2∨c=s1.heap.objs.size+3∨c=s1.heap.objs.size∨c=s1.heap.objs.size+1:=by simpa using hc
     simp only [Addr] at*
     omega
    exact I1.jI uY (I1.bt.fresh uY)
inductive C_ (K:Frag)(xs:List V)(H:Hp)(Q:VK):Prop where
 | mk (p:Addr) (ys:List V) (_:xs=[.ref p]) (_:ba K H p ys) (_:∀l,H l=none→Q (.ref l) (upd H l (.lst ys))):C_ K xs H Q
theorem mG:eK X (.type "list") (C_ X.K):=by
 intro pins s σ H xs us Q I r h
 obtain ⟨p,ys,rfl,hq,q⟩:=h
 obtain ⟨u,rfl,r1⟩:=vals1 r
 cases r1
 obtain ⟨its,rv,⟨o,n,e,c,d1,d⟩,hz⟩:=I.list hq
 have hlen:=rv.length
 refine call_list_seq p (.inl rfl) e c d (fun h' c' hk hl=> ?_) (by simp;omega)
 have hn:=I.bt.fresh (aai s.heap.objs.size)
 have I2:Inv X pins σ (upd H s.heap.objs.size (.lst ys)) {s with heap:=h',toks:=s.toks}:=I.laid (t' :=s.toks) hk (aai _) ⟨hz,its,c',rv,hl⟩
 exact ⟨.ref _,_,I2,rfl,q _ hn⟩
end
section
variable {X:Cx}{K:Frag}
theorem f' (h:X.K=K):OW X (BZ K):=by subst h;exact jN
theorem Jt {es:List Expr}{k:Nat}{t:KU}{n:Nat}{pos:Pos}(hK:X.K=K)(hc:X.calm=true)(h:PQ X es t)
  (hn:(assignEach es X.env).length=n:=by rfl) (IV:(assignEach es X.env).findIdx? (·.1)=none:=by rfl):PG X (.Tuple es k pos) (IU K n t):=by subst hK;exact dO hc h hn IV
end
section
variable {D:Addr}{te:TE}{cap:L2.St}{H1:Hp}{Q:VK}
theorem C' {K:Frag}{a b:Addr}{xs ys:List V}(Rel:Nat→V→Hp→Prop)(nD:H1 D=none)(hn:xs.length < sizeLine)(hl:ys.length=xs.length)(hX:∀H,av H1 H→ba K H a xs)(hY:∀H,av H1 H→ba K H b ys)
  (hR:∀i v H H' ys,H D=some (.lst ys)→aT D H H' →Rel i v H→Rel i v H')
  (he:∀i x y H (R:VK),xs[i]? =some x→ys[i]? =some y→av H1 H→(∀v H6,av H H6→Rel i v H6→R v H6)→te (some x::some y::cap) H R)
  (hd:∀zs H,zs.length=xs.length→(∀i v,zs[i]? =some v→Rel i v H)→av H1 H→H D=some (.lst zs)→Q (.ref D) H):
  jd D (IU K 2 (BL (cD 0) (BL (cD 1) PU))) jO te (Yc K a b) (none::none::cap) H1 Q:=by
 refine ⟨fun i m σ zs H=>m=xs.length - i∧i≤xs.length∧(∃o o',σ=o::o' ::cap)∧(zs.length=i∧(∀i v,zs[i]? =some v→Rel i v H)∧av H1 H)∧H D=some (.lst zs),⟨xs.length,by simp,aft _,⟨none,none,rfl⟩,⟨rfl,fun i v e=>by simp at e,fun b o e=>by rw [ao (aq e nD)];exact e⟩,ak⟩,?_⟩
 rintro i m σ zs H ⟨rfl,hi,⟨o,o',rfl⟩,⟨l,r,s⟩,hD⟩
 by_cases iU:i < xs.length
 ·have e1:xs[i]? =some xs[i]:=gE iU
  have e2:ys[i]? =some (ys[i]'(by omega)):=gE (by omega)
  refine .inr ⟨⟨xs,ys,_,_,hX H s,hY H s,e1,e2⟩,fun v H' y=> ?_⟩
  obtain ⟨p,x,y,q1,q2,rfl,np,rfl⟩:=y
  have e1:=q1 xs (hX H s)
  have e2:=q2 ys (hY H s)
  have sp:av H (upd H p (.tup [x,y])):=fun b o e=>by rw [ao (aq e np)];exact e
  refine ⟨p,_,rfl,bK.of ak,rfl,_,_,rfl,_,_,rfl,rfl,?_⟩
  unfold jO
  dsimp only
  rw [if_pos rfl]
  refine he i x y _ _ e1 e2 (fun b o e=>sp _ _ (s _ _ e)) fun v H6 s6 rv=>⟨s6 _ _ (sp _ _ hD),by omega,xs.length - (i+1),by omega,rfl,by omega,⟨_,_,rfl⟩,⟨by simp [l],fun j u e=> ?_,fun b o e=> ?_⟩,ak⟩
  ·by_cases c:j < zs.length
   ·rw [afd c] at e
    have ru:=hR j u H H6 zs hD (aT.of fun b o q=>s6 _ _ (sp _ _ q)) (r j u e)
    exact hR j u H6 _ zs (s6 _ _ (sp _ _ hD)) aT.upd ru
   ·rw [afm (by omega)] at e
    have ej:j=i:=by
     by_cases z:j - zs.length=0
     ·omega
     ·rw [aal (by simp;omega)] at e
      cases e
    subst ej
    have:v=u:=by
     rw [show j - zs.length=0 by omega] at e
     exact aff e
    subst this
    exact hR j v H6 _ zs (s6 _ _ (sp _ _ hD)) aT.upd rv
  ·rw [ao (aq e nD)]
   exact s6 _ _ (sp _ _ (s _ _ e))
 ·have e:i=xs.length:=by omega
  subst e
  exact .inl ⟨⟨xs,ys,hX H s,hY H s,.inl (aai _)⟩,hd zs H l r s hD⟩
end
end Ty
set_option maxHeartbeats 4000000
namespace Ty
open PySem PySem.Spec PyProof.Rows L2
open Builtin.Int (intBits)
def vl (q:Int×Int):Rat:=(q.1:Rat) / (q.2:Rat)
structure Sm (T B:Nat)(q:Int×Int):Prop where
 pos:0 < q.2
 low:afE q.1 q.2=1
 top:q.1.natAbs≤2^T
 bot:q.2.natAbs≤2^B
theorem cw {b:Int}(h:b≠0):(b:Rat)≠0:=by simpa using h
theorem qV {t b:Int}(h:b≠0):vl (low t b)=(t:Rat) / (b:Rat):=by
 have c:=yx (t:=t) h
 have p:=i9 (t:=t) h
 have h1:=cw h
 have h2:=cw (b:=(low t b).2) (by omega)
 have c' :((low t b).1:Rat)*b=t*(low t b).2:=by exact_mod_cast c
 unfold vl
 grind
theorem tG {t b u c:Int}(hb:b≠0)(hc:c≠0)(h:(t:Rat) / b=(u:Rat) / c):t*c=u*b:=by
 have h1:=cw hb
 have h2:=cw hc
 have:(t:Rat)*c=u*b:=by grind
 exact_mod_cast this
theorem Nb {q r:Int×Int}(hq:0 < q.2)(hr:0 < r.2)(gq:afE q.1 q.2=1)(gr:afE r.1 r.2=1)(h:vl q=vl r):q=r:=by
 have c:=tG (t:=q.1) (b:=q.2) (u:=r.1) (c:=r.2) (by omega) (by omega) h
 have e:=oE (t:=q.1) (b:=q.2) (u:=r.1) (c:=r.2) (by omega) (by omega) c
 rw [mC hq gq,mC hr gr] at e
 exact agj (congrArg anG e) (congrArg anH e)
theorem yC {b d:Int}(hd:d≠0)(h:d ∣ b):((b.fdiv d:Int):Rat)=(b:Rat) / d:=by
 have e:=b7 hd h
 have h1:=cw hd
 have:(b:Rat)=d*(b.fdiv d:Int):=by exact_mod_cast e
 grind
def tH (ts:List Int)(qs:List (Int×Int))(b:Int):Prop:=ts.length=qs.length∧∀(i:Nat) (t:Int) (q:Int×Int),ts[i]? =some t→qs[i]? =some q→(t:Rat)=vl q*b
theorem vo {a b:Int}{m n:Nat}(h1:a.natAbs≤2^m)(h2:b.natAbs≤2^n):(a*b).natAbs≤2^(m+n):=by
 rw [af3,am8]
 exact afR h1 h2
theorem Nc {a b:Int}{m:Nat}(h1:a.natAbs≤2^m)(h2:b.natAbs≤2^m):(a+b).natAbs≤2^(m+1):=by
 have:=agw a b
 rw [amZ]
 omega
theorem Lh {a:Int}{m n:Nat}(h:a.natAbs≤2^m)(hm:m≤n):a.natAbs≤2^n:=aaj h (afp (by decide) hm)
theorem gZ {a:Int}{m n:Nat}(h:a.natAbs≤2^m)(hm:m < n):intBits a≤n:=intBits_le_iff.mpr (afe h (Nat.pow_lt_pow_right (by decide) hm))
theorem lM {a b:Int}{m n:Nat}(h1:a.natAbs≤2^m)(h2:b.natAbs≤2^n)(hm:m < 30000000)(hn:n < 30000000):wZ a b:=⟨aaj (gZ h1 hm) (by decide),aaj (gZ h2 hn) (by decide)⟩
theorem DA {b d:Int}(hb:0 < b)(hd:0 < d):0 < b.fdiv (gz b d)*d∧b ∣ b.fdiv (gz b d)*d∧d ∣ b.fdiv (gz b d)*d∧(b.fdiv (gz b d)*d).natAbs≤b.natAbs*d.natAbs:=by
 have gp:=qO (t:=b) (b:=d) (by omega)
 have g1:gz b d ∣ b:=agk ..
 have g2:gz b d ∣ d:=agc ..
 have e1:=b7 (g:=gz b d) (by omega) g1
 have e2:=b7 (g:=gz b d) (by omega) g2
 generalize gz b d=g at*
 have p1:0 < b.fdiv g:=by
  rcases ank (b.fdiv g) 0 with z | z | z
  ·exfalso
   have:=anj gp z
   omega
  ·rw [z] at e1;omega
  ·exact z
 refine ⟨agB p1 hd,⟨d.fdiv g,?_⟩,⟨b.fdiv g,agd ..⟩,?_⟩
 ·have:b.fdiv g*d=b.fdiv g*(g*d.fdiv g):=by rw [← e2]
  rw [this]
  have h3:b*d.fdiv g=g*b.fdiv g*d.fdiv g:=by rw [← e1]
  rw [h3]
  rw [← am7,agd (b.fdiv g) g]
 ·rw [af3]
  exact af4 _ (by
   have:=dh (g:=g) (a:=b.fdiv g) (by omega)
   rw [← e1] at this
   exact this)
theorem yD {q:Int×Int}{b:Int}(hq:0 < q.2)(h:q.2 ∣ b):((q.1*b.fdiv q.2:Int):Rat)=vl q*b:=by
 have e:=yC (b:=b) (d:=q.2) (by omega) h
 have:((q.1*b.fdiv q.2:Int):Rat)=q.1*((b.fdiv q.2:Int):Rat):=by push_cast;rfl
 rw [this,e]
 unfold vl
 grind
theorem fO {b d:Int}(hd:d≠0)(h:d ∣ b):(b.fdiv d).natAbs≤b.natAbs:=by
 have:=dh (g:=d) (a:=b.fdiv d) hd
 rw [← b7 hd h] at this
 exact this
end Ty
set_option maxHeartbeats 4000000
namespace Ty
open PySem PySem.Spec PyProof.Rows L2
section
variable {D:Addr}{te:TE}{cap:L2.St}{H1:Hp}{Q:VK}
theorem yE {J:It}(n:Nat)(xs:Nat→V)(Rel:Nat→V→Hp→Prop)(nD:H1 D=none)(hn:n < sizeLine)
  (go:∀i H,i < n→av H1 H→J.go i H∧∀x H',J.AX i H x H' →H' =H∧x=xs i) (stop:∀H,av H1 H→J.stop n H)
  (hR:∀i v H H' ys,H D=some (.lst ys)→aT D H H' →Rel i v H→Rel i v H')
  (he:∀i H (R:VK),i < n→av H1 H→(∃ys,H D=some (.lst ys))→(∀v H6,av H H6→Rel i v H6→R v H6)→te (some (xs i)::cap) H R)
  (hd:∀ys H,ys.length=n→(∀i v,ys[i]? =some v→Rel i v H)→av H1 H→H D=some (.lst ys)→Q (.ref D) H):
  jd D (cD 0) jO te J (none::cap) H1 Q:=by
 refine CV n xs (fun i ys H=>ys.length=i∧(∀i v,ys[i]? =some v→Rel i v H)∧av H1 H) ⟨rfl,fun i v e=>by simp at e,fun b o e=>by rw [ao (aq e nD)];exact e⟩ ?_ ?_ ?_ ?_
 ·rintro i ys H hi ⟨_,_,s⟩
  exact go i H hi s
 ·rintro ys H ⟨_,_,s⟩
  exact stop H s
 ·rintro i ys H R hi ⟨l,r,s⟩ hD k
  refine he i H R hi s ⟨_,hD⟩ fun v H6 s6 rv=>k v H6 (s6 _ _ hD) (by omega) ⟨by simp [l],fun j u e=> ?_,fun b o e=> ?_⟩
  ·by_cases c:j < ys.length
   ·rw [afd c] at e
    have ru:=hR j u H H6 ys hD (aT.of s6) (r j u e)
    exact hR j u H6 _ ys (s6 _ _ hD) aT.upd ru
   ·rw [afm (by omega)] at e
    have ej:j=i:=by
     by_cases z:j - ys.length=0
     ·omega
     ·rw [aal (by simp;omega)] at e
      cases e
    subst ej
    have:v=u:=by
     rw [show j - ys.length=0 by omega] at e
     exact aff e
    subst this
    exact hR j v H6 _ ys (s6 _ _ hD) aT.upd rv
  ·rw [ao (aq e nD)]
   exact s6 _ _ (s _ _ e)
 ·rintro ys H ⟨l,r,s⟩ hD
  exact hd ys H l r s hD
theorem mH {K:Frag}{a:Addr}{xs:List V}(Rel:Nat→V→Hp→Prop)(nD:H1 D=none)(hn:xs.length < sizeLine)(hS:∀H,av H1 H→ba K H a xs)
  (hR:∀i v H H' ys,H D=some (.lst ys)→aT D H H' →Rel i v H→Rel i v H')
  (he:∀i x H (R:VK),xs[i]? =some x→av H1 H→(∃ys,H D=some (.lst ys))→(∀v H6,av H H6→Rel i v H6→R v H6)→te (some x::cap) H R)
  (hd:∀ys H,ys.length=xs.length→(∀i v,ys[i]? =some v→Rel i v H)→av H1 H→H D=some (.lst ys)→Q (.ref D) H):
  jd D (cD 0) jO te (IX K a) (none::cap) H1 Q:=by
 refine yE xs.length (fun i=>(xs[i]?).getD .cb) Rel nD hn (fun i H hi s=>⟨⟨xs,xs[i],hS H s,gE hi⟩,fun x H' y=>⟨y.1,?_⟩⟩) (fun H s=>⟨xs,hS H s,aai _⟩) hR (fun i H R hi s dd k=> ?_) hd
 ·rw [y.2 xs (hS H s)];rfl
 ·have e:xs[i]? =some xs[i]:=gE hi
  have k' :=he i _ H R e s dd k
  rw [← (show (xs[i]?).getD .cb=xs[i] by rw [e];rfl)] at k'
  exact k'
end
theorem pS {x y:Str}{c c0:Addr}{cl:List (Str×Addr)}(h:((y,c0)::cl).lookup x=some c):(x=y∧c=c0)∨(x≠y∧cl.lookup x=some c):=by
 rw [am3] at h
 cases e:x==y with
 | true=>
  rw [e] at h
  exact .inl ⟨by simpa using e,(aff h).symm⟩
 | false=>
  rw [e] at h
  exact .inr ⟨by simpa using e,h⟩
theorem Ju {M:Model}{A:Around}{E:Value→Shared→Prop}{s:Shared}{scope:Scope}{globals:Addr}{cl:List (Str×Addr)}{y:Str}{qual:Str}{outer:Env}{Q:Env→Shared→Prop}
  (hc:∀n acc,cellsFrom n scope.names acc=(y,n)::acc) (hp:∀h,pushCells h scope.names=h.push {cls:=.type "cell",data:=.cell none})
  (hQ:∀h',h'.Ns s.heap.objs.size (fun _=>none)→(∀b o,s.heap.get? b=some o→h'.get? b=some o)→h'.IsCell (s.heap.objs.size+1) none→
   Q (newEnv scope s.heap.objs.size globals ((y,s.heap.objs.size+1)::cl) qual none .none (some outer) builtinsNs) {s with heap:=h',toks:=s.toks+([]:List (Str×Value)).length}):
  wpAny M A (newFunctionEnv scope globals cl [] qual none .none (some outer)) Q E s:=by
 simp only [newFunctionEnv,anM,if_true]
 refine wpAny_bind (wpAny_alloc ?_)
 refine wpAny_bind (wpAny_layCells _ (fun name kind cells=>by cases hkc:kind==NameKind.cell <;> simp [hkc]) _ _ _ _ ?_)
 rw [show ({s with heap:=s.heap.push {cls:=.type "dict",data:=.dict #[]}}:Shared).heap.objs.size=s.heap.objs.size+1 from Heap.size_push ..,hc,hp]
 rw [List.forIn_nil]
 refine wpAny_bind (wpAny_pure (wpAny_pure ?_))
 refine hQ _ ((Heap.Ns.new s.heap (.type "dict")).keeps fun b o e=>Heap.get?_push_of_some _ e) (fun b o e=>Heap.get?_push_of_some _ (Heap.get?_push_of_some _ e)) ?_
 have:=Heap.get?_push_size (s.heap.push {cls:=.type "dict",data:=.dict #[]}) (o:={cls:=.type "cell",data:=.cell none}) rfl
 rw [Heap.size_push] at this
 exact ⟨_,this,rfl⟩
section
variable {X:Cx}
theorem DB {K:Frag}{tg l:Expr}{tl:TE}(h:X.K=K)(hl:PE X l tl):PI X tg l (KZ K tl):=by subst h;exact bw hl
def je (X:Cx)(NB:List Str)(scope:Scope)(y:Str)(cl:List (Str×Addr))(C:Addr)(s:Shared)(H:Hp)(fp:List Addr):Cx:=
 {prog:=X.prog,w:=X.w,K:=X.K,mg:=X.mg,base:=X.base,A:=X.A,N:=NB,s₀:=s,H₀:=H,env:=compEnvC scope ((y,C+1)::cl) C X.env,outer:=X.stack,stack:=X.stack,ex:=fp,fn:=fun x=>x==y,calm:=X.calm,pn:=[],xe:=fun _ _=>False}
structure Qu (X:Cx)(scope:Scope)(y:Str)(fr:List Str)(caps:List Nat):Prop where
 Jp:closureFor scope X.env=pure (bj X.env fr)
 kind:scope.kind=.function
 names:∀y∈scope.names,y.2=.local→scope.names.lookup y.1=some .local
 free:∀y∈scope.names,y.2=.free→y.1∈fr
 caps:caps.map (fun i=>X.N[i]?)=fr.map some
 out:gL X.env fr
 XZ:gL (compEnvC scope [] 0 X.env) fr
 Nd:∀n acc,cellsFrom n scope.names acc=(y,n)::acc
 Qv:∀h,pushCells h scope.names=h.push {cls:=.type "cell",data:=.cell none}
 only:∀z∈scope.names,z.2=.cell→z.1=y
 ny:y∉fr
theorem tI {y:Str}{elt target iter:Expr}{ifs:List Expr}{scope:Scope}{pos:Pos}{tn fr:List Str}{caps:List Nat}{g:TG}{tt:TT}{te:TE}{pins:List (Addr×Obj)}{σ:L2.St}{H2:Hp}{s2:Shared}{J:It}{fp:List Addr}{it:Addr}
  {uZ:Nat→Heap→Prop} {Q:VK} {RR:Value→Addr→Result→Shared→Prop} {E:Value→Shared→Prop} (hc:X.calm=true) (B:Qu X scope y fr caps)
  (hg:∀C s H fp,PG (je X (tn++fr) scope y (bj X.env fr) C s H fp) target g) (ht:∀C s H fp,PF (je X (tn++fr) scope y (bj X.env fr) C s H fp) ifs tt) (he:∀C s H fp,PE (je X (tn++fr) scope y (bj X.env fr) C s H fp) elt te)
  (I2:Inv X pins σ H2 s2) (T:Turn X.prog X.w X.K target J fp it uZ) (h_:uZ 0 s2.heap) (f2:∀b∈fp,f_ X pins H2 b) (q:∀D,H2 D=none→jd D g tt te J (sB tn.length caps σ) H2 Q)
  (fin:∀D C H' s' m,Inv X pins σ H' s' →s'.heap.Ns C m→f_ X pins H' C→Q (.ref D) H' →RR (.ref D) C (.ok .next) s'):
  wpAny (model X.prog X.w) X.A (newList []) (fun acc s₃=>wpAny (model X.prog X.w) X.A (newFunctionEnv scope X.env.globals (bj X.env fr) [] X.env.qual none .none (some X.env)) (fun CQ s₄=>
   codeAny (model X.prog X.w) X.A (.compStart (.ListComp elt [⟨target,iter,ifs,0⟩] scope pos) 0 (.ref it) acc {CQ with scope:=relabel scope X.env}) (RR acc CQ.locals) s₄) E s₃) E s2:=by
 refine wpAny_newObj_type (Ju B.Nd B.Qv (fun h₁ M8 hk₁ hc₁=> ?_))
 have I3:Inv X pins σ (upd H2 s2.heap.objs.size (.lst [])) {s2 with heap:=s2.heap.push {cls:=.type "list",data:=.seq ([]:List Value).toArray}}:=I2.Jl (t' :=s2.toks) (its:=[]) .nil (aft _)
 obtain ⟨W,⟨m0,w0⟩,turn⟩:=q s2.heap.objs.size (I2.bt.fresh (aai _))
 generalize X1:upd H2 s2.heap.objs.size (.lst [])=H3 at I3 w0
 have f3:∀b∈fp,f_ X pins H3 b:=fun b hb=>by
  obtain ⟨a0,a1⟩:=f2 b hb
  refine ⟨?_,a1⟩
  obtain ⟨o,e,_⟩:=T.obj _ _ h_ b hb
  rw [← X1,ao (afn (Heap.lt_size e))]
  exact a0
 generalize hD:s2.heap.objs.size=D at*
 generalize X2:({s2 with heap:=s2.heap.push {cls:=.type "list",data:=.seq ([]:List Value).toArray}}:Shared)=s3 at*
 have e3:s3.heap=s2.heap.push {cls:=.type "list",data:=.seq ([]:List Value).toArray}:=by rw [← X2]
 have sN:uZ 0 s3.heap:=T.keep _ _ _ h_ fun b _ o e=>by rw [e3];exact Heap.get?_push_of_some _ e
 have kept:∀b o,s3.heap.get? b=some o→h₁.get? b=some o:=fun b o e=>hk₁ b o e
 generalize hC:s3.heap.objs.size=C at*
 have CS:s3.heap.objs.size≤C:=anu hC
 have I4:Inv X pins σ H3 {s3 with heap:=h₁,toks:=s3.toks+([]:List (Str×Value)).length}:=I3.kept kept
 have Qm:∀b∈fp,b≠C:=fun b hb z=>by
  obtain ⟨o,e,_⟩:=T.obj _ _ sN b hb
  exact absurd z (afn (afc (Heap.lt_size e) CS))
 have Qn:∀b∈fp,b∉u4 X.stack:=fun b hb z=>(afo.mp (I3.qB b z)).elim (f3 b hb).2.1 (f3 b hb).2.2.1
 have old:∀x c,(bj X.env fr).lookup x=some c→c < C:=fun x c e=>by
  obtain ⟨v,ic⟩:=I3.cell x c (bX e)
  rw [← hC]
  exact ic.lt
 have Yf:∀x z c,((y,C+1)::bj X.env fr).lookup x=some c→((y,C+1)::bj X.env fr).lookup z=some c→x=z:=fun x z c e1 e2=>by
  rcases pS e1 with ⟨a1,b1⟩ | ⟨a1,b1⟩ <;> rcases pS e2 with ⟨a2,b2⟩ | ⟨a2,b2⟩
  ·rw [a1,a2]
  ·have:=old z c b2
   rw [b1] at this
   exact absurd this (aom.mpr (agl C))
  ·have:=old x c b1
   rw [b2] at this
   exact absurd this (aom.mpr (agl C))
  ·exact I3.ok.inj x z c (bX b1) (bX b2)
 have Yg:∀x c,(x==y)=true→((y,C+1)::bj X.env fr).lookup x=some c→s3.heap.objs.size≤c:=fun x c hx e=>by
  rcases pS e with ⟨a1,b1⟩ | ⟨a1,b1⟩
  ·rw [b1];exact aaj CS (agl C)
  ·exact absurd (by simpa using hx) a1
 have nfp:∀b∈fp,∀x c,((y,C+1)::bj X.env fr).lookup x=some c→c≠b:=fun b hb x c e=>by
  rcases pS e with ⟨a1,b1⟩ | ⟨a1,b1⟩
  ·obtain ⟨o,eo,_⟩:=T.obj _ _ sN b hb
   have:=Heap.lt_size eo
   rw [hC] at this
   rw [b1]
   exact afk (afn (af7 this))
  ·exact (f3 b hb).2.2.2.2.1 x c (bX b1)
 have Qw:∀{x:Str} {c:Addr},x∈fr→(bj X.env fr).lookup x=some c→((y,C+1)::bj X.env fr).lookup x=some c:=fun {x c} hx e=>by
  rw [am3]
  have:(x==y)=false:=by simpa using fun z:x=y=>B.ny (by rw [← z];exact hx)
  rw [this]
  exact e
 have X3:(je X (tn++fr) scope y (bj X.env fr) C s3 H3 fp).Ok:=by
  refine ⟨I3.ok.mod,B.kind,I3.ok.glob,I3.ok.blt,CS,Yf,fun x hx=> ?_,Yg,I3.ok.hd,I3.ok.frames,.inl rfl,
   fun b hb=>⟨Qm b hb,fun x c e=>nfp b hb x c e⟩,I3.bs,aaj I3.ok.BI I3.sz,fun b o e hb=> ?_,Qn,I3.stack,I3.qC⟩
  ·have hm:∃k,(x,k)∈scope.names∧k≠.local∧(k=.cell∨k=.free):=by
    have:∃k',(relabel scope X.env).names.lookup x=some k' ∧(k' =.cell∨k' =.free):=by
     rcases hx with z | z
     ·exact ⟨_,z,.inl rfl⟩
     ·exact ⟨_,z,.inr rfl⟩
    obtain ⟨k',e',h'⟩:=this
    obtain ⟨⟨n,k⟩,hn,en⟩:=aah.mp (lookup_mem e')
    dsimp only at en
    by_cases cc:(k==NameKind.free && X.env.scope.kind==.function && X.env.kindOf n==some .cell)=true
    ·rw [if_pos cc] at en
     cases en
     have kf:k=.free:=by
      rw [afB,afB] at cc
      simpa using cc.1.1
     exact ⟨k,hn,(by intro z;rw [kf] at z;cases z),.inr kf⟩
    ·rw [if_neg cc] at en
     cases en
     exact ⟨k',hn,fun z' =>by rcases h' with y | y <;> (rw [y] at z';cases z'),h'⟩
   obtain ⟨k,hk,_,h2⟩:=hm
   rcases h2 with z | z
   ·exact ⟨C+1,by show af' x ((y,C+1)::_)=_;rw [show x=y from B.only _ hk z];simp⟩
   ·have hf:=B.free _ hk z
    obtain ⟨c,ec⟩:=I3.ok.has x (B.out.at hf)
    exact ⟨c,Qw hf (fM ec hf)⟩
  ·obtain ⟨_,_,_,h1,_⟩:=f3 b hb
   rcases h1 with z | z
   ·exact I3.ok.yh b o e z
   ·exact afQ _ (afc (afc (Heap.lt_size e) I3.ok.BI) z)
 have IB:Inv (je X (tn++fr) scope y (bj X.env fr) C s3 H3 fp) [] (sB tn.length caps σ) H3 {s3 with heap:=h₁,toks:=s3.toks+([]:List (Str×Value)).length}:=by
  refine ⟨X3,rfl,I3.bare,Un.kept kept,⟨_,M8,fun i x v e1 e2 _=> ?_⟩,fun x c e=>(pS e).elim (fun z=>⟨none,by rw [z.2];exact hc₁⟩) (fun z=>I4.cell x c (bX z.2)),?_,fun x c e=>(pS e).elim (fun z=>by rw [z.2];exact I3.bt.fresh (aaj CS (agl _))) (fun z=>I3.fG x c (bX z.2)),fun p hp=>(nomatch hp),I3.bt.kept kept,?_⟩
  ·obtain ⟨hk,j,ej,es⟩:=CP e2
   have xa :fr[i - tn.length]? =some x:=by
    have z:(tn++fr)[i]? =some x:=e1
    rw [afm hk] at z
    exact z
   have hx:x∈fr:=ir xa
   have eN:X.N[j]? =some x:=by
    have z:=congrArg (fun l:List (Option Str)=>l[i - tn.length]?) B.caps
    simp only [Wp,ej,xa,af8] at z
    exact aff z
   have ko:=B.out.at hx
   obtain ⟨m,hn,hl⟩:=I4.loc
   obtain ⟨u,r,lk⟩:=hl j x v eN es (by rcases ko with z | z;exact .inr (.inl z);exact .inr (.inr z))
   refine ⟨u,r,?_⟩
   rcases lk with ⟨k1,_⟩ | ⟨_,c,ec,ic⟩
   ·rcases ko with z | z <;> (rw [z] at k1;cases k1)
   ·exact .inr ⟨B.XZ.at hx,c,Qw hx (fM ec hx),ic⟩
  ·exact I3.bt.fresh CS
  ·have:=congrArg afH B.caps
   simp only [aaa] at this
   show (sB tn.length caps σ).length=(tn++fr).length
   unfold sB
   simp [this]
 have mF:∀{H' :Hp},(∀b∈fp,H' b=none)→∀b∈fp,f_ (je X (tn++fr) scope y (bj X.env fr) C s3 H3 fp) [] H' b:=fun hn b hb=>
  ⟨hn b hb,Qm b hb,Qn b hb,.inl hb,nfp b hb,fun p hp=>(nomatch hp)⟩
 have Jq:uZ 0 h₁:=T.keep _ _ _ sN fun b _ o e=>kept b o e
 have loop:codeAny (model X.prog X.w) X.A (.compLoop (.ListComp elt [⟨target,iter,ifs,0⟩] scope pos) 0 (.ref it) (.ref D) (compEnvC scope ((y,C+1)::bj X.env fr) C X.env)) (RR (.ref D) C) {s3 with heap:=h₁,toks:=s3.toks+([]:List (Str×Value)).length}:=by
  refine jb (fun n s' =>∃i σ' ys H',Inv (je X (tn++fr) scope y (bj X.env fr) C s3 H3 fp) [] σ' H' s' ∧uZ i s'.heap∧(∀b∈fp,H' b=none)∧W i n σ' ys H') ?_ m0 ⟨0,_,[],H3,IB,Jq,fun b hb=>(f3 b hb).1,w0⟩
  rintro n s5 ⟨i,σ5,ys,H5,I5,IY,MG,w5⟩
  rcases turn i n σ5 ys H5 w5 with ⟨stop,qn⟩ | ⟨go,step⟩
  ·refine wpAny_mono (T.done (je X (tn++fr) scope y (bj X.env fr) C s3 H3 fp) rfl rfl rfl hc i [] s5 σ5 H5 (fun _ _=>False) I5 (mF MG) IY stop) (fun r s6 ⟨hr,I6⟩=> ?_) fun _ _ z=>z
   subst hr
   obtain ⟨m,hn,_⟩:=I6.loc
   have J6:Inv X pins σ H5 s6:=I3.KS (ch:=fp) I6.os I6.base I6.bt I6.bare fun b hb=>⟨(f3 b hb).2.2.2.1,(f3 b hb).2.1,(f3 b hb).2.2.2.2.1,(f3 b hb).2.2.2.2.2⟩
   exact fin D C H5 s6 m J6 hn (I3.jI CS I6.free) qn
  ·refine wpAny_mono (T.item (je X (tn++fr) scope y (bj X.env fr) C s3 H3 fp) rfl rfl rfl hc i [] s5 σ5 H5 (fun _ _=>False) I5 (mF MG) IY go) (fun r s6 ⟨u,hr,h6⟩=> ?_) fun _ _ z=>z
   subst hr
   refine wpAny_mono h6 (fun _ s7 ⟨x,H7,I7,r7,y7,M9,Jr⟩=> ?_) fun _ _ z=>z
   have X4 :=I7.pinned (mF Jr) (T.obj _ _ M9)
   have held:∀{σ' :L2.St} {H' :Hp} {s' :Shared},Inv (je X (tn++fr) scope y (bj X.env fr) C s3 H3 fp) ([]++jJ fp s7.heap) σ' H' s' →uZ (i+1) s'.heap∧∀b∈fp,H' b=none:=fun {σ' H' s'} I' =>by
    refine ⟨T.keep _ _ _ M9 fun b hb o e=>(I'.pin (b,o) (afl _ (afl _ (dQ hb e)))).1,fun b hb=> ?_⟩
    obtain ⟨o,e,d⟩:=T.obj _ _ M9 b hb
    exact (I'.pin (b,o) (afl _ (afl _ (dQ hb e)))).2.1
   refine wpAny_mono (hg C s3 H3 fp _ s7 σ5 H7 x u _ X4 r7 (step x H7 y7)) (fun _ s8 ⟨σ8,H8,I8,q8⟩=> ?_) fun _ _ z=>z
   refine wpAny_mono (ht C s3 H3 fp _ s8 σ8 H8 _ I8 q8) (fun ok s9 ⟨H9,I9,q9⟩=> ?_) fun _ _ z=>z
   cases ok with
   | false=>
    rw [if_neg ad_] at q9
    obtain ⟨m',hm,w9⟩:=q9
    rw [if_neg ad_]
    obtain ⟨a,b⟩:=held I9
    exact ⟨m',hm,i+1,σ8,ys,H9,I9.eW,a,b,w9⟩
   | true=>
    rw [if_pos rfl] at q9
    rw [if_pos rfl]
    refine wpAny_mono (he C s3 H3 fp _ s9 σ8 H9 _ I9 q9) (fun v OY ⟨y9,Wv,X5,X6,X7,hl,m',hm,X8⟩=> ?_) fun _ _ z=>z
    refine wpAny_mono (dz (X:=je X (tn++fr) scope y (bj X.env fr) C s3 H3 fp) _ OY σ8 Wv (.ref D) [y9] (.ref D) [v] (fun _ H' =>W (i+1) m' σ8 (ys++[y9]) H') X5 rfl (.cons X6 .nil) ⟨D,ys,y9,rfl,rfl,X7,hl,X8⟩) (fun _ X9 ⟨z,Ww,Qo,_,X_⟩=> ?_) fun _ _ z=>z
    obtain ⟨a,b⟩:=held Qo
    exact ⟨m',hm,i+1,σ8,ys++[y9],Ww,Qo.eW,a,b,X_⟩
 exact codeAny_compStart_list loop (T.self X.A 0 _ _ _ Jq loop)
end
end Ty
namespace L2
open PySem PySem.Spec PyProof.Rows
section
variable {κ:Type}[DecidableEq κ]
def bO (kvs:List (κ×V))(k:κ):Option V:=(kvs.find? fun kv=>decide (kv.1=k)).map (·.2)
def putK (kvs:List (κ×V))(k:κ)(v:V):List (κ×V):=
 if (kvs.any fun kv=>decide (kv.1=k))=true then kvs.map (fun kv=>if kv.1=k then (kv.1,v) else kv) else kvs++[(k,v)]
def eL (kvs:List (κ×V))(k:κ):List (κ×V):=kvs.filter fun kv=>decide (kv.1≠k)
theorem bH {p:κ×V}{r:List (κ×V)}{k:κ}(e:p.1=k):bO (p::r) k=some p.2:=by simp [bO,agq,e]
theorem bo {p:κ×V}{r:List (κ×V)}{k:κ}(e:¬ p.1=k):bO (p::r) k=bO r k:=by simp [bO,agq,e]
theorem fP (k:κ):∀kvs:List (κ×V),(kvs.any fun kv=>decide (kv.1=k))=(bO kvs k).isSome
 | []=>rfl
 | p::r=>by
  rw [ah_]
  by_cases e:p.1=k
  ·simp only [bH e,decide_eq_true e,Bool.true_or,anM]
  ·rw [bo e,decide_eq_false e,Bool.false_or];exact fP k r
theorem tJ (k j:κ)(y:V):∀kvs:List (κ×V),bO (kvs.map fun kv=>if kv.1=k then (kv.1,y) else kv) j=(bO kvs j).map fun x=>if j=k then y else x
 | []=>rfl
 | p::r=>by
  have ih:=tJ k j y r
  rw [ac_]
  by_cases h:p.1=k
  ·rw [if_pos h]
   by_cases e:p.1=j
   ·rw [bH (p:=(p.1,y)) e,bH e,af8,if_pos (e.symm.trans h)]
   ·rw [bo (p:=(p.1,y)) e,bo e,ih]
  ·rw [if_neg h]
   by_cases e:p.1=j
   ·rw [bH (p:=p) e,bH e,af8,if_neg (fun z=>h (e.trans z))]
   ·rw [bo (p:=p) e,bo e,ih]
theorem pT (k j:κ)(y:V):∀kvs:List (κ×V),bO kvs k=none→bO (kvs++[(k,y)]) j=if j=k then some y else bO kvs j
 | [],_=>by
  by_cases e:k=j
  ·rw [if_pos e.symm];exact bH (p:=(k,y)) e
  ·rw [if_neg (fun z=>e z.symm)];exact bo (p:=(k,y)) e
 | p::r,hn=>by
  rw [am4]
  have hk:¬ p.1=k:=fun z=>by rw [bH z] at hn;cases hn
  rw [bo hk] at hn
  have ih:=pT k j y r hn
  by_cases e:p.1=j
  ·rw [bH e,bH e,if_neg (fun z=>hk (e.trans z))]
  ·rw [bo e,bo e,ih]
theorem DC (kvs:List (κ×V))(k j:κ)(y:V):bO (putK kvs k y) j=if j=k then some y else bO kvs j:=by
 unfold putK
 by_cases a:(kvs.any fun kv=>decide (kv.1=k))=true
 ·rw [if_pos a,tJ]
  rw [fP] at a
  by_cases e:j=k
  ·obtain ⟨x,hx⟩:=ag_.mp a
   rw [if_pos e,e,hx,af8,if_pos rfl]
  ·rw [if_neg e]
   cases bO kvs j with
   | none=>rfl
   | some x=>rw [af8,if_neg e]
 ·rw [if_neg a]
  refine pT k j y kvs ?_
  rw [fP] at a
  cases q:bO kvs k with
  | none=>rfl
  | some x=>rw [q] at a;exact (a rfl).elim
theorem gM (kvs:List (κ×V))(k:κ)(v:V):(putK kvs k v).length≤kvs.length+1:=by
 unfold putK
 split
 ·rw [aaa];omega
 ·rw [afi,afu,aoc];omega
theorem dE {kvs:List (κ×V)}{k:κ}(v:V)(h:bO kvs k=none):putK kvs k v=kvs++[(k,v)]:=by
 unfold putK
 rw [fP,h]
 exact if_neg (by decide)
theorem f7.fQ {o:Option V}{u:Option Value}(r:f7 o u):o.isSome=u.isSome:=by
 cases o with
 | none=>cases u with
  | none=>rfl
  | some _=>exact (show False from r).elim
 | some _=>cases u with
  | none=>exact (show False from r).elim
  | some _=>rfl
theorem f7.getD {o:Option V}{u:Option Value}{d:V}{d' :Value}(r:f7 o u)(rd:RelV d d'):RelV (o.getD d) (u.getD d'):=by
 cases o with
 | none=>cases u with
  | none=>exact rd
  | some _=>exact (show False from r).elim
 | some _=>cases u with
  | none=>exact (show False from r).elim
  | some _=>exact r
theorem KV.val {kvs:List (κ×V)}{vs:List (κ×Value)}(r:KV kvs vs)(k:κ):f7 (bO kvs k) (valueAt vs k):=by
 unfold KV at r
 induction r with
 | nil=>exact True.intro
 | @cons p q ps qs h t ih=>
  obtain ⟨h1,h2⟩:=h
  by_cases e:p.1=k
  ·have e' :q.1=k:=h1.symm.trans e
   have b:valueAt (q::qs) k=some q.2:=by simp [valueAt,agq,e']
   rw [bH e,b];exact h2
  ·have e' :¬ q.1=k:=fun z=>e (h1.trans z)
   have b:valueAt (q::qs) k=valueAt qs k:=by simp [valueAt,agq,e']
   rw [bo e,b];exact ih
theorem KV.any {kvs:List (κ×V)}{vs:List (κ×Value)}(r:KV kvs vs)(k:κ):(kvs.any fun kv=>decide (kv.1=k))=vs.any fun kv=>decide (kv.1=k):=by
 unfold KV at r
 induction r with
 | nil=>rfl
 | cons h t ih=>rw [ah_,ah_,ih,h.1]
theorem KV.Nf {kvs:List (κ×V)}{vs:List (κ×Value)}(r:KV kvs vs)(k:κ){y:V}{u:Value}(ry:RelV y u):
  KV (kvs.map fun kv=>if kv.1=k then (kv.1,y) else kv) (vs.map fun kv=>if kv.1=k then (kv.1,u) else kv):=by
 unfold KV at r ⊢
 induction r with
 | nil=>exact .nil
 | @cons p q ps qs h t ih=>
  rw [ac_,ac_]
  refine .cons ?_ ih
  obtain ⟨h1,h2⟩:=h
  by_cases e:p.1=k
  ·rw [if_pos e,if_pos (h1.symm.trans e)];exact ⟨h1,ry⟩
  ·rw [if_neg e,if_neg (fun z=>e (h1.trans z))];exact ⟨h1,h2⟩
theorem KV.put {kvs:List (κ×V)}{vs:List (κ×Value)}(r:KV kvs vs)(k:κ){y:V}{u:Value}(ry:RelV y u):KV (putK kvs k y) (stored vs k u):=by
 unfold putK stored
 rw [r.any k]
 by_cases e:(vs.any fun kv=>decide (kv.1=k))=true
 ·rw [if_pos e,if_pos e];exact r.Nf k ry
 ·rw [if_neg e,if_neg e];exact Paired.snoc r ⟨rfl,ry⟩
theorem KV.drop {kvs:List (κ×V)}{vs:List (κ×Value)}(r:KV kvs vs)(k:κ):KV (eL kvs k) (without vs k):=by
 unfold KV at r ⊢
 unfold eL without
 induction r with
 | nil=>exact .nil
 | @cons p q ps qs h t ih=>
  obtain ⟨h1,h2⟩:=h
  rw [afY,afY]
  by_cases e:p.1=k
  ·have a:¬ decide (p.1≠k)=true:=by simp [e]
   have b:¬ decide (q.1≠k)=true:=by simp [h1.symm.trans e]
   rw [if_neg a,if_neg b];exact ih
  ·have e' :¬ q.1=k:=fun z=>e (h1.trans z)
   have a:decide (p.1≠k)=true:=by simp [e]
   have b:decide (q.1≠k)=true:=by simp [e']
   rw [if_pos a,if_pos b];exact .cons ⟨h1,h2⟩ ih
theorem KV.length {kvs:List (κ×V)}{vs:List (κ×Value)}(r:KV kvs vs):kvs.length=vs.length:=Paired.length r
theorem DE (kvs:List (κ×V))(k:κ):(eL kvs k).length≤kvs.length:=afX _ _
end
theorem kr {P:Program}{w:World}{k:Key}{u:Value}(r:RelV (kV k) u):(aZ P w).is k u=true:=by
 cases k with
 | inl i=>obtain ⟨t,e⟩:=(show ∃t,u=Value.int i t from r);subst e;exact sH P w i t
 | inr x=>obtain ⟨t,e⟩:=(show ∃t,u=Value.str x t from r);subst e;exact sI P w x t
theorem pU {P:Program}{w:World}:∀{ks:List Key} {us:List Value},Vals (ks.map kV) us→ItemsAre (aZ P w) ks us
 | [],_,r=>by rw [anc] at r;cases r;exact .nil
 | k::ks,_,r=>by
  rw [ac_] at r
  cases r with
  | cons h t=>exact .cons (kr h) (pU t)
abbrev KT (H:Hp):List (List Key×V)→List (List Key×Addr×Value)→Prop:=Paired fun p q=>p.1=q.1∧H q.2.1=some (.tup (p.1.map kV))∧RelV p.2 q.2.2
theorem KT.val {H:Hp}{kvs:List (List Key×V)}{xs:List (List Key×Addr×Value)}(r:KT H kvs xs)(k:List Key):f7 (bO kvs k) ((atKey xs k).map (·.2)):=by
 induction r with
 | nil=>exact True.intro
 | @cons p q ps qs h t ih=>
  obtain ⟨h1,_,h2⟩:=h
  by_cases e:p.1=k
  ·have e' :q.1=k:=h1.symm.trans e
   have b:atKey (q::qs) k=some q.2:=by simp [atKey,agq,e']
   rw [bH e,b];exact h2
  ·have e' :¬ q.1=k:=fun z=>e (h1.trans z)
   have b:atKey (q::qs) k=atKey qs k:=by simp [atKey,agq,e']
   rw [bo e,b];exact ih
theorem KT.Nf {H:Hp}{kvs:List (List Key×V)}{xs:List (List Key×Addr×Value)}(r:KT H kvs xs)(k:List Key){y:V}{u:Value}(ry:RelV y u):
  KT H (kvs.map fun kv=>if kv.1=k then (kv.1,y) else kv) (xs.map (putAt k u)):=by
 induction r with
 | nil=>exact .nil
 | @cons p q ps qs h t ih=>
  rw [ac_,ac_]
  refine .cons ?_ ih
  obtain ⟨h1,h2,h3⟩:=h
  unfold putAt
  by_cases e:p.1=k
  ·rw [if_pos e,if_pos (h1.symm.trans e)];exact ⟨h1,h2,ry⟩
  ·rw [if_neg e,if_neg (fun z=>e (h1.trans z))];exact ⟨h1,h2,h3⟩
theorem KT.put {H:Hp}{kvs:List (List Key×V)}{xs:List (List Key×Addr×Value)}(r:KT H kvs xs)(k:List Key){b:Addr}{y:V}{u:Value}(hb:H b=some (.tup (k.map kV)))(ry:RelV y u):
  KT H (putK kvs k y) (storedH xs k b u):=by
 have e:(kvs.any fun kv=>decide (kv.1=k))=(atKey xs k).isSome:=by
  rw [fP,(r.val k).fQ,anl]
 unfold putK storedH
 rw [e]
 by_cases q:(atKey xs k).isSome=true
 ·rw [if_pos q,if_pos q];exact r.Nf k ry
 ·rw [if_neg q,if_neg q];exact Paired.snoc r ⟨rfl,hb,ry⟩
theorem KT.keeps {H H' :Hp}{kvs:List (List Key×V)}{xs:List (List Key×Addr×Value)}(r:KT H kvs xs)(ht:∀b ys,H b=some (.tup ys)→H' b=some (.tup ys)):KT H' kvs xs:=
 Paired.bq r fun _ _ z=>⟨z.1,ht _ _ z.2.1,z.2.2⟩
section
variable {P:Program}{w:World}{H:Hp}{h:Heap}{a:Addr}
theorem Li {u:HO}(ok:h8 P w H h)(e:Rd H a u):bS P w H h a u:=e.ok ok
theorem iu {kvs:List (Key×V)}(ok:h8 P w H h)(e:Rd H a (.dK kvs)):kvs.length≤sizeLine∧(a==sysModules)=false∧∃vs,KV kvs vs∧h.DictOf (aZ P w) a vs:=
 show bS P w H h a (.dK kvs) from Li ok e
theorem pV {kvs:List (Key×V)}(ok:h8 P w H h)(e:H a=some (.dK kvs)):kvs.length≤sizeLine∧(a==sysModules)=false∧∃vs,KV kvs vs∧h.DictOf (aZ P w) a vs:=iu ok (.inl e)
theorem jP {ks:List Key}(ok:h8 P w H h)(e:H a=some (.tup (ks.map kV))):(tupleKind (aZ P w)).is h ks a:=by
 obtain ⟨_,its,r,o,h1,h2,n,h3⟩:=(show bS P w H h a (.tup (ks.map kV)) from ok a _ e)
 exact ⟨o,its.toArray,n,h1,h2,h3,by simpa using pU r⟩
theorem ku {kvs:List (List Key×V)}(ok:h8 P w H h)(e:Rd H a (.dT kvs)):kvs.length≤sizeLine∧(a==sysModules)=false∧
  ∃xs,KT H kvs xs∧h.DictOfH (tupleKind (aZ P w)) a xs:=by
 obtain ⟨z,y,xs,r,o,es,ep,h1,h2,h3,h4,h5⟩:=(show bS P w H h a (.dT kvs) from Li ok e)
 refine ⟨z,y,xs,r,o,es,ep,h1,h2,h3,h4,fun x hx=> ?_,h5⟩
 have all:∀{l:List (List Key×V)} {m:List (List Key×Addr×Value)},KT H l m→∀x∈m,(tupleKind (aZ P w)).is h x.1 x.2.1:=by
  intro l m q
  induction q with
  | nil=>intro x hx;exact nomatch hx
  | @cons p q ps qs hq t ih=>
   intro x hx
   rcases afo.mp hx with e | hx
   ·subst e
    exact jP ok (by rw [← hq.1];exact hq.2.1)
   ·exact ih x hx
 exact all r x hx
theorem Lj {kvs:List (List Key×V)}(ok:h8 P w H h)(e:H a=some (.dT kvs)):kvs.length≤sizeLine∧(a==sysModules)=false∧
  ∃xs,KT H kvs xs∧h.DictOfH (tupleKind (aZ P w)) a xs:=ku ok (.inl e)
end
def di (H:Hp)(a:Addr)(y:V)(r:Option V):Prop:=
 (∃kvs k,Rd H a (.dK kvs)∧y=kV k∧r=bO kvs k)∨∃kvs k b,Rd H a (.dT kvs)∧y=.ref b∧H b=some (.tup (k.map kV))∧r=bO kvs k
def iL (H:Hp)(a:Addr)(y v:V)(H' :Hp):Prop:=
 (∃kvs k,H a=some (.dK kvs)∧y=kV k∧kvs.length < sizeLine∧H' =upd H a (.dK (putK kvs k v)))∨
 ∃kvs k b,H a=some (.dT kvs)∧y=.ref b∧H b=some (.tup (k.map kV))∧kvs.length < sizeLine∧H' =upd H a (.dT (putK kvs k v))
theorem di.k {H:Hp}{a:Addr}{kvs:List (Key×V)}{k:Key}(e:H a=some (.dK kvs)):di H a (kV k) (bO kvs k):=.inl ⟨kvs,k,.inl e,rfl,rfl⟩
theorem iL.k {H:Hp}{a:Addr}{kvs:List (Key×V)}{k:Key}{v:V}(e:H a=some (.dK kvs))(hl:kvs.length < sizeLine):iL H a (kV k) v (upd H a (.dK (putK kvs k v))):=.inl ⟨kvs,k,e,rfl,hl,rfl⟩
theorem iL.t {H:Hp}{a b:Addr}{kvs:List (List Key×V)}{k:List Key}{v:V}(e:H a=some (.dT kvs))(eb:H b=some (.tup (k.map kV)))(hl:kvs.length < sizeLine):
  iL H a (.ref b) v (upd H a (.dT (putK kvs k v))):=.inr ⟨kvs,k,b,e,rfl,eb,hl,rfl⟩
section
variable {X:Cx}{pins:List (Addr×Obj)}{σ:St}{H:Hp}{s:Shared}{a:Addr}{y v:V}{u r:Value}{o:Option V}{A:Around}{E:Value→Shared→Prop}
theorem Inv.big (I:Inv X pins σ H s):sysModules < s.heap.objs.size:=by
 have h:mainGlobals < s.heap.objs.size:=(I.mod.glob.keeps I.bk).lt
 exact Nat.lt_trans (by decide) h
theorem yF {Q:Value→Shared→Prop}(hu:A.units+1 < cLine)(I:Inv X pins σ H s)(g:di H a y (some v))(ry:RelV y u)(h:∀w' s',Inv X pins σ H s' →RelV v w' →Q w' s'):
  wpAny (model X.prog X.w) A (getItem (.ref a) u) Q E s:=by
 rcases g with ⟨kvs,k,e,ey,l⟩ | ⟨kvs,k,b,e,ey,eb,l⟩
 ·subst ey
  obtain ⟨z,hd,vs,rel,dd⟩:=iu I.bt e
  obtain ⟨w',hw,lj⟩:=f7.some_of (v:=v) (o:=valueAt vs k) (by rw [l];exact rel.val k)
  exact wpAny_getItem_of (kr ry) dd.mapOf hw (h w' _ (I.tok _) lj)
 ·subst ey
  cases (show u=Value.ref b from ry)
  obtain ⟨z,hd,xs,rel,dd⟩:=ku I.bt e
  obtain ⟨w',hw,lj⟩:=f7.some_of (v:=v) (o:=(atKey xs k).map (·.2)) (by rw [l];exact rel.val k)
  obtain ⟨p,hp,Qx⟩:=ae9.mp hw
  refine wpAny_getItem_heap (tupleKind_room_in1 hu) (jP I.bt eb) dd hp ?_
  rw [Qx]
  exact h w' _ (I.tok _) lj
theorem Yh {Q:Value→Shared→Prop}(hu:A.units+1 < cLine)(I:Inv X pins σ H s)(g:di H a y o)(ry:RelV y u)(h:∀s',Inv X pins σ H s' →Q (.bool o.isSome) s'):
  wpAny (model X.prog X.w) A (compareOp .In u (.ref a)) Q E s:=by
 rcases g with ⟨kvs,k,e,ey,l⟩ | ⟨kvs,k,b,e,ey,eb,l⟩
 ·subst ey
  obtain ⟨z,hd,vs,rel,dd⟩:=iu I.bt e
  refine wpAny_in_of (kr ry) hd dd.mapOf ?_
  rw [← (rel.val k).fQ, ← l]
  exact h _ (I.tok _)
 ·subst ey
  cases (show u=Value.ref b from ry)
  obtain ⟨z,hd,xs,rel,dd⟩:=ku I.bt e
  refine wpAny_in_heap (tupleKind_room_in1 hu) (jP I.bt eb) hd dd ?_
  have q:=(rel.val k).fQ
  rw [anl] at q
  rw [← q, ← l]
  exact h _ (I.tok _)
theorem Jv {Q:Value→Shared→Prop}(hu:A.units+1 < cLine)(I:Inv X pins σ H s)(g:di H a y o)(ry:RelV y u)(h:∀s',Inv X pins σ H s' →Q (.bool (!o.isSome)) s'):
  wpAny (model X.prog X.w) A (compareOp .NotIn u (.ref a)) Q E s:=by
 rcases g with ⟨kvs,k,e,ey,l⟩ | ⟨kvs,k,b,e,ey,eb,l⟩
 ·subst ey
  obtain ⟨z,hd,vs,rel,dd⟩:=iu I.bt e
  refine wpAny_notIn_of (kr ry) hd dd.mapOf ?_
  rw [← (rel.val k).fQ, ← l]
  exact h _ (I.tok _)
 ·subst ey
  cases (show u=Value.ref b from ry)
  obtain ⟨z,hd,xs,rel,dd⟩:=ku I.bt e
  refine wpAny_notIn_heap (tupleKind_room_in1 hu) (jP I.bt eb) hd dd ?_
  have q:=(rel.val k).fQ
  rw [anl] at q
  rw [← q, ← l]
  exact h _ (I.tok _)
theorem jf {h' :Heap}{t' :Nat}{ob:HO}(I:Inv X pins σ H s)(mu:Pu (H a))(hs:Heap.SameBut a s.heap h')(he:∃q,h'.get? a=some q)(new:bS X.prog X.w (upd H a ob) h' a ob):
  Inv X pins σ (upd H a ob) {s with heap:=h',toks:=t' }:=
 I.write (x:=a) (e:=a) mu (.inl rfl) (fun b q hb z=>(hs.2 b hb).trans z) he new
theorem qW {P:Program}{w:World}{H' :Hp}{h' :Heap}{kvs:List (Key×V)}{vs:List (Key×Value)}(z:kvs.length≤sizeLine)(hd:(a==sysModules)=false)(rel:KV kvs vs)(dd:h'.DictOf (aZ P w) a vs):
  bS P w H' h' a (.dK kvs):=⟨z,hd,vs,rel,dd⟩
theorem yG {H' :Hp}{Q:Unit→Shared→Prop}(hu:A.units+1 < cLine)(I:Inv X pins σ H s)(g:iL H a y v H')(ry:RelV y u)(rv:RelV v r)(h:∀s',Inv X pins σ H' s' →Q () s'):
  wpAny (model X.prog X.w) A (setItem (.ref a) u r) Q E s:=by
 rcases g with ⟨kvs,k,e,ey,l,eH⟩ | ⟨kvs,k,b,e,ey,eb,l,eH⟩
 ·subst ey eH
  obtain ⟨z,hd,vs,rel,dd⟩:=pV I.bt e
  have hz:vs.length≤sizeLine:=by rw [← rel.length];exact z
  have hl:(putK kvs k v).length≤sizeLine:=by have:=gM kvs k v;omega
  refine wpAny_setItem_pairs (hsz:=hz) (kr ry) dd fun h' yH hs=>h _ ?_
  have he:∃q,h'.get? a=some q:=let ⟨q,_,_,hq,_⟩:=yH;⟨q,hq⟩
  exact jf I (by rw [e];exact True.intro) hs he (qW hl hd (rel.put k rv) yH)
 ·subst ey eH
  cases (show u=Value.ref b from ry)
  obtain ⟨z,hd,xs,rel,dd⟩:=Lj I.bt e
  have hz:xs.length≤sizeLine:=by rw [← Paired.length rel];exact z
  have hl:(putK kvs k v).length≤sizeLine:=by have:=gM kvs k v;omega
  refine wpAny_setItem_heap (hsz:=hz) (tupleKind_room_in1 hu) (jP I.bt eb) dd fun h' yH hs=>h _ ?_
  obtain ⟨q,es,ep,hq,h2,h3,h4,_,h5⟩:=yH
  refine jf I (by rw [e];exact True.intro) hs ⟨q,hq⟩ ⟨hl,hd,_,(rel.put k eb rv).keeps fun c ys ec=> ?_,q,es,ep,hq,h2,h3,h4,h5⟩
  rw [ao (Pq ec e (fun z=>nomatch z))]
  exact ec
end
section
variable {X:Cx}{pins:List (Addr×Obj)}{σ:St}{H:Hp}{s:Shared}{a:Addr}{kvs:List (Key×V)}{k:Key}{u:Value}{A:Around}{E:Value→Shared→Prop}
theorem Qy {v:V}{more:List Value}{Q:Value→Shared→Prop}(I:Inv X pins σ H s)(e:H a=some (.dK kvs))(ry:RelV (kV k) u)(l:bO kvs k=some v)(hm:more=[]∨∃x,more=[x])
  (h:∀w' s',Inv X pins σ (upd H a (.dK (eL kvs k))) s' →RelV v w' →Q w' s'):wpAny (model X.prog X.w) A (call (.builtin "dict.pop") (.ref a::u::more)) Q E s:=by
 obtain ⟨z,hd,vs,rel,dd⟩:=pV I.bt e
 obtain ⟨w',hw,lj⟩:=f7.some_of (v:=v) (o:=valueAt vs k) (by rw [← l];exact rel.val k)
 have hp:(keyPart u).isSome=true:=by
  cases k with
  | inl i=>obtain ⟨t,q⟩:=(show ∃t,u=Value.int i t from ry);subst q;rfl
  | inr x=>obtain ⟨t,q⟩:=(show ∃t,u=Value.str x t from ry);subst q;rfl
 have ha:argsOk "dict.pop" ⟨.ref a::u::more,[]⟩:=by
  rcases hm with q | ⟨x,q⟩
  ·subst q;exact PySem.F.args_dict_pop_2 _ _
  ·subst q;exact PySem.F.args_dict_pop_3 _ _ _
 refine call_meetsIn PySem.F.slot_dict_pop dd.typeIs PySem.F.entry_dict_pop ha (meets_dict_pop_there (aZ X.prog X.w) a (kr ry) more hm hp)
  ⟨vs,w',dd,by rw [← rel.length];exact z,hw,fun h' yH hs=>h w' _ ?_ lj⟩
 have he:∃q,h'.get? a=some q:=let ⟨q,_,_,hq,_⟩:=yH;⟨q,hq⟩
 exact jf I (by rw [e];exact True.intro) hs he (qW (aaj (DE kvs k) z) hd (rel.drop k) yH)
theorem Jw {Q:Value→Shared→Prop}(I:Inv X pins σ H s)(e:H a=some (.dK kvs))(h:∀s',Inv X pins σ (upd H a (.dK [])) s' →Q .none s'):wpAny (model X.prog X.w) A (call (.builtin "dict.clear") [.ref a]) Q E s:=by
 obtain ⟨z,hd,vs,rel,dd⟩:=pV I.bt e
 refine call_meetsIn PySem.F.slot_dict_clear dd.typeIs PySem.F.entry_dict_clear (PySem.F.args_dict_clear_1 _) (meets_dict_clear (aZ X.prog X.w) a) ⟨vs,dd,by rw [← rel.length];exact z,fun h' yH hs=>h _ ?_⟩
 have he:∃q,h'.get? a=some q:=let ⟨q,_,_,hq,_⟩:=yH;⟨q,hq⟩
 exact jf (t' :=s.toks) I (by rw [e];exact True.intro) hs he (qW (aft _) hd .nil yH)
theorem Qz {Q:Value→Shared→Prop}(I:Inv X pins σ H s)(e:Rd H a (.dK kvs))(h:∀t s',Inv X pins σ H s' →Q (.int kvs.length t) s'):wpAny (model X.prog X.w) A (call (.builtin "len") [.ref a]) Q E s:=by
 obtain ⟨z,hd,vs,rel,dd⟩:=iu I.bt e
 refine call_len_dict hd dd (by rw [← rel.length];rw [sizeLine_eq] at z;omega) ?_
 rw [← rel.length]
 exact h _ _ (I.tok _)
end
def QC (i:Expr):Prop:=∀ov iv,subscripted i false ov iv=operate [ov,iv] (getItem ov iv)
theorem Jx {prog:Program}{w:World}{A:Around}{E:Value→Shared→Prop}{s:Shared}{env:Env}{value slice:Expr}{pos:Pos}{T id:String}{Q:Value→Shared→Prop}
  (hl:typeLookup (.type T) "__getitem__"=pure (some (.builtin id))) (hs:QC slice)
  (h:wpAny (model prog w) A (eval value env) (fun o s₁=>wpAny (model prog w) A (eval slice env) (fun i s₂=>s₂.TypeIs o T∧wpAny (model prog w) A (getItem o i) Q E s₂) E s₁) E s):
  wpAny (model prog w) A (eval (.Subscript value slice pos) env) Q E s:=by
 refine Subscript_ (wpAny_mono h (fun o s₁ h₁=>wpAny_mono h₁ (fun i s₂ h₂=> ?_) fun _ _ x=>x) fun _ _ x=>x)
 obtain ⟨hT,h₂⟩:=h₂
 unfold subscriptTail
 refine wpAny_bind ?_
 rw [getitemInPython_of_ne hT.not_modules]
 refine wpAny_bind (wpAny_specialOf hT hl ?_)
 have fin:wpAny (model prog w) A (subscripted slice false o i) (fun r s₃=>wpAny (model prog w) A (letTemporaryGo value o r >>=fun _=>pure r) Q E s₃) E s₂:=by
  rw [hs o i]
  exact wpAny_operating (wpAny_mono h₂ (fun r s₃ h₃=>wpAny_bind (wpAny_letTemporaryGo (wpAny_pure h₃))) fun _ _ x=>x)
 first
  | exact wpAny_pure (wpAny_bind fin)
  | exact wpAny_bind (wpAny_pure (wpAny_bind fin))
  | exact wpAny_bind fin
theorem tK {X:Cx}{pins:List (Addr×Obj)}{σ:St}{H:Hp}{s:Shared}{a:Addr}{y:V}{o:Option V}(I:Inv X pins σ H s)(g:di H a y o):s.TypeIs (.ref a) "dict":=by
 rcases g with ⟨kvs,k,e,_,_⟩ | ⟨kvs,k,b,e,_,_,_⟩
 ·obtain ⟨_,_,vs,_,dd⟩:=iu I.bt e
  exact dd.typeIs
 ·obtain ⟨_,_,xs,_,dd⟩:=ku I.bt e
  exact dd.typeIs
inductive DF (Q:VK)(x:V)(y:V)(H2:Hp):Prop where
 | mk (a v:_) (_:x=.ref a) (_:di H2 a y (some v)) (_:Q v H2):DF Q x y H2
def QD (td ty:TE):TE:=fun σ H Q=>td σ H fun x H1=>ty σ H1 fun y H2=>DF Q x y H2
inductive Lk (Q:VK)(y:V)(x:V)(H2:Hp):Prop where
 | mk (a o:_) (_:x=.ref a) (_:di H2 a y o) (_:Q (.bl o.isSome) H2):Lk Q y x H2
def Yi (ty td:TE):TE:=fun σ H Q=>ty σ H fun y H1=>td σ H1 fun x H2=>Lk Q y x H2
inductive tL (Q:VK)(y:V)(x:V)(H2:Hp):Prop where
 | mk (a o:_) (_:x=.ref a) (_:di H2 a y o) (_:Q (.bl (!o.isSome)) H2):tL Q y x H2
def Jy (ty td:TE):TE:=fun σ H Q=>ty σ H fun y H1=>td σ H1 fun x H2=>tL Q y x H2
inductive DG (D:Ends)(σ:L2.St)(v:V)(x:V)(y:V)(H3:Hp):Prop where
 | mk (a H4:_) (_:x=.ref a) (_:iL H3 a y v H4) (_:D.nx σ H4):DG D σ v x y H3
def QE (td ty tv:TE):TS:=fun D σ H=>tv σ H fun v H1=>td σ H1 fun x H2=>ty σ H2 fun y H3=>DG D σ v x y H3
section
variable {X:Cx}{o i e value:Expr}{pos pos' qG:Pos}{td ty tv:TE}
theorem cF (hu:X.A.units+1 < cLine)(ho:PE X o td)(hi:PE X i ty)(hs:QC i):PE X (.Subscript o i pos) (QD td ty):=by
 intro pins s σ H Q I h
 refine Jx PySem.F.slot_dict_getitem.lookup hs (bV (ho pins s σ H _ I h) fun u s1 ⟨x,H1,I1,rx,q1⟩=>bV (hi pins s1 σ H1 _ I1 q1) fun iv s2 ⟨y,H2,I2,ry,a,v,ex,g,q2⟩=> ?_)
 subst ex
 obtain rfl:u=Value.ref a:=rx
 exact ⟨tK I2 g,yF hu I2 g ry fun w' s3 I3 lj =>⟨v,H2,I3,lj,q2⟩⟩
theorem qX (hu:X.A.units+1 < cLine)(hi:PE X i ty)(ho:PE X o td):PC X .In i o (Yi ty td):=by
 intro pins s σ H Q I h
 refine bV (hi pins s σ H _ I h) fun iv s1 ⟨y,H1,I1,ry,q1⟩=>bV (ho pins s1 σ H1 _ I1 q1) fun u s2 ⟨x,H2,I2,rx,a,ov,ex,g,q2⟩=> ?_
 subst ex
 obtain rfl:u=Value.ref a:=rx
 exact Yh hu I2 g ry fun s3 I3=>⟨.bl ov.isSome,H2,I3,rfl,q2⟩
theorem fS (hu:X.A.units+1 < cLine)(hi:PE X i ty)(ho:PE X o td):PC X .NotIn i o (Jy ty td):=by
 intro pins s σ H Q I h
 refine bV (hi pins s σ H _ I h) fun iv s1 ⟨y,H1,I1,ry,q1⟩=>bV (ho pins s1 σ H1 _ I1 q1) fun u s2 ⟨x,H2,I2,rx,a,ov,ex,g,q2⟩=> ?_
 subst ex
 obtain rfl:u=Value.ref a:=rx
 exact Jv hu I2 g ry fun s3 I3=>⟨.bl (!ov.isSome),H2,I3,rfl,q2⟩
theorem fo (hu:X.A.units+1 < cLine)(ho:PE X o td)(hi:PE X i ty)(hv:PE X value tv)(hs:swapsWith value (some (.Subscript o i pos')) pos.line X.env=pure false):
  PS X (.Assign [.Subscript o i pos'] value pos) (QE td ty tv):=by
 intro pins s σ H D I h
 refine wpAny_Assign_Subscript (bV (hv pins s σ H _ I h) fun r s1 ⟨v,H1,I1,rv,q1⟩=>bV (ho pins s1 σ H1 _ I1 q1) fun u s2 ⟨x,H2,I2,rx,q2⟩=>bV (hi pins s2 σ H2 _ I2 q2) fun iv s3 ⟨y,H3,I3,ry,a,H4,ex,g,q3⟩=> ?_) hs
 subst ex
 obtain rfl:u=Value.ref a:=rx
 exact yG hu I3 g ry rv fun s4 I4=>⟨σ,H4,I4,q3⟩
end
theorem tN {P:Program}{w:World}{H:Hp}(h:Heap)(hb:sysModules < h.objs.size):bS P w H (h.push {cls:=.type "dict",data:=.dict #[]}) h.objs.size (.dK []):=
 ⟨aft _,beq_eq_false_iff_ne.mpr (afk (afn hb)),[],.nil,Heap.DictOf.new h⟩
theorem DH {P:Program}{w:World}{H:Hp}(h:Heap)(hb:sysModules < h.objs.size):bS P w H (h.push {cls:=.type "dict",data:=.dict #[]}) h.objs.size (.dT []):=
 ⟨aft _,beq_eq_false_iff_ne.mpr (afk (afn hb)),[],.nil,_, #[],0,Heap.get?_push_size _ rfl,⟨rfl,rfl,rfl⟩,rfl,rfl,anI⟩
def Ng:TE:=fun _ H Q=>∀p,H p=none→Q (.ref p) (upd H p (.dK []))
def Nh:TE:=fun _ H Q=>∀p,H p=none→Q (.ref p) (upd H p (.dT []))
section
variable {X:Cx}{pos:Pos}
theorem fT:PE X (.Dict [] [] pos) Ng:=fun pins s σ H Q I h=>
 wpAny_Dict_empty ⟨.ref s.heap.objs.size,_,I.laid (a:=s.heap.objs.size) (o:=.dK []) (t' :=s.toks) (fun _ _ q=>Heap.get?_push_of_some _ q) (aai _) (tN s.heap I.big),rfl,h _ (I.bt.fresh (aai _))⟩
theorem DI:PE X (.Dict [] [] pos) Nh:=fun pins s σ H Q I h=>
 wpAny_Dict_empty ⟨.ref s.heap.objs.size,_,I.laid (a:=s.heap.objs.size) (o:=.dT []) (t' :=s.toks) (fun _ _ q=>Heap.get?_push_of_some _ q) (aai _) (DH s.heap I.big),rfl,h _ (I.bt.fresh (aai _))⟩
end
def vp:List (TE×TE)→St→Hp→(List (V×V)→Hp→Prop)→Prop
 | [],_,H,Q=>Q [] H
 | (tk,tv)::r,σ,H,Q=>tk σ H fun x H1=>tv σ H1 fun y H2=>vp r σ H2 fun ps H3=>Q ((x,y)::ps) H3
abbrev VV:List (V×V)→List (Value×Value)→Prop:=Paired fun p q=>RelV p.1 q.1∧RelV p.2 q.2
def Wx (X:Cx)(pos:Pos)(keys:List (Option Expr))(values:List Expr)(Jz:List (TE×TE)):Prop:=
 ∀(pins:List (Addr×Obj)) (s:Shared) (σ:St) (H:Hp) (Q:List (V×V)→Hp→Prop),Inv X pins σ H s→vp Jz σ H Q→
  wpAny (model X.prog X.w) X.A (evalPairs (pairTrees keys values X.env pos)) (fun vs s' =>∃ps H',Inv X pins σ H' s' ∧VV ps vs∧Q ps H') X.xe s
theorem xi {X:Cx}{pos:Pos}:Wx X pos [] [] []:=fun pins s σ H Q I h=>pairTrees_nil_walk ⟨[],H,I,.nil,h⟩
theorem mI {X:Cx}{pos:Pos}{k v:Expr}{ks:List (Option Expr)}{vs:List Expr}{tk tv:TE}{Jz:List (TE×TE)}(hk:PE X k tk)(hv:PE X v tv)(hr:Wx X pos ks vs Jz):
  Wx X pos (some k::ks) (v::vs) ((tk,tv)::Jz):=fun pins s σ H Q I h=>
 pairTrees_cons_walk (bV (hk pins s σ H _ I h) fun u s1 ⟨x,H1,I1,rx,q1⟩=>bV (hv pins s1 σ H1 _ I1 q1) fun w2 s2 ⟨y,H2,I2,ry,q2⟩=>
  bV (hr pins s2 σ H2 _ I2 q2) fun ws s3 ⟨ps,H3,I3,rel,q3⟩=>⟨(x,y)::ps,H3,I3,.cons ⟨rx,ry⟩ rel,q3⟩)
def iM (kvs more:List (Key×V)):List (Key×V):=more.foldl (fun acc kv=>putK acc kv.1 kv.2) kvs
theorem KV.merge:∀{more:List (Key×V)} {rs:List (Key×Value)} {kvs:List (Key×V)} {vs:List (Key×Value)},KV more rs→KV kvs vs→KV (iM kvs more) (merged vs rs):=by
 intro more rs kvs vs r
 unfold KV at r
 induction r generalizing kvs vs with
 | nil=>intro q;exact q
 | @cons p q ps qs h t ih=>
  intro r0
  have e:KV (putK kvs p.1 p.2) (stored vs q.1 q.2):=by
   have:=r0.put p.1 h.2
   rw [← h.1];exact this
  exact ih e
theorem iw:∀(more kvs:List (Key×V)),(iM kvs more).length≤kvs.length+more.length
 | [],kvs=>by show kvs.length≤kvs.length+0;omega
 | p::r,kvs=>by
  have h1:=iw r (putK kvs p.1 p.2)
  have h2:=gM kvs p.1 p.2
  show (iM (putK kvs p.1 p.2) r).length≤_
  rw [afu];omega
theorem mJ {P:Program}{w:World}:∀{kvs:List (Key×V)} {ws:List (Value×Value)},VV (kvs.map fun kv=>(kV kv.1,kv.2)) ws→∃rs,Carries (aZ P w) ws rs∧KV kvs rs
 | [],_,r=>by rw [anc] at r;cases r;exact ⟨[],True.intro,.nil⟩
 | p::kvs,_,r=>by
  rw [ac_] at r
  cases r with
  | @cons a b as bs h t=>
   obtain ⟨rs,c,q⟩:=mJ (P:=P) (w:=w) t
   obtain ⟨b1,b2⟩:=b
   exact ⟨(p.1,b2)::rs,⟨kr h.1,rfl,c⟩,.cons ⟨rfl,h.2⟩ q⟩
def QF (Jz:List (TE×TE)):TE:=fun σ H Q=>∀p,H p=none→vp Jz σ (upd H p (.dK [])) fun ps H2=>H2 p=some (.dK [])∧∃kvs:List (Key×V),ps=kvs.map (fun kv=>(kV kv.1,kv.2))∧kvs.length≤15∧Q (.ref p) (upd H2 p (.dK (iM [] kvs)))
theorem xj {X:Cx}{pos:Pos}{keys:List (Option Expr)}{values:List Expr}{Jz:List (TE×TE)}(h:Wx X pos keys values Jz)(CD:keys.all (·.isSome)=true)(hl:keys.length=values.length)(h0:keys≠[])
  (h15:keys.length≤15):PE X (.Dict keys values pos) (QF Jz):=by
 intro pins s σ H Q I q
 have hn:=I.bt.fresh (aai s.heap.objs.size)
 have I1:=I.laid (a:=s.heap.objs.size) (o:=.dK []) (h' :=s.heap.push {cls:=.type "dict",data:=.dict #[]}) (t' :=s.toks) (fun _ _ q=>Heap.get?_push_of_some _ q) (aai _) (tN s.heap I.big)
 refine wpAny_Dict_walk (knd:=aZ X.prog X.w) CD hl h0 h15 (bV (h pins _ σ _ _ I1 (q _ hn)) fun ws s2 ⟨ps,H2,I2,rel,e,kvs,ep,lk,q2⟩=> ?_)
 subst ep
 obtain ⟨rs,c,rk⟩:=mJ (P:=X.prog) (w:=X.w) rel
 obtain ⟨z,hd,vs0,r0,dd⟩:=pV I2.bt e
 cases r0
 refine ⟨rs,c,dd,fun h' yH hs=>⟨.ref s.heap.objs.size,_,?_,rfl,q2⟩⟩
 have hz:(iM [] kvs).length≤sizeLine:=by
  have h1:=iw kvs []
  rw [aoc] at h1
  rw [sizeLine_eq];omega
 have he:∃q,h'.get? s.heap.objs.size=some q:=let ⟨q,_,_,hq,_⟩:=yH;⟨q,hq⟩
 exact jf I2 (by rw [e];exact True.intro) hs he (qW hz hd (rk.merge .nil) yH)
structure M1 (X:Cx)(o:Expr)(m:Str)(apos:Pos)(e:Expr)(b6:Pos):Prop where
 base:attributeBase o m X.env (eval o X.env)=eval o X.env
 Yj:((backTo b6 (starEach [e] X.env)).all (fun x=> !x.1) && (backToKw b6 (keywordEach [] X.env)).all (fun x=>x.1.isSome)
  && decide (([e]:List Expr).length+([]:List Keyword).length+(if ([]:List Keyword).isEmpty then 0 else 1) < 30))=true
 line:(apos.endLine==b6.line)=true
 trees:backTo b6 (starEach [e] X.env)=[(false,eval e X.env)]
structure M2 (X:Cx)(o:Expr)(m:Str)(apos:Pos)(e f:Expr)(b6:Pos):Prop where
 base:attributeBase o m X.env (eval o X.env)=eval o X.env
 Yj:((backTo b6 (starEach [e,f] X.env)).all (fun x=> !x.1) && (backToKw b6 (keywordEach [] X.env)).all (fun x=>x.1.isSome)
  && decide (([e,f]:List Expr).length+([]:List Keyword).length+(if ([]:List Keyword).isEmpty then 0 else 1) < 30))=true
 line:(apos.endLine==b6.line)=true
 trees:backTo b6 (starEach [e,f] X.env)=[(false,eval e X.env),(false,eval f X.env)]
def Yk (H:Hp)(a:Addr):Prop:=(∃kvs,Rd H a (.dK kvs))∨∃kvs,Rd H a (.dT kvs)
theorem mK {X:Cx}{pins:List (Addr×Obj)}{σ:St}{H:Hp}{s:Shared}{a:Addr}(I:Inv X pins σ H s)(d:Yk H a):
  s.TypeIs (.ref a) "dict"∧(∀b,Value.ref a=.ref b→∃ob,s.heap.get? b=some ob∧ob.dict=none)∧(a==sysModules)=false:=by
 rcases d with ⟨kvs,e⟩ | ⟨kvs,e⟩
 ·obtain ⟨_,hd,vs,_,dd⟩:=iu I.bt e
  refine ⟨dd.typeIs,fun b q=> ?_,hd⟩
  cases q
  obtain ⟨ob,_,_,h1,h2,_⟩:=dd
  exact ⟨ob,h1,h2.2.1⟩
 ·obtain ⟨_,hd,xs,_,dd⟩:=ku I.bt e
  refine ⟨dd.typeIs,fun b q=> ?_,hd⟩
  cases q
  obtain ⟨ob,_,_,h1,h2,_⟩:=dd
  exact ⟨ob,h1,h2.2.1⟩
section
variable {X:Cx}{pins:List (Addr×Obj)}{σ:St}{H:Hp}{s:Shared}{a:Addr}{y d:V}{u r:Value}{o:Option V}{A:Around}{E:Value→Shared→Prop}
theorem Ni {Q:Value→Shared→Prop}(hu:A.units+1 < cLine)(I:Inv X pins σ H s)(g:di H a y o)(ry:RelV y u)(rd:RelV d r)(h:∀w' s',Inv X pins σ H s' →RelV (o.getD d) w' →Q w' s'):
  wpAny (model X.prog X.w) A (call (.builtin "dict.get") [.ref a,u,r]) Q E s:=by
 rcases g with ⟨kvs,k,e,ey,l⟩ | ⟨kvs,k,b,e,ey,eb,l⟩
 ·subst ey
  obtain ⟨z,hd,vs,rel,dd⟩:=iu I.bt e
  refine call_meetsIn PySem.F.slot_dict_get dd.typeIs PySem.F.entry_dict_get (PySem.F.args_dict_get_3 _ _ _) (meets_dict_get_default (aZ X.prog X.w) a (kr ry) hd r) ⟨_,dd.mapOf,h _ _ (I.tok _) ?_⟩
  rw [l]
  exact (rel.val k).getD rd
 ·subst ey
  cases (show u=Value.ref b from ry)
  obtain ⟨z,hd,xs,rel,dd⟩:=ku I.bt e
  refine call_meetsIn PySem.F.slot_dict_get dd.typeIs PySem.F.entry_dict_get (PySem.F.args_dict_get_3 _ _ _) (meetsH_dict_get_default (tupleKind (aZ X.prog X.w)) a b hd r) ⟨tupleKind_room_in1 hu,k,xs,jP I.bt eb,dd,h _ _ (I.tok _) ?_⟩
  rw [l]
  exact (rel.val k).getD rd
end
def Nj (td ty tx:TE):TE:=fun σ H Q=>td σ H fun x H1=>∃a,x=.ref a∧Yk H1 a∧ty σ H1 fun y H2=>tx σ H2 fun z H3=>∃o,di H3 a y o∧Q (o.getD z) H3
def Nk (td ty:TE):TE:=fun σ H Q=>td σ H fun x H1=>∃a,x=.ref a∧Yk H1 a∧ty σ H1 fun y H2=>∃kvs k v,H2 a=some (.dK kvs)∧y=kV k∧bO kvs k=some v∧Q v (upd H2 a (.dK (eL kvs k)))
section
variable {X:Cx}{o e f:Expr}{apos b6:Pos}{td ty tx:TE}
theorem DJ (hu:X.A.units+1 < cLine)(ho:PE X o td)(he:PE X e ty)(hf:PE X f tx)(m:M2 X o "get" apos e f b6):PE X (.Call (.Attribute o "get" apos) [e,f] [] b6) (Nj td ty tx):=by
 intro pins s σ H Q I h
 refine wpAny_Call_method m.base m.Yj m.line PySem.F.plainAttrs_dict PySem.F.slot_dict_get PySem.F.type_dict_get (bV (ho pins s σ H _ I h) fun u s1 ⟨x,H1,I1,rx,a,ex,d,q1⟩=> ?_)
 subst ex
 obtain rfl:u=Value.ref a:=rx
 obtain ⟨t1,t2,_⟩:=mK I1 d
 refine ⟨t1,t2,?_⟩
 rw [m.trees]
 refine Calls.callWith_builtin rfl (Calls.evalArgs_plain (Calls.spliced_cons (bV (he pins s1 σ H1 _ I1 q1) fun iv s2 ⟨y,H2,I2,ry,q2⟩=>
  Calls.spliced_cons (bV (hf pins s2 σ H2 _ I2 q2) fun fv s3 ⟨z,H3,I3,rz,ov,g,q3⟩=>Calls.spliced_nil ?_))))
 exact Ni hu I3 g ry rz fun w' s4 I4 lj =>⟨_,H3,I4,lj,q3⟩
theorem tO (ho:PE X o td)(he:PE X e ty)(m:M1 X o "pop" apos e b6):PE X (.Call (.Attribute o "pop" apos) [e] [] b6) (Nk td ty):=by
 intro pins s σ H Q I h
 refine wpAny_Call_method m.base m.Yj m.line PySem.F.plainAttrs_dict PySem.F.slot_dict_pop PySem.F.type_dict_pop (bV (ho pins s σ H _ I h) fun u s1 ⟨x,H1,I1,rx,a,ex,d,q1⟩=> ?_)
 subst ex
 obtain rfl:u=Value.ref a:=rx
 obtain ⟨t1,t2,_⟩:=mK I1 d
 refine ⟨t1,t2,?_⟩
 rw [m.trees]
 refine Calls.callWith_builtin rfl (Calls.evalArgs_plain (Calls.spliced_cons (bV (he pins s1 σ H1 _ I1 q1) fun iv s2 ⟨y,H2,I2,ry,kvs,k,v,ea,ey,l,q2⟩=>Calls.spliced_nil ?_)))
 subst ey
 exact Qy I2 ea ry l (.inl rfl) fun w' s3 I3 lj =>⟨v,_,I3,lj,q2⟩
end
section
variable {X:Cx}{pins:List (Addr×Obj)}{σ:St}{H:Hp}{s:Shared}{a:Addr}{kvs:List (Key×V)}{A:Around}{E:Value→Shared→Prop}
end
section
variable {X:Cx}{pins:List (Addr×Obj)}{σ:St}{H:Hp}{s:Shared}{a:Addr}{y:V}{u:Value}{A:Around}{E:Value→Shared→Prop}
end
end L2
set_option maxHeartbeats 4000000
namespace Ty
open PySem PySem.Spec PyProof.Rows L2
section
variable {X:Cx}
theorem JA {pins:List (Addr×Obj)}{σ:L2.St}{H:Hp}{s:Shared}(I:Inv X pins σ H s):s.heap.NoSeer:=I.ok.mod.seer.keeps I.bk
theorem b8.py {k:Nat}{A:Around}(r:b8 k A)(h:32≤k):A.depth+Builtin.pylongFrames < recursionLimit:=by
 have:=r.dp
 have:Builtin.pylongFrames=100:=rfl
 omega
theorem fe {env:Env}{l:List Env}(ht:X.prog.given.tree=none)(hd:X.A.depth+Builtin.pylongFrames < recursionLimit)(IV:X.stack=env::l)(h1:env.scope.isGenerator=false)(h2:env.scope.isCoroutine=false)(h3:env.builtins=builtinsNs)(h4:env.globals=mainGlobals):
  iV X (binaryOp .FloorDiv) (rI M5 fun i j=>.int (i.fdiv j)):=by
 intro pins s σ H x y v u Q I rx ry h
 obtain ⟨i,j,rfl,rfl,hc,q⟩:=h
 obtain ⟨t,rfl⟩:=rx
 obtain ⟨t',rfl⟩:=ry
 exact floordiv_int hc ⟨.int _,H,I.tok _,⟨_,rfl⟩,q⟩ (.inr (PylongRoom.of I.nolimit hd (SeerAt.of (JA I) ht (by rw [I.ok.frames,IV]) h1 h2 h3 h4)))
end
end Ty
set_option maxHeartbeats 4000000
namespace Ty
open PySem PySem.Spec PyProof.Rows L2
section
variable {prog:Program}{w:World}{A:Around}{E:Value→Shared→Prop}{s:Shared}{KK:Type}[DecidableEq KK]{knd:KeyKind prog w KK}
theorem yI {d:Addr}{kvs:List (KK×Value)}{Q:Bool→Shared→Prop}(hm:s.heap.DictOf knd d kvs)(h:Q false s):wpAny (model prog w) A (Builtin.List.listLengthHint (.ref d)) Q E s:=by
 unfold Builtin.List.listLengthHint
 refine wpAny_bind (wpAny_specialOf (name:=Str.ofString "__len__") hm.typeIs F.slot_dict_len.lookup ?_)
 generalize hid:("dict.__len__":String)=id0
 wp_delta
 rw [show splitId id0=some ("dict","__len__") from by subst hid;decide+kernel]
 subst hid
 refine wpAny_bind (wpAny_isInstance (T:="dict") (b:=true) hm.typeIs (by rw [isSubtype_type];kernel_rfl) ?_)
 refine wpAny_ite_split (fun Yl=>absurd Yl (by decide)) (fun _=> ?_)
 refine wpAny_ite_split (fun _=> ?_) (fun Yl=>absurd (by decide+kernel) Yl)
 refine wpAny_bind (wpAny_typeOf (T:="dict") hm.typeIs ?_)
 exact wpAny_pure h
theorem tP {R:Result→Shared→Prop}{d:Addr}{kvs:List (KK×Value)}{ep:Nat}(hh:A.handled=none)(hd:(d==sysModules)=false)(hm:s.heap.DictAt knd d kvs ep)(hlen:kvs.length≤sizeLine)(S:Addr)(res:Value)(c₀:Nat)(hS:s.heap.get? S=some {cls:=.type "list",data:=.seq #[] c₀})
  (hR:∀h' tk eO c',(∀b o,b≠S→s.heap.get? b=some o→h'.get? b=some o)→h'.get? S=some {cls:=.type "list",dict:=none,data:=.seq eO c',slots:= #[]}→
   ItemsOf (fun i v=>∃k x,kvs[i]? =some (k,x)∧knd.is k v=true) eO kvs.length→R (.ok (.ret res)) {s with heap:=h',toks:=tk}):
  wpAny (model prog w) A.in1 (Builtin.List.listExtendWith (.ref S) (.ref d) res)
   (fun fin s' =>match fin with | .done f=>R (.ok f) s' | .again c' =>c'.quiet=true∧codeAny (model prog w) A c' R s') (fun e s' =>R (.error e) s') s:=by
 obtain ⟨od,es,oF,oz,dF,hk0,hp0,hn0⟩:=id hm
 have hT:s.TypeIs (.ref d) "dict":=hm.dictOf.typeIs
 have O0:S≠d:=fun e=>by
  rw [e] at hS
  rw [hS] at oF
  cases oF
  cases dF
 have hdI:d≠s.heap.objs.size:=afn (Heap.lt_size oF)
 have Ym:S≠s.heap.objs.size:=afn (Heap.lt_size hS)
 have hSf:S∉[s.heap.objs.size,d]:=fun hm=>by
  rcases afo.mp hm with z | z
  ·exact Ym z
  ·exact O0 (ae_.mp z)
 have W:=(Walks.dictKeys (knd:=knd) (A:=A.in1) hh s.heap.objs.size d hdI kvs ep).toS
 unfold Builtin.List.listExtendWith
 refine wpAny_bind (wpAny_typeOf (T:="dict") hT ?_)
 have h1:Builtin.List.listSameRef (.ref S) (.ref d)=false:=by simp [Builtin.List.listSameRef,O0]
 have h2:(Value.type "dict"==Value.type "list")=false:=by decide
 have h3:(Value.type "dict"==Value.type "tuple")=false:=by decide
 simp only [h1,h2,h3,anL,agb,if_false]
 refine wpAny_bind (wpAny_pyIter_dict hd hm ?_)
 have JB:(s.heap.push {cls:=.type "dict_keyiterator",data:=.fields #[.ref d,.int 0 0,.int kvs.length 0,.int ep 0]}).DictAt knd d kvs ep:=hm.at' fun o e=>Heap.get?_push_of_some _ e
 refine wpAny_bind (wpAny_holding (yI (knd:=knd) JB.dictOf ?_))
 have QG:=Heap.get?_push_of_some {cls:=.type "dict_keyiterator",data:=.fields #[.ref d,.int 0 0,.int kvs.length 0,.int ep 0]} hS
 have it₁:(s.heap.push {cls:=.type "dict_keyiterator",data:=.fields #[.ref d,.int 0 0,.int kvs.length 0,.int ep 0]}).IsKeyIter s.heap.objs.size d 0 kvs.length ep:=⟨_,Heap.get?_push_size _ rfl,rfl,rfl⟩
 have key:∀(h:Heap) (c₁ tk:Nat),h.IsKeyIter s.heap.objs.size d 0 kvs.length ep→h.DictAt knd d kvs ep→(∀b o,b≠S→s.heap.get? b=some o→h.get? b=some o)→
   h.get? S=some {cls:=.type "list",data:=.seq #[] c₁}→codeAny (model prog w) A (.builtin "list.extend.loop" ⟨[.ref S,.ref s.heap.objs.size,res],[]⟩) R {s with heap:=h,toks:=tk}:=by
  intro h c₁ tk hit hdm hk QG
  refine codeAny_extend_loopS W hlen S hSf res kvs.length 0 _ #[] c₁ rfl (aft _) ⟨hit,hdm⟩ QG (ItemsOf.nil _) fun s' eO c' hm' QH ia=> ?_
  rw [Moved.eq_with hm']
  refine hR s'.heap s'.toks eO c' (fun b o hb e=>hm'.heap b o (fun yJ=> ?_) (hk b o hb e)) QH ia
  rcases afo.mp yJ with e' | yJ
  ·exact hb e'
  ·exact absurd (Heap.lt_size e) (by rw [ae_.mp yJ];exact afQ _)
 refine wpAny_ite_split (fun _=> ?_) (fun _=>wpAny_pure ⟨plainId_quiet F.plain_extend_loop _,key _ c₀ _ it₁ JB (fun b o _ e=>Heap.get?_push_of_some _ e) QG⟩)
 refine wpAny_bind (wpAny_rule ?_)
 refine wpAny_bind ?_
 show wpAny _ _ (updateSeq S (·.push .none) >>=fun _=>updateSeq S (·.pop)) _ _ _
 refine wpAny_bind (wpAny_updateSeq QG rfl ?_)
 have Wy:=Heap.get?_update_self (Obj.mapSeq (·.push Value.none)) QG rfl
 refine wpAny_updateSeq (hz:=by seq_fits) Wy rfl ?_
 have hS₃:=Heap.get?_update_self (Obj.mapSeq (·.pop)) Wy rfl
 refine wpAny_pure ⟨plainId_quiet F.plain_extend_loop _,key _ _ _ (it₁.at fun o e=> ?_) (JB.at' fun o e=> ?_) (fun b o hb e=> ?_) hS₃⟩
 ·exact (Heap.get?_update_other _ _ Ym).trans ((Heap.get?_update_other _ _ Ym).trans e)
 ·exact (Heap.get?_update_other _ _ O0).trans ((Heap.get?_update_other _ _ O0).trans e)
 ·exact (Heap.get?_update_other _ _ (afk hb)).trans ((Heap.get?_update_other _ _ (afk hb)).trans (Heap.get?_push_of_some _ e))
theorem mL {R:Result→Shared→Prop}{d:Addr}{kvs:List (KK×Value)}{ep:Nat}(hh:A.handled=none)(hd:(d==sysModules)=false)(hm:s.heap.DictAt knd d kvs ep)(hlen:kvs.length≤sizeLine)(S:Addr)(hS:s.heap.get? S=some {cls:=.type "list",data:=.seq #[]})
  (hR:∀h' tk eO c',(∀b o,b≠S→s.heap.get? b=some o→h'.get? b=some o)→h'.get? S=some {cls:=.type "list",dict:=none,data:=.seq eO c',slots:= #[]}→
   ItemsOf (fun i v=>∃k x,kvs[i]? =some (k,x)∧knd.is k v=true) eO kvs.length→R (.ok (.ret .none)) {s with heap:=h',toks:=tk}):
  wpAny (model prog w) A.in1 (Builtin.«list.__init__» ⟨[.ref S,.ref d],[]⟩)
   (fun fin s' =>match fin with | .done f=>R (.ok f) s' | .again c' =>c'.quiet=true∧codeAny (model prog w) A c' R s') (fun e s' =>R (.error e) s') s:=by
 obtain ⟨od,es,oF,oz,dF,hk0,hp0,hn0⟩:=id hm
 have O0:S≠d:=fun e=>by
  rw [e] at hS
  rw [hS] at oF
  cases oF
  cases dF
 show wpAny _ _ (do let old ← Builtin.List.listItems (.ref S);Builtin.List.listUpdate (.ref S) (fun _=> #[]);letGo old.toList.reverse;Builtin.List.listExtendWith (.ref S) (.ref d) .none) _ _ s
 refine wpAny_bind ?_
 unfold Builtin.List.listItems
 refine wpAny_bind (wpAny_seqItems hS rfl (wpAny_pure ?_))
 show wpAny _ _ (updateSeq S (fun _=> #[]) >>=fun _=>letGo (#[]:Array Value).toList.reverse >>=fun _=>Builtin.List.listExtendWith (.ref S) (.ref d) .none) _ _ s
 refine wpAny_bind (wpAny_updateSeq hS rfl ?_)
 have Wy:=Heap.get?_update_self (Obj.mapSeq (fun _=>(#[]:Array Value))) hS rfl
 have oth:∀b o,b≠S→s.heap.get? b=some o→(s.heap.update S (Obj.mapSeq (fun _=>(#[]:Array Value)))).get? b=some o:=
  fun b o hb e=>(Heap.get?_update_other _ _ (afk hb)).trans e
 refine wpAny_bind (wpAny_letGo ?_)
 refine tP hh hd (hm.at' fun o e=>oth d o (afk O0) e) hlen S .none _ Wy fun h' tk eO c' hk QH ia=> ?_
 exact hR h' tk eO c' (fun b o hb e=>hk b o hb (oth b o hb e)) QH ia
theorem mM {Q:Value→Shared→Prop}{d:Addr}{kvs:List (KK×Value)}{ep:Nat}(hh:A.handled=none)(hd:(d==sysModules)=false)(hm:s.heap.DictAt knd d kvs ep)(hlen:kvs.length≤sizeLine)
  (hQ:∀h' tk eO c',(∀b o,s.heap.get? b=some o→h'.get? b=some o)→
   h'.get? s.heap.objs.size=some {cls:=.type "list",dict:=none,data:=.seq eO c',slots:= #[]}→ItemsOf (fun i v=>∃k x,kvs[i]? =some (k,x)∧knd.is k v=true) eO kvs.length→Q (.ref s.heap.objs.size) {s with heap:=h',toks:=tk}):
  wpAny (model prog w) A (call (.type "list") [.ref d]) Q E s:=by
 refine callType_codes (Q₁:=fun obj s₁=>obj=.ref s.heap.objs.size∧s₁={s with heap:=s.heap.push {cls:=.type "list",data:=.seq #[]}}) F.called_list (F.typeCall_list_1 _) F.entry_list_init
  (code_list_new _ ⟨rfl,rfl⟩) fun obj s₁ h₁=> ?_
 obtain ⟨rfl,rfl⟩:=h₁
 have hS:(s.heap.push {cls:=.type "list",data:=.seq #[]}).get? s.heap.objs.size=some {cls:=.type "list",data:=.seq #[]}:=Heap.get?_push_size _ rfl
 refine ⟨⟨_,hS,rfl⟩,F.args_list_init_2 _ _,mL (A:=A.in1) hh hd (hm.at' fun o e=>Heap.get?_push_of_some _ e) hlen _ hS fun h' tk eO c' hk QH ia=> ?_⟩
 exact ⟨rfl,hQ h' tk eO c' (fun b o e=>hk b o (afn (Heap.lt_size e)) (Heap.get?_push_of_some _ e)) QH ia⟩
end
theorem aA {α β:Type}{F:α→β→Prop}:∀{l₁:List α} {l₂:List β} {i:Nat} {a:α},Paired F l₁ l₂→l₁[i]? =some a→∃b,l₂[i]? =some b∧F a b
 | _,_,_,_,.nil,h=>by simp at h
 | _,_,0,_,.cons r _,h=>by
  cases h
  exact ⟨_,rfl,r⟩
 | _,_,i+1,_,.cons _ t,h=>by
  obtain ⟨b,e,f⟩:=aA (i:=i) t (by simpa using h)
  exact ⟨b,by simpa using e,f⟩
theorem bN {α β:Type}{F:α→β→Prop}:∀{l₁:List α} {l₂:List β},l₁.length=l₂.length→(∀(i:Nat) (a:α) (b:β),l₁[i]? =some a→l₂[i]? =some b→F a b)→Paired F l₁ l₂
 | [],[],_,_=>.nil
 | a::l₁,b::l₂,h,f=>.cons (f 0 a b rfl rfl) (bN (by simpa using h) fun i a b e1 e2=>f (i+1) a b (by simpa using e1) (by simpa using e2))
 | [],_::_,h,_=>by simp at h
 | _::_,[],h,_=>by simp at h
theorem qY {P:Program}{w:World}{k:Key}{u:Value}(h:(aZ P w).is k u=true):RelV (kV k) u:=by
 rcases bR h with ⟨i,t,rfl,rfl⟩ | ⟨x,t,rfl,rfl⟩
 ·exact ⟨t,rfl⟩
 ·exact ⟨t,rfl⟩
section
variable {X:Cx}
inductive DK (xs:List V)(H:Hp)(Q:VK):Prop where
 | mk (p:Addr) (kvs:List (Key×V)) (_:xs=[.ref p]) (_:Rd H p (.dK kvs)) (_:∀l,H l=none→Q (.ref l) (upd H l (.lst (kvs.map fun kv=>kV kv.1)))):DK xs H Q
theorem gc (hc:X.calm=true):eK X (.type "list") DK:=by
 intro pins s σ H xs us Q I r h
 obtain ⟨p,kvs,rfl,hq,q⟩:=h
 obtain ⟨u,rfl,r1⟩:=vals1 r
 cases r1
 obtain ⟨z,hd,vs,rel,o,es,ep,ho,hx,dF,hk,hp,hn⟩:=iu I.bt hq
 have hl:=rel.length
 refine mM (knd:=aZ X.prog X.w) (I.ok.hd hc) hd ⟨o,es,ho,hx,dF,hk,hp,hn⟩ (by omega) fun h' tk eO c' kk hS ia=> ?_
 have IQ :=I.bt.fresh (aai s.heap.objs.size)
 have rv:Vals (kvs.map fun kv=>kV kv.1) eO.toList:=bN (by have:=ia.1;simp;omega) fun i a b e1 e2=>by
  rw [Wp] at e1
  obtain ⟨kv,ek,rfl⟩:=ae9.mp e1
  obtain ⟨q',eq,e3,_⟩:=aA rel ek
  obtain ⟨k,x,e4,e5⟩:=ia.2 i b (by simpa using e2)
  rw [eq] at e4
  cases e4
  rw [e3]
  exact qY e5
 have I2:Inv X pins σ (upd H s.heap.objs.size (.lst (kvs.map fun kv=>kV kv.1))) {s with heap:=h',toks:=tk}:=I.laid (t' :=tk) kk (aai _) ⟨by rw [aaa];exact z,eO.toList,c',rv,by simpa using hS⟩
 exact ⟨.ref _,_,I2,rfl,q _ IQ⟩
theorem Inv.freeze {pins:List (Addr×Obj)}{σ:L2.St}{H:Hp}{s:Shared}{d:Addr}{kvs:List (Key×V)}{o:Obj}(I:Inv X pins σ H s)(e:H d=some (.dK kvs))(ho:s.heap.get? d=some o):Inv X pins σ (upd H d (.cf o (.dK kvs))) s:=by
 have nx:∀b u,H b=some u→b≠d→upd H d (.cf o (.dK kvs)) b=some u:=fun b u q n=>by rw [ao n];exact q
 refine I.step (g' :=s.gens) (t' :=s.toks) (d' :=s.drawn) (ch:=[]) (fun _ z=>nomatch z) (fun b o _ _ _ e _=>e) (fun b o _ _ _ e _=>⟨o.slots,e⟩) (fun b o _ _ n=>by rw [ao (fun z=>by rw [z,e] at n;cases n)];exact n) (fun b o _ e=>⟨o,e⟩)
  (fun b xs q=>nx b _ q fun z=>by rw [z,e] at q;cases q) (fun b o' u q=>nx b _ q fun z=>by rw [z,e] at q;cases q) (fun b ps q=>⟨#[],by rw [nx b _ q fun z=>by rw [z,e] at q;cases q];simp⟩) (fun m hm=>hm) (fun b u q=> ?_) I.bare
 by_cases hb:b=d
 ·subst hb
  rw [ak] at q
  cases q
  exact ⟨ho,I.bt b _ e⟩
 ·rw [ao hb] at q
  exact (I.bt b u q).lZ (fun _ _ _ k=>k) (fun c k=>nx c _ k fun z=>by rw [z,e] at k;cases k) fun c xs k=>nx c _ k fun z=>by rw [z,e] at k;cases k
def O1 (d:Addr)(o:Obj)(kvs:List (Key×V)):It:=
 ⟨fun i H=>H d=some (.cf o (.dK kvs))∧i < kvs.length,
  fun i H v H' =>∃p k x,kvs[i]? =some (k,x)∧v=.ref p∧H p=none∧H' =upd H p (.tup [kV k,x]),
  fun i H=>H d=some (.cf o (.dK kvs))∧kvs.length≤i⟩
theorem DL {P:Program}{w:World}{H:Hp}{h:Heap}{d:Addr}{o:Obj}{kvs:List (Key×V)}{DM:Array DictEntry}{ep:Nat}(ok:h8 P w H h)(e:H d=some (.cf o (.dK kvs)))(he:o.data=.dict DM ep):
  (d==sysModules)=false∧∃vs,KV kvs vs∧h.DictAt (aZ P w) d vs ep∧kvs.length≤sizeLine:=by
 obtain ⟨h1,z,hd,vs,rel,o',es,sJ,ho,hx,dF,hk,hp,hn⟩:=ok d _ e
 rw [h1] at ho
 cases ho
 rw [he] at dF
 cases dF
 exact ⟨hd,vs,rel,⟨o,DM,h1,hx,he,hk,hp,hn⟩,z⟩
theorem jQ:entryFor table "dict_itemiterator.__iter__"=some Builtin.«dict_keyiterator.__iter__»:=
 entryFor_alias (id' :="dict_keyiterator.__iter__") (by kernel_rfl) (by first | rfl | decide+kernel | (unfold String.splitOn;simp+decide [String.splitOnAux])) (by decide+kernel) (by kernel_rfl)
theorem vq {P:Program}{w:World}{A:Around}{E:Value→Shared→Prop}{s:Shared}{it d:Addr}{i n ep:Nat}{ok ov:Value}{Q:Value→Shared→Prop}(st:IsItemIter s.heap it d i n ep ok ov)(h:Q (.ref it) s):wpAny (model P w) A (pyIter (.ref it)) Q E s:=by
 have hT:s.TypeIs (.ref it) "dict_itemiterator":=⟨_,st,rfl⟩
 refine wpAny_pyIter_slot hT F.slot_dict_itemiterator_iter (wpAny_call_entry F.slot_dict_itemiterator_iter hT jQ ?_ (F.args_dict_itemiterator_iter_1 _))
 show wpAny _ _ (ret (.ref it)) _ _ s
 exact wpAny_pure ⟨_,rfl,"dict_itemiterator",_,hT,F.slot_dict_itemiterator_next.lookup,h⟩
theorem mN {P:Program}{w:World}{K:Frag}{es:List Expr}{k:Nat}{pos:Pos}(d it:Addr)(o:Obj)(kvs:List (Key×V)){DM:Array DictEntry}{ep:Nat}(he:o.data=.dict DM ep)(sE:it≠d):
  Turn P w K (.Tuple es k pos) (O1 d o kvs) [it] it (fun i h=>∃ok ov,IsItemIter h it d i kvs.length ep ok ov) where
 mem:=by simp
 obj:=fun i h st b hb=>by
  have e:b=it:=by simpa using hb
  subst e
  obtain ⟨ok,ov,st⟩:=st
  exact ⟨_,st,fun v z=>by cases z⟩
 keep:=fun i h h' st k=>by
  obtain ⟨ok,ov,st⟩:=st
  exact ⟨ok,ov,k it (by simp) _ st⟩
 item:=by
  intro X hP hw hK hc i pins s σ H E I hf st hg
  subst hP hw hK
  obtain ⟨ok,ov,st⟩:=st
  obtain ⟨fz,hi⟩:=hg
  obtain ⟨hd,vs,rel,da,_⟩:=DL I.bt fz he
  have ek:kvs[i]? =some kvs[i]:=gE hi
  obtain ⟨⟨k',u⟩,ev,e1,ru⟩:=aA rel ek
  have lv:=rel.length
  rw [lv] at st
  refine wpAny_pyNext_items_item st da ev fun key h' MM out tup sz kk=> ?_
  refine ⟨_,rfl,wpAny_letOwnedTupleGo_items (s:={s with heap:=h' }) out fun HJ Yn sb=> ?_⟩
  have hsz:∀c o,s.heap.get? c=some o→s.heap.objs.size≠c:=fun c o e=>amU (Heap.lt_size e)
  have tz:s.heap.objs.size≠it:=hsz _ _ st
  have nz:∀c,c≠it→∀o,h'.get? c=some o→HJ.get? c=some o:=fun c hc o e=>(sb.2 c hc).trans e
  have hn:=I.bt.fresh (aai s.heap.objs.size)
  have xa :kvs[i].1=k' :=e1
  have I2:Inv X pins σ (upd H s.heap.objs.size (.tup [kV kvs[i].1,kvs[i].2])) {s with heap:=HJ,toks:=s.toks}:=
   Inv.qU I (fun b o hb e=>nz b (by simpa using hb) o (kk b o (by simpa using hb) e)) hf (aai _) (by show 2≤sizeLine;decide) (its:=[key,u]) (.cons (by rw [xa];exact qY MM) (.cons ru .nil)) ⟨_,nz _ tz _ tup,rfl,_,rfl⟩
  refine ⟨.ref s.heap.objs.size,_,I2,rfl,⟨s.heap.objs.size,kvs[i].1,kvs[i].2,ek,rfl,hn,rfl⟩,⟨_,_,by rw [lv];exact Yn⟩,fun b hb=> ?_⟩
  have eb:b=it:=by simpa using hb
  rw [ao (by rw [eb];exact afk tz)]
  exact (hf b hb).1
 done:=by
  intro X hP hw hK hc i pins s σ H E I hf st hg
  subst hP hw hK
  obtain ⟨ok,ov,st⟩:=st
  obtain ⟨fz,hi⟩:=hg
  obtain ⟨hd,vs,rel,da,_⟩:=DL I.bt fz he
  have lv:=rel.length
  rw [lv] at st
  obtain ⟨f0,f1,f2,f3,f4,f5⟩:=hf it (by simp)
  exact wpAny_pyNext_items_end (I.ok.hd hc) st da (aal (by omega)) fun h' eb=>⟨rfl,I.turned (t' :=s.toks) (fun b o hb e=>eb b o hb e) f0 f1 f3 f4 f5⟩
 self:=fun _ _ _ _ _ st h=>by
  obtain ⟨ok,ov,st⟩:=st
  exact vq st h
inductive xk (R:(It→Hp→Prop))(x:V)(H1:Hp):Prop where
 | mk (d kvs:_) (_:x=.ref d) (_:H1 d=some (.dK kvs)) (_:∀o,R (O1 d o kvs) (upd H1 d (.cf o (.dK kvs)))):xk R x H1
def Nl (te:TE):TI:=fun σ H R=>te σ H fun x H1=>xk R x H1
theorem mO {e:Expr}{te:TE}{apos b6:Pos}{es:List Expr}{k:Nat}{qG:Pos}(ho:PE X e te)(gI:attributeBase e "items" X.env (eval e X.env)=eval e X.env:=by rfl)(gJ:(apos.endLine==b6.line)=true:=by rfl):
  PI X (.Tuple es k qG) (.Call (.Attribute e "items" apos) [] [] b6) (Nl te):=by
 intro pins s σ H R I h
 refine wpAny_Call_method0_late gI gJ (bV (ho pins s σ H _ I h) fun v s1 ⟨x,H1,I1,r1,q1⟩=> ?_)
 obtain ⟨d,kvs,rfl,e,q⟩:=q1
 cases r1
 obtain ⟨z,hd,vs,rel,o,Ll,ep,u0,hx,dF,hk,hp,hn⟩:=pV I1.bt e
 obtain ⟨h1,h2⟩:=CA (T:="dict") I1 (show RelV (.ref d) (.ref d) from rfl) (.inr (.inr (.inl ⟨rfl,.inl ⟨kvs,e⟩⟩)))
 have da:s1.heap.DictAt (aZ X.prog X.w) d vs ep:=⟨o,Ll,u0,hx,dF,hk,hp,hn⟩
 have lv:=rel.length
 refine ⟨"dict","dict.items",F.plainAttrs_dict,F.slot_dict_items,F.type_dict_items,h1,h2,Calls.callWith_builtin rfl (PySem.evalArgs_none ?_)⟩
 refine call_meetsIn F.slot_dict_items h1 F.entry_dict_items (F.args_dict_items_1 _) (meets_dict_items (aZ X.prog X.w) d hd) ⟨⟨vs,da.dictOf⟩,?_⟩
 have I2:=Inv.freeze I1 e u0
 have QI:(s1.heap.push {cls:=.type "dict_items",data:=.fields #[.ref d]}).DictAt (aZ X.prog X.w) d vs ep:=da.at' fun o e=>Heap.get?_push_of_some _ e
 show wpAny (model X.prog X.w) X.A (pyIter (.ref s1.heap.objs.size)) _ _ _
 refine wpAny_pyIter_items (s:={s1 with heap:=s1.heap.push {cls:=.type "dict_items",data:=.fields #[.ref d]}}) ⟨_,Heap.get?_push_size _ rfl,rfl,rfl⟩ QI ?_
 have sz:(s1.heap.push {cls:=.type "dict_items",data:=.fields #[.ref d]}).objs.size=s1.heap.objs.size+1:=Heap.size_push ..
 have ne:(s1.heap.push {cls:=.type "dict_items",data:=.fields #[.ref d]}).objs.size≠d:=by
  rw [sz]
  exact afk (afn (af7 (Heap.lt_size u0)))
 have I3:Inv X pins σ (upd H1 d (.cf o (.dK kvs))) {s1 with heap:=(s1.heap.push {cls:=.type "dict_items",data:=.fields #[.ref d]}).push {cls:=.type "dict_itemiterator",data:=.fields #[.none,.bool false,.ref d,.int 0 0,.int vs.length 0,.int ep 0,.none,.none]}}:=I2.kept (t' :=s1.toks) fun b o e=>Heap.get?_push_of_some _ (Heap.get?_push_of_some _ e)
 refine ⟨_,[_],_,_,_,rfl,I3,mN d _ o kvs dF ne,⟨_,_,by rw [lv];exact Heap.get?_push_size _ rfl⟩,fun b hb=> ?_,q o⟩
 have eb:b=(s1.heap.push {cls:=.type "dict_items",data:=.fields #[.ref d]}).objs.size:=by simpa using hb
 have le:s1.heap.objs.size≤b:=by rw [eb,sz];exact agl _
 exact I2.jI le (I2.bt.fresh le)
end
end Ty
set_option maxHeartbeats 4000000
namespace Ty
def ev:List Int→(Nat→Rat)→Rat
 | [],_=>0
 | a::r,z=>(a:Rat)*z 0+ev r (fun i=>z (i+1))
theorem DN:∀(l:List Int) (z y:Nat→Rat),ev l (fun i=>z i+y i)=ev l z+ev l y
 | [],_,_=>by simp [ev];grind
 | a::r,z,y=>by
  simp only [ev]
  rw [DN r (fun i=>z (i+1)) (fun i=>y (i+1))]
  grind
theorem qZ:∀(l:List Int) (z:Nat→Rat),(∀j,((l.getD j 0:Int):Rat)*z j=0)→ev l z=0
 | [],_,_=>rfl
 | a::r,z,h=>by
  have h0:=h 0
  have ih:=qZ r (fun i=>z (i+1)) (fun j=>by simpa using h (j+1))
  simp only [ev]
  rw [ih]
  simp at h0
  grind
theorem vt:∀(l:List Int) (z:Nat→Rat) (p:Nat),(∀j,j≠p→((l.getD j 0:Int):Rat)*z j=0)→ev l z=((l.getD p 0:Int):Rat)*z p
 | [],_,_,_=>by simp [ev]
 | a::r,z,0,h=>by
  have ih:=qZ r (fun i=>z (i+1)) (fun j=>by simpa using h (j+1) (by omega))
  simp only [ev]
  rw [ih]
  simp
  grind
 | a::r,z,p+1,h=>by
  have h0:=h 0 (by omega)
  have ih:=vt r (fun i=>z (i+1)) p (fun j hj=>by simpa using h (j+1) (by omega))
  simp only [ev]
  rw [ih]
  simp at h0
  simp
  grind
theorem DO {s t u:Int}:∀{new line lead:List Int},new.length=line.length→lead.length=line.length→(∀j,s*new.getD j 0=t*line.getD j 0 - u*lead.getD j 0)→∀z:Nat→Rat,(s:Rat)*ev new z=t*ev line z - u*ev lead z
 | [],[],[],_,_,_,z=>by simp [ev];grind
 | a::new,b::line,c::lead,h1,h2,h,z=>by
  have h0:=h 0
  have ih:=DO (by simpa using h1) (by simpa using h2) (fun j=>by simpa using h (j+1)) (fun i=>z (i+1))
  simp at h0
  have h0' :(s:Rat)*a=t*b - u*c:=by exact_mod_cast h0
  simp only [ev]
  grind
 | [],_::_,_,h,_,_,_=>by simp at h
 | _::_,[],_,h,_,_,_=>by simp at h
 | _,[],_::_,_,h,_,_=>by simp at h
 | _,_::_,[],_,h,_,_=>by simp at h
def mP:List Rat→List (List Int)→Nat→Rat
 | c::y,o::os,j=>c*((o.getD j 0:Int):Rat)+mP y os j
 | _,_,_=>0
theorem tQ {s t u:Rat}(hs:s≠0)(j:Nat):∀(os:List (List Int)) (y1 y2:List Rat),y1.length=os.length→y2.length=os.length→s*mP (age (fun a b=>(t*a - u*b) / s) y1 y2) os j=t*mP y1 os j - u*mP y2 os j
 | [],[],[],_,_=>by simp [mP];grind
 | o::os,a::y1,b::y2,h1,h2=>by
  have ih:=tQ (t:=t) (u:=u) hs j os y1 y2 (by simpa using h1) (by simpa using h2)
  simp only [anw,mP]
  grind
 | [],_::_,_,h,_=>by simp at h
 | [],[],_::_,_,h=>by simp at h
 | _::_,[],_,h,_=>by simp at h
 | _::_,_::_,[],_,h=>by simp at h
theorem pZ (j:Nat):∀(os:List (List Int)),mP (afh os.length 0) os j=0
 | []=>rfl
 | o::os=>by
  simp only [afu,af_,mP]
  rw [pZ j os]
  grind
def q4 (os:List (List Int))(l:List Int):Prop:=∃y:List Rat,y.length=os.length∧∀j,((l.getD j 0:Int):Rat)=mP y os j
theorem tS:∀{os:List (List Int)} {l:List Int},l∈os→q4 os l
 | o::os,l,h=>by
  rcases afo.mp h with z | z
  ·subst z
   refine ⟨1::afh os.length 0,by simp,fun j=> ?_⟩
   simp only [mP]
   rw [pZ]
   grind
  ·obtain ⟨y,hl,hy⟩:=tS z
   refine ⟨0::y,by simp [hl],fun j=> ?_⟩
   simp only [mP]
   rw [← hy j]
   grind
theorem DP {os:List (List Int)}{new line lead:List Int}{s t u:Int}(hs:s≠0)(h:∀j,s*new.getD j 0=t*line.getD j 0 - u*lead.getD j 0)(h1:q4 os line)(h2:q4 os lead):q4 os new:=by
 obtain ⟨y1,l1,e1⟩:=h1
 obtain ⟨y2,l2,e2⟩:=h2
 have xf :=cw hs
 refine ⟨age (fun a b=>((t:Rat)*a - u*b) / s) y1 y2,by simp [l1,l2],fun j=> ?_⟩
 have k:=tQ (t:=(t:Rat)) (u:=(u:Rat)) xf j os y1 y2 l1 l2
 rw [← e1 j, ← e2 j] at k
 have h' :(s:Rat)*(new.getD j 0:Int)=t*(line.getD j 0:Int) - u*(lead.getD j 0:Int):=by exact_mod_cast h j
 rw [← h'] at k
 grind
structure oq (line lead new:List Int)(c:Nat):Prop where
 len:new.length=line.length
 DQ:new.getD c 0=0
 oG:∃s t u:Int,s≠0∧t≠0∧∀j,s*new.getD j 0=t*line.getD j 0 - u*lead.getD j 0
theorem oq.zero {line lead new:List Int}{c:Nat}(h:oq line lead new c){j:Nat}(h1:line.getD j 0=0)(h2:lead.getD j 0=0):new.getD j 0=0:=by
 obtain ⟨s,t,u,hs,_,e⟩:=h.oG
 have:=e j
 rw [h1,h2,amX,amX,Int.sub_self] at this
 rcases anA.mp this with z | z
 ·exact absurd z hs
 ·exact z
theorem oq.at {line lead new:List Int}{c:Nat}(h:oq line lead new c){j:Nat}(h2:lead.getD j 0=0)(h1:line.getD j 0≠0):new.getD j 0≠0:=by
 obtain ⟨s,t,u,hs,ht,e⟩:=h.oG
 have:=e j
 rw [h2] at this
 intro z
 rw [z,amX,amX,Int.sub_zero] at this
 rcases anA.mp this.symm with y | y
 ·exact ht y
 ·exact h1 y
theorem oq.comb {os:List (List Int)}{line lead new:List Int}{c:Nat}(h:oq line lead new c)(h1:q4 os line)(h2:q4 os lead):q4 os new:=by
 obtain ⟨s,t,u,hs,ht,e⟩:=h.oG
 exact DP hs e h1 h2
theorem oq.ev {line lead new:List Int}{c:Nat}(h:oq line lead new c)(hl:lead.length=line.length){z:Nat→Rat}(h2:Ty.ev lead z=0):Ty.ev new z=0 ↔ Ty.ev line z=0:=by
 obtain ⟨s,t,u,hs,ht,e⟩:=h.oG
 have k:=DO h.len hl e z
 rw [h2] at k
 have xf :=cw hs
 have ht' :=cw ht
 constructor
 ·intro w
  rw [w] at k
  grind
 ·intro w
  rw [w] at k
  grind
end Ty
set_option maxHeartbeats 4000000
namespace Ty
open PySem PySem.Spec PyProof.Rows L2
def QJ (K:Frag)(a:Addr):It:=
 ⟨fun i H=>∃xs x,ba K H a xs∧xs[i]? =some x,
  fun i H v H' =>∃p x,(∀xs,ba K H a xs→xs[i]? =some x)∧v=.ref p∧H p=none∧H' =upd H p (.tup [.int (i:Int),x]),
  fun i H=>∃xs,ba K H a xs∧xs.length≤i⟩
theorem yK {P:Program}{w:World}{K:Frag}{es:List Expr}{k:Nat}{pos:Pos}(a e it:Addr)(sE:e≠it):
  Turn P w K (.Tuple es k pos) (QJ K a) [e,it] e (fun i h=>(∃old,IsEnum h e it ((i:Nat):Int) old)∧h.IsListIter it a i) where
 mem:=by simp
 obj:=fun i h st c hc=>by
  obtain ⟨⟨old,he⟩,⟨o1,e1,c1,d1⟩⟩:=st
  have uY :c=e∨c=it:=by simpa using hc
  rcases uY with z | z <;> subst z
  ·exact ⟨_,he,fun v z=>by cases z⟩
  ·exact ⟨_,e1,fun v z=>by rw [d1] at z;cases z⟩
 keep:=fun i h h' st k=>by
  obtain ⟨⟨old,he⟩,h1⟩:=st
  exact ⟨⟨old,k e (by simp) _ he⟩,h1.at fun o e=>k it (by simp) o e⟩
 item:=by
  intro X hP hw hK hc i pins s σ H E I hf st hg
  subst hP hw hK
  obtain ⟨⟨old,he⟩,h1⟩:=st
  obtain ⟨xs,x,qx,ex⟩:=hg
  obtain ⟨its,rv,p,_⟩:=I.list qx
  obtain ⟨u,hu,ru⟩:=rv.get ex
  refine wpAny_pyNext_enum_item he h1 p.isList (x:=u) (by simpa using hu) sE fun h' a1 a2 a3 a4 a5=> ?_
  refine ⟨_,rfl,wpAny_letOwnedTupleGo_enum (s:={s with heap:=h',toks:=s.toks+1}) a1 fun HJ b1 sb=> ?_⟩
  have nz:∀c,c≠e→∀o,h'.get? c=some o→HJ.get? c=some o:=fun c hc o q=>(sb.2 c hc).trans q
  have kk:∀b o,b∉[e,it]→s.heap.get? b=some o→HJ.get? b=some o:=fun b o hb q=>by
   have gC :b≠e∧b≠it:=by simpa using hb
   exact nz b gC.1 o (a5 b o gC.1 gC.2 q)
  have sz:∀c o,s.heap.get? c=some o→s.heap.objs.size≠c:=fun c o q=>amU (Heap.lt_size q)
  have tz:s.heap.objs.size≠e:=sz _ _ he
  have hn:=I.bt.fresh (aai s.heap.objs.size)
  have I2:Inv X pins σ (upd H s.heap.objs.size (.tup [.int (i:Int),x])) {s with heap:=HJ,toks:=s.toks+1}:=
   Inv.qU I kk hf (aai _) (by show 2≤sizeLine;decide) (its:=[.int i s.toks,u]) (.cons ⟨_,rfl⟩ (.cons ru .nil)) ⟨_,nz _ tz _ a3,rfl,_,rfl⟩
  refine ⟨.ref s.heap.objs.size,_,I2,rfl,⟨s.heap.objs.size,x,fun xs' q=>by rw [I.gG q qx];exact ex,rfl,hn,rfl⟩,⟨⟨_,by exact b1⟩,a2.at fun o q=>nz _ (afk sE) o q⟩,fun b hb=> ?_⟩
  have ob:∃o,s.heap.get? b=some o:=by
   obtain ⟨o1,e1,_⟩:=h1
   have uY :b=e∨b=it:=by simpa using hb
   rcases uY with z | z <;> subst z
   ·exact ⟨_,he⟩
   ·exact ⟨_,e1⟩
  obtain ⟨o,q⟩:=ob
  rw [ao (afk (sz _ _ q))]
  exact (hf b hb).1
 done:=by
  intro X hP hw hK hc i pins s σ H E I hf st hg
  subst hP hw hK
  obtain ⟨⟨old,he⟩,h1⟩:=st
  obtain ⟨xs,qx,ee⟩:=hg
  obtain ⟨its,rv,p,_⟩:=I.list qx
  have l1:=rv.length
  refine wpAny_pyNext_enum_end (I.ok.hd hc) he h1 p.isList (by simp;omega) fun h' kk=>⟨rfl,Inv.xh I (fun b o hb q=> ?_) hf⟩
  have gC :b≠e∧b≠it:=by simpa using hb
  exact kk b o gC.2 q
 self:=fun _ _ _ _ _ st h=>by
  obtain ⟨⟨old,he⟩,_⟩:=st
  exact wpAny_pyIter_enum he h
theorem boot_enumerate:bootBuiltins "enumerate"=some (.type "enumerate"):=by decide+kernel
section
variable {X:Cx}
inductive DR (K:Frag)(R:(It→Hp→Prop))(vs:List V)(H1:Hp):Prop where
 | mk (a:_) (_:vs=[.ref a]) (_:(∃xs,ba K H1 a xs)) (_:R (QJ K a) H1):DR K R vs H1
def QK (K:Frag)(ta:TA):TI:=fun σ H R=>ta σ H fun vs H1=>DR K R vs H1
theorem xl {e1:Expr}{ta:TA}{p pos:Pos}{es:List Expr}{k:Nat}{qG:Pos}(hg:Gl X "enumerate")(hm:X.mg "enumerate"=none)(ha:PA X [e1] ta)(hs:starEach [e1] X.env=[(false,eval e1 X.env)]:=by rfl):
  PI X (.Tuple es k qG) (.Call (.Name "enumerate" p) [e1] [] pos) (QK X.K ta):=by
 intro pins s σ H R I h
 refine Call_ (gD I hg hm boot_enumerate (PyProof.Rows.callWith_type1 (bV (ha pos pins s σ H _ I h) fun us s1 ⟨vs,H1,I1,r1,q1⟩=> ?_) hs rfl))
 obtain ⟨a,e,⟨xs,hx⟩,q⟩:=q1
 subst e
 cases r1 with
 | cons r rr=>
  cases rr
  cases r
  obtain ⟨its,rv,pl,_⟩:=I1.list hx
  refine call_enumerate_list pl.isList fun h' hE hI hsz hk=>wpAny_pyIter_enum (s:={s1 with heap:=h' }) hE ?_
  refine ⟨s1.heap.objs.size+1,[s1.heap.objs.size+1,s1.heap.objs.size],_,_,H1,rfl,I1.kept (t' :=s1.toks) hk,yK a _ _ (Nat.succ_ne_self _),⟨⟨_,hE⟩,hI⟩,fun c hc=> ?_,q⟩
  have uY :s1.heap.objs.size≤c:=by
   have:c=s1.heap.objs.size+1∨c=s1.heap.objs.size:=by simpa using hc
   simp only [Addr] at*
   omega
  exact I1.jI uY (I1.bt.fresh uY)
theorem any_range (bs:List Bool):(afz bs.length).any (fun i=>(bs[i]?).getD true)=bs.any id:=by
 rw [afA,am5,am5]
 constructor
 ·rintro ⟨i,hi,h⟩
  have QL :i < bs.length:=afJ.mp hi
  rw [gE QL] at h
  exact ⟨bs[i],afZ QL,h⟩
 ·rintro ⟨b,hb,h⟩
  obtain ⟨i,hi⟩:=aak hb
  exact ⟨i,afJ.mpr (be.mp hi).1,by rw [hi];exact h⟩
inductive Nm (K:Frag)(xs:List V)(H:Hp)(Q:VK):Prop where
 | mk (p:Addr) (bs:List Bool) (_:xs=[.ref p]) (_:ba K H p (bs.map V.bl)) (_:Q (.bl (bs.any id)) H):Nm K xs H Q
theorem yL (hc:X.calm=true):eK X (.builtin "any") (Nm X.K):=by
 intro pins s σ H xs us Q I r h
 obtain ⟨p,bs,rfl,hq,q⟩:=h
 obtain ⟨u,rfl,r1⟩:=vals1 r
 cases r1
 obtain ⟨its,rv,pl,hz⟩:=I.list hq
 refine call_any_walk (wpAny_pyIter_list pl.isList ?_)
 have sE:p≠s.heap.objs.size:=by obtain ⟨o,ho,_⟩:=pl.isList;exact afn (Heap.lt_size ho)
 have I1:Inv X pins σ H {s with heap:=s.heap.push {cls:=.type "list_iterator",data:=.fields #[.ref p,.int 0 0]}}:=I.kept (t' :=s.toks) fun b o e=>Heap.get?_push_of_some _ e
 obtain ⟨f0,f1,f2,f3,f4,f5⟩:=I.jI (H' :=H) (aai s.heap.objs.size) (I.bt.fresh (aai _))
 have hl:its.length=bs.length:=by rw [← rv.length,aaa]
 refine ⟨s.heap.objs.size,_,_,_,_,_,fun i=>(bs[i]?).getD true,rfl,Walks.list (A:=X.A.in1) (I.ok.hd hc) s.heap.objs.size p sE its.toArray,⟨⟨_,Heap.get?_push_size _ rfl,rfl,rfl⟩,pl.isList.at fun o e=>Heap.get?_push_of_some _ e⟩,?_,fun h' tk kk=> ?_⟩
 ·intro i v s' Q' E' hv me
  have Ja :its[i]? =some v:=by simpa using hv
  have hi:i < bs.length:=by rw [← hl];exact (be.mp Ja).1
  have eb:(bs.map V.bl)[i]? =some (.bl bs[i]):=by rw [Wp,gE hi];rfl
  obtain ⟨u,eu,ru⟩:=rv.get eb
  rw [Ja] at eu
  cases eu
  cases ru
  dsimp only at me
  rw [gE hi] at me
  exact wpAny_truthy_bool me
 ·refine ⟨.bl (bs.any id),H,I1.turned (t' :=tk) (it:=s.heap.objs.size) (fun b o hb e=>kk b o (by simpa using hb) e) f0 f1 f3 f4 f5,?_,q⟩
  show _=_
  rw [← any_range bs,afa,hl]
theorem QM:bootBuiltins "any"=some (.builtin "any"):=by decide+kernel
end
theorem tT {K:Frag}{a:Addr}{xs:List V}{g:TG}{tb:TS}{D:Ends}{σ:L2.St}{H:Hp}(Pv:Nat→L2.St→Hp→Prop)(h0:Pv 0 σ H)(hl:∀i σ H,i≤xs.length→Pv i σ H→ba K H a xs)
  (hs:∀i x σ H p,xs[i]? =some x→Pv i σ H→H p=none→g (.ref p) σ (upd H p (.tup [.int (i:Int),x])) fun σ2 H2=>tb {D with nx:=Pv (i+1),ct:=Pv (i+1),bk:=D.nx} σ2 H2) (hd:∀σ H,Pv xs.length σ H→D.nx σ H):
  ∃W:Nat→Nat→L2.St→Hp→Prop,(∃m,W 0 m σ H)∧∀i m σ H,W i m σ H→
   ((QJ K a).stop i H∧D.nx σ H)∨((QJ K a).go i H∧∃N:L2.St→Hp→Prop,(∀σ' H',N σ' H' →∃m',m' < m∧W (i+1) m' σ' H')∧∀x H',(QJ K a).AX i H x H' →g x σ H' fun σ2 H2=>tb {D with nx:=N,ct:=N,bk:=D.nx} σ2 H2):=by
 refine ⟨fun i m σ H=>m=xs.length - i∧i≤xs.length∧Pv i σ H,⟨xs.length,by simp,aft _,h0⟩,?_⟩
 rintro i m σ H ⟨rfl,hi,p⟩
 have q:=hl i σ H hi p
 by_cases iU:i < xs.length
 ·have e:xs[i]? =some xs[i]:=gE iU
  refine .inr ⟨⟨xs,_,q,e⟩,Pv (i+1),fun σ' H' z=>⟨xs.length - (i+1),by omega,rfl,by omega,z⟩,fun x H' y=> ?_⟩
  obtain ⟨pp,x',y1,rfl,np,rfl⟩:=y
  exact hs i x' σ H pp (y1 xs q) p np
 ·have e:i=xs.length:=by omega
  subst e
  exact .inl ⟨⟨xs,q,aai _⟩,hd σ H p⟩
theorem g6 {d:Addr}{o:Obj}{kvs:List (Key×V)}{g:TG}{tb:TS}{D:Ends}{σ:L2.St}{H:Hp}(Pv:Nat→L2.St→Hp→Prop)(h0:Pv 0 σ H)(hl:∀i σ H,i≤kvs.length→Pv i σ H→H d=some (.cf o (.dK kvs)))
  (hs:∀i k x σ H p,kvs[i]? =some (k,x)→Pv i σ H→H p=none→g (.ref p) σ (upd H p (.tup [kV k,x])) fun σ2 H2=>tb {D with nx:=Pv (i+1),ct:=Pv (i+1),bk:=D.nx} σ2 H2) (hd:∀σ H,Pv kvs.length σ H→D.nx σ H):
  ∃W:Nat→Nat→L2.St→Hp→Prop,(∃m,W 0 m σ H)∧∀i m σ H,W i m σ H→
   ((O1 d o kvs).stop i H∧D.nx σ H)∨((O1 d o kvs).go i H∧∃N:L2.St→Hp→Prop,(∀σ' H',N σ' H' →∃m',m' < m∧W (i+1) m' σ' H')∧∀x H',(O1 d o kvs).AX i H x H' →g x σ H' fun σ2 H2=>tb {D with nx:=N,ct:=N,bk:=D.nx} σ2 H2):=by
 refine ⟨fun i m σ H=>m=kvs.length - i∧i≤kvs.length∧Pv i σ H,⟨kvs.length,by simp,aft _,h0⟩,?_⟩
 rintro i m σ H ⟨rfl,hi,p⟩
 have q:=hl i σ H hi p
 by_cases iU:i < kvs.length
 ·refine .inr ⟨⟨q,iU⟩,Pv (i+1),fun σ' H' z=>⟨kvs.length - (i+1),by omega,rfl,by omega,z⟩,fun x H' y=> ?_⟩
  obtain ⟨pp,k,x',y1,rfl,np,rfl⟩:=y
  exact hs i k x' σ H pp y1 p np
 ·have e:i=kvs.length:=by omega
  subst e
  exact .inl ⟨⟨q,aai _⟩,hd σ H p⟩
end Ty
set_option maxHeartbeats 4000000
namespace Ty
open PySem PySem.Spec PyProof.Rows L2
open Builtin.Int (intBits)
section
variable {X:Cx}
def DS (i j:Int):Prop:=intBits i+intBits j≤134217728
theorem jg:iV X (binaryOp .Mult) (rI DS fun i j=>.int (i*j)):=
 Ws fun _ _ _ _ _ _ _ hc q=>mul_int q (IntMulOk.of_le (aai _) (aai _) hc)
theorem gN {a b:Int}{m n:Nat}(h1:a.natAbs≤2^m)(h2:b.natAbs≤2^n)(h:m+n≤134000000):DS a b:=by
 have x1:=gZ h1 (afF m)
 have x2:=gZ h2 (afF n)
 unfold DS
 omega
inductive Lm (K:Frag)(xs:List V)(H:Hp)(Q:VK):Prop where
 | mk (p ys:_) (_:xs=[.ref p,.ty "tuple"]) (_:bK K H p ys) (_:Q (.bl true) H):Lm K xs H Q
theorem p_:eK X (.builtin "isinstance") (Lm X.K):=by
 intro pins s σ H xs us Q I r h
 obtain ⟨p,ys,rfl,hq,q⟩:=h
 obtain ⟨u,w,rfl,r1,r2⟩:=vals2 r
 obtain rfl:=w6 (c:=.ty "tuple") rfl r2
 cases r1
 obtain ⟨its,rv,⟨o,h1,h2,_⟩,_⟩:=I.tuple hq
 have e:PySem.W.kitOne X.K (.type "tuple") (M4 (.ty "tuple"))=some true:=by unfold PySem.W.kitOne;rw [if_pos (by decide)]
 exact PySem.W.kia_one PySem.W.kitx_tuple I.iH ⟨o,h1,h2⟩ e (fun z=>nomatch z) fun tk=>⟨.bl true,H,I.tok tk,rfl,q⟩
end
theorem av.cy {K:Frag}{H H' :Hp}{a:Addr}{xs:List V}(e:av H H')(h:bK K H a xs):bK K H' a xs:=by
 rcases h with (h | ⟨o,h⟩) | h
 ·exact .inl (.inl (e _ _ h))
 ·exact .inl (.inr ⟨o,e _ _ h⟩)
 ·exact .inr h
section
variable {D:Addr}{te:TE}{cap:L2.St}{H1:Hp}{Q:VK}
end
def kO (K:Frag)(H:Hp)(v:V)(q:Int×Int):Prop:=∃p,v=.ref p∧bK K H p [.int q.1,.int q.2]
theorem kO.same {K:Frag}{H H' :Hp}{v:V}{q:Int×Int}(h:kO K H v q)(s:av H H'):kO K H' v q:=by
 obtain ⟨p,e,k⟩:=h
 exact ⟨p,e,Ty.av.cy s k⟩
def dj (K:Frag)(H:Hp)(us:List V)(qs:List (Int×Int)):Prop:=us.length=qs.length∧∀(i:Nat) (u:V) (q:Int×Int),us[i]? =some u→qs[i]? =some q→kO K H u q
theorem dj.same {K:Frag}{H H' :Hp}{us:List V}{qs:List (Int×Int)}(h:dj K H us qs)(s:av H H'):dj K H' us qs:=⟨h.1,fun i u q e1 e2=>(h.2 i u q e1 e2).same s⟩
theorem dj.set {K:Frag}{H:Hp}{us:List V}{qs:List (Int×Int)}{j:Nat}{v:V}{q:Int×Int}(h:dj K H us qs)(n:kO K H v q):dj K H (us.set j v) (qs.set j q):=by
 refine ⟨by simp [h.1],fun i u q' e1 e2=> ?_⟩
 rw [afD] at e1 e2
 by_cases c:j=i
 ·subst c
  rw [if_pos rfl] at e1 e2
  have l:=h.1
  by_cases hj:j < us.length
  ·rw [if_pos hj] at e1
   rw [if_pos (by omega)] at e2
   cases e1
   cases e2
   exact n
  ·rw [if_neg hj] at e1
   cases e1
 ·rw [if_neg c] at e1 e2
  exact h.2 i u q' e1 e2
def Yo (K:Frag)(H:Hp)(a:Addr)(qs:List (Int×Int)):Prop:=∃us,ba K H a us∧dj K H us qs
def sumTo:Nat→(Nat→Rat)→Rat
 | 0,_=>0
 | n+1,f=>f 0+sumTo n (fun i=>f (i+1))
theorem qa (c:Rat):∀(n:Nat) (f:Nat→Rat),sumTo n (fun i=>c*f i)=c*sumTo n f
 | 0,_=>by simp [sumTo]
 | n+1,f=>by
  simp only [sumTo]
  rw [qa c n (fun i=>f (i+1))]
  grind
theorem mQ:∀(n:Nat) (f:Nat→Rat),(∀i,f i=0)→sumTo n f=0
 | 0,_,_=>rfl
 | n+1,f,h=>by
  simp only [sumTo]
  rw [h 0,mQ n (fun i=>f (i+1)) (fun i=>h (i+1))]
  grind
theorem mR:∀(n:Nat) (l:List Int) (z:Nat→Rat),l.length≤n→ev l z=sumTo n (fun j=>((l.getD j 0:Int):Rat)*z j)
 | n,[],z,_=>by
  rw [mQ n _ (fun i=>by simp)]
  rfl
 | 0,_::_,_,h=>by simp at h
 | n+1,a::r,z,h=>by
  simp only [ev,sumTo]
  rw [mR n r (fun i=>z (i+1)) (by simpa using h)]
  simp
end Ty
set_option maxHeartbeats 4000000
namespace Ty
open PySem PySem.Spec PyProof.Rows L2
theorem Nn {H:Hp}{d:Addr}{o:HO}(e:H d=some o):upd H d o=H:=by
 funext b
 by_cases z:b=d
 ·subst z
  rw [ak,e]
 ·rw [ao z]
section
variable {X:Cx}
def JC (te:TE):TI:=fun σ H R=>te σ H fun x H1=>∃d kvs,x=.ref d∧Rd H1 d (.dK kvs)∧∀o,R (O1 d o kvs) (upd H1 d (.cf o (.dK kvs)))
theorem yM {e:Expr}{te:TE}{apos b6:Pos}{es:List Expr}{k:Nat}{qG:Pos}(ho:PE X e te)(gI:attributeBase e "items" X.env (eval e X.env)=eval e X.env:=by rfl)(gJ:(apos.endLine==b6.line)=true:=by rfl):
  PI X (.Tuple es k qG) (.Call (.Attribute e "items" apos) [] [] b6) (JC te):=by
 intro pins s σ H R I h
 refine wpAny_Call_method0_late gI gJ (bV (ho pins s σ H _ I h) fun v s1 ⟨x,H1,I1,r1,q1⟩=> ?_)
 obtain ⟨d,kvs,rfl,e,q⟩:=q1
 cases r1
 obtain ⟨z,hd,vs,rel,o,Ll,ep,u0,hx,dF,hk,hp,hn⟩:=iu I1.bt e
 have da:s1.heap.DictAt (aZ X.prog X.w) d vs ep:=⟨o,Ll,u0,hx,dF,hk,hp,hn⟩
 have h1:s1.TypeIs (.ref d) "dict":=da.dictOf.typeIs
 have h2:∀a,Value.ref d=.ref a→∃ob,s1.heap.get? a=some ob∧ob.dict=none:=fun a z=>by
  cases z
  exact ⟨o,u0,hx.2.1⟩
 have lv:=rel.length
 refine ⟨"dict","dict.items",F.plainAttrs_dict,F.slot_dict_items,F.type_dict_items,h1,h2,Calls.callWith_builtin rfl (PySem.evalArgs_none ?_)⟩
 refine call_meetsIn F.slot_dict_items h1 F.entry_dict_items (F.args_dict_items_1 _) (meets_dict_items (aZ X.prog X.w) d hd) ⟨⟨vs,da.dictOf⟩,?_⟩
 have I2:Inv X pins σ (upd H1 d (.cf o (.dK kvs))) s1:=by
  rcases e with e | ⟨o',e⟩
  ·exact Inv.freeze I1 e u0
  ·have g:=(I1.bt d _ e).1
   rw [u0] at g
   cases g
   rw [Nn e]
   exact I1
 have QI:(s1.heap.push {cls:=.type "dict_items",data:=.fields #[.ref d]}).DictAt (aZ X.prog X.w) d vs ep:=da.at' fun o e=>Heap.get?_push_of_some _ e
 show wpAny (model X.prog X.w) X.A (pyIter (.ref s1.heap.objs.size)) _ _ _
 refine wpAny_pyIter_items (s:={s1 with heap:=s1.heap.push {cls:=.type "dict_items",data:=.fields #[.ref d]}}) ⟨_,Heap.get?_push_size _ rfl,rfl,rfl⟩ QI ?_
 have sz:(s1.heap.push {cls:=.type "dict_items",data:=.fields #[.ref d]}).objs.size=s1.heap.objs.size+1:=Heap.size_push ..
 have ne:(s1.heap.push {cls:=.type "dict_items",data:=.fields #[.ref d]}).objs.size≠d:=by
  rw [sz]
  exact afk (afn (af7 (Heap.lt_size u0)))
 have I3:Inv X pins σ (upd H1 d (.cf o (.dK kvs))) {s1 with heap:=(s1.heap.push {cls:=.type "dict_items",data:=.fields #[.ref d]}).push {cls:=.type "dict_itemiterator",data:=.fields #[.none,.bool false,.ref d,.int 0 0,.int vs.length 0,.int ep 0,.none,.none]}}:=I2.kept (t' :=s1.toks) fun b o e=>Heap.get?_push_of_some _ (Heap.get?_push_of_some _ e)
 refine ⟨_,[_],_,_,_,rfl,I3,mN d _ o kvs dF ne,⟨_,_,by rw [lv];exact Heap.get?_push_size _ rfl⟩,fun b hb=> ?_,q o⟩
 have eb:b=(s1.heap.push {cls:=.type "dict_items",data:=.fields #[.ref d]}).objs.size:=by simpa using hb
 have le:s1.heap.objs.size≤b:=by rw [eb,sz];exact agl _
 exact I2.jI le (I2.bt.fresh le)
end
section
variable {D:Addr}{te:TE}{cap:L2.St}{H1:Hp}{Q:VK}
end
end Ty
set_option maxHeartbeats 4000000
namespace Ty
open PySem PySem.Spec PyProof.Rows L2
section
variable {X:Cx}
end
end Ty
set_option maxHeartbeats 4000000
namespace Ty
open PySem PySem.Spec PyProof.Rows L2
section
variable {X:Cx}
inductive Lo (xs:List V)(H:Hp)(Q:VK):Prop where
 | mk (p:Addr) (kvs:List (Key×V)) (_:xs=[.ref p]) (_:Rd H p (.dK kvs)) (_:Q (.int (kvs.length:Int)) H):Lo xs H Q
theorem qc:eK X (.builtin "len") Lo:=by
 intro pins s σ H xs us Q I r h
 obtain ⟨p,kvs,rfl,hq,q⟩:=h
 obtain ⟨u,rfl,r1⟩:=vals1 r
 cases r1
 exact Qz I hq fun t s' I' =>⟨.int _,H,I',⟨t,rfl⟩,q⟩
end
section
variable {D:Addr}{te:TE}{cap:L2.St}{H1:Hp}{Q:VK}
end
end Ty
set_option maxHeartbeats 4000000
namespace Ty
open PySem PySem.Spec PyProof.Rows L2
section
variable {X:Cx}
theorem Inv.DT {pins:List (Addr×Obj)}{σ:L2.St}{H:Hp}{s:Shared}{d:Addr}{u:HO}{o:Obj}(I:Inv X pins σ H s)(e:H d=some (.cf o u))(n:∀o' u',X.H₀ d≠some (.cf o' u'))(nt:∀xs,u≠.tup xs):Inv X pins σ (upd H d u) s:=by
 have nx:∀b u',H b=some u' →b≠d→upd H d u b=some u' :=fun b u q n=>by rw [ao n];exact q
 have nn:∀b,H b=none→upd H d u b=none:=fun b q=>by rw [ao (fun z=>by rw [z,e] at q;cases q)];exact q
 refine ⟨I.ok,I.os,I.bare,⟨I.base.keep,I.base.slot,fun b ob q z hx=>nn b (I.base.free b ob q z hx),I.base.there,fun b xs q=> ?_,fun b ob u' q=> ?_,fun b ps q=> ?_⟩,I.loc,I.cell,nn _ I.free,fun x c q=>nn _ (I.fG x c q),fun p hp=> ?_,?_,I.len⟩
 ·have z:=I.base.ow b xs q
  exact nx b _ z fun y=>by rw [y,e] at z;cases z
 ·have z:=I.base.l0 b ob u' q
  exact nx b _ z fun y=>by rw [y] at q;exact n _ _ q
 ·obtain ⟨m,z⟩:=I.base.oy b ps q
  exact ⟨m,nx b _ z fun y=>by rw [y,e] at z;cases z⟩
 ·obtain ⟨a1,a2,a3⟩:=I.pin p hp
  exact ⟨a1,nn _ a2,a3⟩
 ·have st:∀{b u'},bS X.prog X.w H s.heap b u' →bS X.prog X.w (upd H d u) s.heap b u' :=fun {b u'} k=>k.lZ (fun _ _ _ z=>z) (fun c z=>nx c _ z fun y=>by rw [y,e] at z;cases z) fun c xs z=>nx c _ z fun y=>by rw [y,e] at z;cases z
  intro b u' q
  by_cases hb:b=d
  ·subst hb
   rw [ak] at q
   cases q
   exact st (I.bt b _ e).2
  ·rw [ao hb] at q
   exact st (I.bt b u' q)
def QN (H0:Hp)(t:TS):TS:=fun D σ H=>t {D with nx:=fun σ' H' =>∃d o kvs,H' d=some (.cf o (.dK kvs))∧(∀o' u',H0 d≠some (.cf o' u'))∧D.nx σ' (upd H' d (.dK kvs))} σ H
theorem q5 {st:Stmt}{t:TS}(h:PS X st t):PS X st (QN X.H₀ t):=by
 intro pins s σ H D I q
 refine wpAny_mono (h pins s σ H _ I q) (fun f s' z=> ?_) fun _ _ z=>z
 cases f with
 | next=>
  obtain ⟨σ',H',I',d,o,kvs,e,n,k⟩:=z
  exact ⟨σ',_,Inv.DT I' e n (fun _ z=>nomatch z),k⟩
 | brk=>exact z
 | cont=>exact z
 | ret u=>exact z
end
end Ty
set_option maxHeartbeats 4000000
namespace Ty
open PySem PySem.Spec PyProof.Rows L2
section
variable {prog:Program}{w:World}{KK:Type}[DecidableEq KK]{knd:KeyKind prog w KK}{A:Around}{E:Value→Shared→Prop}{s:Shared}
open MeetsSeq MeetsSeq2 MeetsSeq3 SeqRoads2 in
open MeetsSeq MeetsSeq2 MeetsSeq3 SeqRoads2 in
end
section
variable {X:Cx}
end
end Ty
set_option maxHeartbeats 4000000
namespace Ty
open PySem PySem.Spec PyProof.Rows L2
structure Np (K:Frag)(x qual:Str)(st:Stmt)(f:Addr)(fd:FuncData):Prop where
 ex:∃(dV oc:Value) (od:Option Addr) (kV doc pm:Value) (an:Option Addr) (bC ct:Value) (kL:Array (Option Value)),
  fd=fnOf x qual (ay st) (aw st) (ag st) dV kV doc pm an bC ct∧K.lookup f=some ⟨oc,od,.func fd,kL⟩∧codeIn K bC qual=true
 kp:keepIn K (.ref f)=true
section
variable {P:Program}{w:World}{K:Frag}{mg:Str→Option Value}{base:Heap}{CX:jF}
theorem JD {x qual:Str}{st:Stmt}{f:Addr}{dV oc:Value}{od an:Option Addr}{kL:Array (Option Value)}{kV doc pm bC ct:Value}(l:K.lookup f=some ⟨oc,od,.func (fnOf x qual (ay st) (aw st) (ag st) dV kV doc pm an bC ct),kL⟩)
  (c:codeIn K bC qual=true) (k:keepIn K (.ref f)=true):Np K x qual st f (fnOf x qual (ay st) (aw st) (ag st) dV kV doc pm an bC ct):=⟨⟨dV,oc,od,kV,doc,pm,an,bC,ct,kL,rfl,l,c⟩,k⟩
theorem cS {name qual:Str}{st:Stmt}{f:Addr}{fd:FuncData}{N ps:List Str}{k:Nat}{sp:Sp}(F:mj K name qual st f fd)(S:aD N ps (ag st))(len:∀vs H Q E,sp vs H Q E→vs.length=ps.length)
  (i0:∀(bC:Value) (A:Around) (outer:List Env) (s:Shared) (H:Hp) (vs:List V) (Q:VK) (E:XK),b8 k (A.deeper (envOfC qual (ag st) s.heap.objs.size f bC))→sp vs H Q E→
   ∃t,PSs (cxr P w K mg base N qual (ag st) f bC A outer s H E).wD (aw st) t∧t {nx:=fun _ H' =>Q .cb H',rt:=Q} (start N vs) H):cv P w K mg base (a8 P w) (k+1) f fd ps sp:=by
 obtain ⟨oc,od,kV,doc,pm,an,bC,ct,kL,rfl,lk,oz⟩:=F.ex
 exact wN lk oz S len fun A outer s H vs Q E hr oB=>by
  obtain ⟨t,h,q⟩:=i0 bC A outer s H vs Q E hr oB
  exact ⟨t,h.wD,q⟩
theorem DU {name qual:Str}{st:Stmt}{f:Addr}{fd:FuncData}{N ps:List Str}{k:Nat}{sp:Sp}(F:Np K name qual st f fd)(S:aD N ps (ag st))(len:∀vs H Q E,sp vs H Q E→vs.length=ps.length)
  (i0:∀(bC:Value) (A:Around) (outer:List Env) (s:Shared) (H:Hp) (vs:List V) (Q:VK) (E:XK),b8 k (A.deeper (envOfC qual (ag st) s.heap.objs.size f bC))→sp vs H Q E→
   ∃t,PSs (cxr P w K mg base N qual (ag st) f bC A outer s H E).wD (aw st) t∧t {nx:=fun _ H' =>Q .cb H',rt:=Q} (start N vs) H):cv P w K mg base (a8 P w) (k+1) f fd ps sp:=by
 obtain ⟨dV,oc,od,kV,doc,pm,an,bC,ct,kL,rfl,lk,oz⟩:=F.ex
 exact wN lk oz S len fun A outer s H vs Q E hr oB=>by
  obtain ⟨t,h,q⟩:=i0 bC A outer s H vs Q E hr oB
  exact ⟨t,h.wD,q⟩
end
structure mS (P:Program)(w:World)(K:Frag)(mg:Str→Option Value)(base:Heap)(CX:jF)(k:Nat)(C:Addr)(m:Str)(ps:List Str)(ds:List Value)(sp:Sp):Prop where
 ex:∃(f:Addr) (fd:FuncData),sS K C∧Meth K C m f∧cv P w K mg base CX k f fd ps sp∧Binds K fd ps ds
section
variable {X:Cx}{CX:jF}{k:Nat}{E:XK}{m:Str}{pos apos:Pos}{e o:Expr}{es:List Expr}{ta:TE}{t:TA}
inductive DV (P:Program)(w:World)(K:Frag)(mg:Str→Option Value)(base:Heap)(CX:jF)(k:Nat)(m:Str)(E:XK)(t:TA)(σ:L2.St)(Q:VK)(x:V)(H1:Hp):Prop where
 | mk (a C dx fs ps sp:_) (_:x=.ref a) (_:H1 a=some (.ins C dx fs)) (_:fs.lookup m=none) (_:mS P w K mg base CX k C m ps [.none] sp) (_:t σ H1 fun vs H2=>sp (x::vs++[.cb]) H2 Q E):DV P w K mg base CX k m E t σ Q x H1
def QO (P:Program)(w:World)(K:Frag)(mg:Str→Option Value)(base:Heap)(CX:jF)(k:Nat)(m:Str)(E:XK)(ta:TE)(t:TA):TE:=fun σ H Q=>ta σ H fun x H1=>DV P w K mg base CX k m E t σ Q x H1
theorem q_ {pl:Sem Bool}(he:PE X o ta)(hr:b8 k X.A)(hx:Passes CX X E)(ha:PA X (e::es) t)
  (IV:starEach (e::es) X.env=(false,eval e X.env)::starEach es X.env:=by rfl) (wL:(backTo pos (starEach es X.env)).any (·.1)=false:=by rfl)
  (ht:eval (.Call (.Attribute o m apos) (e::es) [] pos) X.env=(do
   let ov ← eval o X.env
   standAt apos.atName
   let (f,first) ← holding [ov] (getMethod ov m pl)
   callWith pos f first (backTo pos (starEach (e::es) X.env)) (backToKw pos (keywordEach [] X.env))):=by rfl):
  PE X (.Call (.Attribute o m apos) (e::es) [] pos) (QO X.prog X.w X.K X.mg X.base CX k m E ta t):=by
 intro pins s σ H Q I h
 refine PySem.W.methodCall_KW (pl:=pl) (bV (he pins s σ H _ I h) fun u s1 ⟨x,H1,I1,rx,a,C,dx,fs,ps,sp,ex,ea,l,M,q⟩=> ?_) ht
 subst ex
 obtain rfl:u=Value.ref a:=rx
 obtain ⟨f,fd,c,hm,F,hb⟩:=M.ex
 refine iJ I1 ea c hm l ?_
 refine PySem.W.callWith_K (first:=[.ref a]) (h₀:=X.base) I.ok.mod.OU hm.kp (bV (ha pos pins s1 σ H1 _ I1 q) fun us s2 ⟨vs,H2,I2,r,q2⟩=>⟨I2.iH,?_⟩) IV wL
 exact qI (us:=.ref a::us) (vs:=.ref a::vs) (dvs:=[.cb]) F hr hb (.cons rfl .nil) hx I2 (.cons rfl r) q2
end
theorem tU {κ:Type}[DecidableEq κ]{k:κ}{v:V}:∀{kvs:List (κ×V)},bO kvs k=some v→(k,v)∈kvs
 | p::r,h=>by
  by_cases e:p.1=k
  ·rw [bH e] at h
   cases h
   subst e
   exact ae' ..
  ·rw [bo e] at h
   exact aa_ _ (tU h)
theorem cT {κ:Type}[DecidableEq κ]{k:κ}:∀{kvs:List (κ×V)},k∉kvs.map (·.1)→bO kvs k=none
 | [],_=>rfl
 | p::r,h=>by
  rw [ac_,afo,not_or] at h
  rw [bo (fun e=>h.1 e.symm)]
  exact cT h.2
theorem eS {κ:Type}[DecidableEq κ]{k:κ}:∀{kvs:List (κ×V)},k∈kvs.map (·.1)→∃v,bO kvs k=some v
 | p::r,h=>by
  by_cases e:p.1=k
  ·exact ⟨_,bH e⟩
  ·rw [bo e]
   rw [ac_,afo] at h
   rcases h with h | h
   ·exact absurd h.symm e
   ·exact eS h
theorem Nq {k n:Nat}(h:k < n):seqIndex? (k:Int) n=some k:=by
 unfold seqIndex?
 simp [h]
 omega
structure AZ (K:Frag)(C:Addr):Prop where
 cls:sS K C
 pl:eY K C "pin_places"
 wy:eY K C "pin_ways"
 br:eY K C "bar_ends"
abbrev frF (pP pW pB:Addr):List (Str×V):=[("pin_places",.ref pP),("pin_ways",.ref pW),("bar_ends",.ref pB)]
abbrev Pt:=(Int×Int)×(Int×Int)
abbrev cG (p:Pt):List Da:=[.t [.v (.int p.1.1),.v (.int p.1.2)],.t [.v (.int p.2.1),.v (.int p.2.2)]]
def bh (H H' :Hp):Prop:=∀b xs,Rd H b (.tup xs)→Rd H' b (.tup xs)
theorem bh.of {H H' :Hp}(s:av H H'):bh H H' :=fun b xs e=>by
 rcases e with e | ⟨o,e⟩
 ·exact .inl (s _ _ e)
 ·exact .inr ⟨o,s _ _ e⟩
theorem bh.trans {H H1 H2:Hp}(a:bh H H1)(b:bh H1 H2):bh H H2:=fun c xs e=>b c xs (a c xs e)
theorem bh.dict {H:Hp}{d:Addr}{kvs:List (Key×V)}{o:HO}(e:H d=some (.dK kvs)):bh H (upd H d o):=fun b xs r=>by
 rcases r with r | ⟨o,r⟩
 ·exact .inl (by rw [ao (fun z=>by rw [z,e] at r;cases r)];exact r)
 ·exact .inr ⟨o,by rw [ao (fun z=>by rw [z,e] at r;cases r)];exact r⟩
theorem bh.list {H:Hp}{d:Addr}{xs:List V}{o:HO}(e:H d=some (.lst xs)):bh H (upd H d o):=fun b xs r=>by
 rcases r with r | ⟨o,r⟩
 ·exact .inl (by rw [ao (fun z=>by rw [z,e] at r;cases r)];exact r)
 ·exact .inr ⟨o,by rw [ao (fun z=>by rw [z,e] at r;cases r)];exact r⟩
theorem bh.cy {K:Frag}{H H' :Hp}(s:bh H H'){p:Addr}{xs:List V}(q:bK K H p xs):bK K H' p xs:=by
 rcases q with q | q
 ·exact .inl (s _ _ q)
 ·exact .inr q
theorem kO.aS {K:Frag}{H H' :Hp}{v:V}{q:Int×Int}(h:kO K H v q)(s:bh H H'):kO K H' v q:=by
 obtain ⟨p,e,k⟩:=h
 exact ⟨p,e,s.cy k⟩
def Spot (K:Frag)(H:Hp)(v:V)(p:Pt):Prop:=∃a u1 u2,v=.ref a∧bK K H a [u1,u2]∧kO K H u1 p.1∧kO K H u2 p.2
theorem Spot.aS {K:Frag}{H H' :Hp}{v:V}{p:Pt}(h:Spot K H v p)(s:bh H H'):Spot K H' v p:=by
 obtain ⟨a,u1,u2,e,h1,h2,h3⟩:=h
 exact ⟨a,u1,u2,e,s.cy h1,h2.aS s,h3.aS s⟩
theorem g7 {K:Frag}{H:Hp}{v:V}{q:Int×Int}(h:kO K H v q):Is K H (.t [.v (.int q.1),.v (.int q.2)]) v:=by
 obtain ⟨p,rfl,e⟩:=h
 unfold Is
 refine ⟨p,_,rfl,e,?_⟩
 unfold dS
 refine ⟨by unfold Is;exact ⟨rfl,rfl⟩,?_⟩
 unfold dS
 refine ⟨by unfold Is;exact ⟨rfl,rfl⟩,?_⟩
 unfold dS
 trivial
theorem Spot.is {K:Frag}{H:Hp}{v:V}{p:Pt}(h:Spot K H v p):Is K H (.t (cG p)) v:=by
 obtain ⟨a,u1,u2,rfl,h1,h2,h3⟩:=h
 unfold Is
 refine ⟨a,_,rfl,h1,?_⟩
 unfold dS
 refine ⟨g7 h2,?_⟩
 unfold dS
 refine ⟨g7 h3,?_⟩
 unfold dS
 trivial
theorem tW (p q:Pt):cg (cG p) (cG q)=decide (p=q):=by
 have e:cg (cG p) (cG q)=((p.1.1==q.1.1 && (p.1.2==q.1.2 && true)) && ((p.2.1==q.2.1 && (p.2.2==q.2.2 && true)) && true)):=by
  simp only [cG,cg,fB,om]
 rw [e]
 obtain ⟨⟨a,b⟩,c,d⟩:=p
 obtain ⟨⟨a',b'⟩,c',d'⟩:=q
 by_cases h:a=a' <;> by_cases h1:b=b' <;> by_cases h2:c=c' <;> by_cases h3:d=d' <;> simp [h,h1,h2,h3,aou]
theorem ky (p q:Pt):cK (cG p) (cG q)=true:=by simp [cG,cK,alike]
theorem qd (p:Pt):eM (cG p)≤60:=by simp [cG,eM,dep]
structure d6 (K:Frag)(H:Hp)(C a dx pP pW pB:Addr)(ps:List (Str×Pt))(bs:List (Str×Str×Str))(kP kW kB:List (Key×V)):Prop where
 obj:H a=some (.ins C dx (frF pP pW pB))
 pl:H pP=some (.dK kP)
 wy:H pW=some (.dK kW)
 br:H pB=some (.dK kB)
 ne1:pP≠pW
 ne2:pP≠pB
 ne3:pW≠pB
 rp:Paired (fun (p:Str×Pt) (kv:Key×V)=>kv.1=.inr p.1∧Spot K H kv.2 p.2) ps kP
 rb:Paired (fun (b:Str×Str×Str) (kv:Key×V)=>kv.1=.inr b.1∧∃p,kv.2=.ref p∧Rd H p (.tup [.str b.2.1,.str b.2.2])) bs kB
section
variable {K:Frag}{H H' :Hp}{C a dx pP pW pB:Addr}{ps:List (Str×Pt)}{bs:List (Str×Str×Str)}{kP kW kB:List (Key×V)}
theorem d_ {α:Type}{R:(Str×α)→(Key×V)→Prop}:∀{l:List (Str×α)} {kvs:List (Key×V)},Paired (fun b kv=>kv.1=.inr b.1∧R b kv) l kvs→kvs.map (·.1)=l.map (fun b=>(af1 b.1:Key))
 | _,_,.nil=>rfl
 | _,_,.cons h t=>by rw [ac_,ac_,h.1,d_ t]
theorem dY {l:List Str}{x:Str}:(af1 x:Key)∈l.map (fun b=>(af1 b:Key)) ↔ x∈l:=by
 constructor
 ·intro h
  obtain ⟨y,hy,e⟩:=aah.mp h
  exact afV e▸hy
 ·exact fun h=>aah.mpr ⟨x,h,rfl⟩
theorem d6.cM (R:d6 K H C a dx pP pW pB ps bs kP kW kB)(s:bh H H')(h1:H' a=H a)(h2:H' pP=H pP)(h3:H' pW=H pW)(h4:H' pB=H pB):d6 K H' C a dx pP pW pB ps bs kP kW kB:=
 ⟨h1.trans R.obj,h2.trans R.pl,h3.trans R.wy,h4.trans R.br,R.ne1,R.ne2,R.ne3,Paired.bq R.rp fun _ _ h=>⟨h.1,h.2.aS s⟩,Paired.bq R.rb fun _ _ h=>⟨h.1,by obtain ⟨p,e,k⟩:=h.2;exact ⟨p,e,s _ _ k⟩⟩⟩
theorem d6.same (R:d6 K H C a dx pP pW pB ps bs kP kW kB)(s:av H H'):d6 K H' C a dx pP pW pB ps bs kP kW kB:=
 R.cM (.of s) ((s _ _ R.obj).trans R.obj.symm) ((s _ _ R.pl).trans R.pl.symm) ((s _ _ R.wy).trans R.wy.symm) ((s _ _ R.br).trans R.br.symm)
theorem d6.qe (R:d6 K H C a dx pP pW pB ps bs kP kW kB):kB.map (·.1)=(bs.map (·.1)).map (fun b=>(af1 b:Key)):=by
 rw [d_ R.rb,afj]
 rfl
theorem d6.tX (R:d6 K H C a dx pP pW pB ps bs kP kW kB):kP.map (·.1)=(ps.map (·.1)).map (fun b=>(af1 b:Key)):=by
 rw [d_ R.rp,afj]
 rfl
theorem d6.bar (R:d6 K H C a dx pP pW pB ps bs kP kW kB)(x:Str):(bO kB (.inr x)).isSome=decide (x∈bs.map (·.1)):=by
 by_cases h:x∈bs.map (·.1)
 ·obtain ⟨v,e⟩:=eS (kvs:=kB) (k:=.inr x) (by rw [R.qe];exact dY.mpr h)
  rw [e,decide_eq_true h]
  rfl
 ·rw [cT (by rw [R.qe];exact fun z=>h (dY.mp z)),decide_eq_false h]
  rfl
theorem d6.pin (R:d6 K H C a dx pP pW pB ps bs kP kW kB)(x:Str):(bO kP (.inr x)).isSome=decide (x∈ps.map (·.1)):=by
 by_cases h:x∈ps.map (·.1)
 ·obtain ⟨v,e⟩:=eS (kvs:=kP) (k:=.inr x) (by rw [R.tX];exact dY.mpr h)
  rw [e,decide_eq_true h]
  rfl
 ·rw [cT (by rw [R.tX];exact fun z=>h (dY.mp z)),decide_eq_false h]
  rfl
theorem d6.ab (R:d6 K H C a dx pP pW pB ps bs kP kW kB):a≠pP∧a≠pW∧a≠pB:=
 ⟨fun z=>(by have h:=R.obj;rw [z,R.pl] at h;cases h),fun z=>(by have h:=R.obj;rw [z,R.wy] at h;cases h),fun z=>(by have h:=R.obj;rw [z,R.br] at h;cases h)⟩
theorem d6.Nr (R:d6 K H C a dx pP pW pB ps bs kP kW kB){x one other:Str}{t:Addr}(ht:Rd H t (.tup [.str one,.str other])):
  d6 K (upd H pB (.dK (kB++[(.inr x,.ref t)]))) C a dx pP pW pB ps (bs++[(x,one,other)]) kP kW (kB++[(.inr x,.ref t)]):=by
 have s:bh H (upd H pB (.dK (kB++[(.inr x,.ref t)]))):=.dict R.br
 exact ⟨by rw [ao R.ab.2.2];exact R.obj,by rw [ao R.ne2];exact R.pl,by rw [ao R.ne3];exact R.wy,ak,R.ne1,R.ne2,R.ne3,Paired.bq R.rp fun _ _ h=>⟨h.1,h.2.aS s⟩,
  Paired.snoc (Paired.bq R.rb fun _ _ h=>⟨h.1,by obtain ⟨p,e,k⟩:=h.2;exact ⟨p,e,s _ _ k⟩⟩) ⟨rfl,t,rfl,s _ _ ht⟩⟩
theorem gO {α:Type}{R:(Str×α)→(Key×V)→Prop}(x:Str):∀{l:List (Str×α)} {kvs:List (Key×V)},Paired (fun b kv=>kv.1=.inr b.1∧R b kv) l kvs→Paired (fun b kv=>kv.1=.inr b.1∧R b kv) (l.filter fun b=>decide (b.1≠x)) (eL kvs (.inr x))
 | _,_,.nil=>.nil
 | b::_,kv::_,.cons h t=>by
  unfold eL
  rw [afY,afY]
  have ih:=gO x t
  unfold eL at ih
  by_cases e:b.1=x
  ·have e' :kv.1=.inr x:=by rw [h.1,e]
   rw [if_neg (by simp [e]),if_neg (by simp [e'])]
   exact ih
  ·have e' :¬ kv.1=.inr x:=fun z=>e (afV (h.1.symm.trans z))
   rw [if_pos (by simp [e]),if_pos (by simp [e'])]
   exact .cons h ih
theorem cN {α β:Type}{R:α→β→Prop}:∀{l:List α} {m:List β},Paired R l m→Paired (fun b a=>R a b) m l
 | _,_,.nil=>.nil
 | _,_,.cons h t=>.cons h (cN t)
theorem d6.Nt (R:d6 K H C a dx pP pW pB ps bs kP kW kB){x:Str}{p:Pt}{t:Addr}(ht:Spot K H (.ref t) p):
  d6 K (upd H pP (.dK (kP++[(.inr x,.ref t)]))) C a dx pP pW pB (ps++[(x,p)]) bs (kP++[(.inr x,.ref t)]) kW kB:=by
 have s:bh H (upd H pP (.dK (kP++[(.inr x,.ref t)]))):=.dict R.pl
 exact ⟨by rw [ao R.ab.1];exact R.obj,ak,by rw [ao (afk R.ne1)];exact R.wy,by rw [ao (afk R.ne2)];exact R.br,R.ne1,R.ne2,R.ne3,
  Paired.snoc (Paired.bq R.rp fun _ _ h=>⟨h.1,h.2.aS s⟩) ⟨rfl,ht.aS s⟩,Paired.bq R.rb fun _ _ h=>⟨h.1,by obtain ⟨p,e,k⟩:=h.2;exact ⟨p,e,s _ _ k⟩⟩⟩
theorem d6.ra (R:d6 K H C a dx pP pW pB ps bs kP kW kB)(jG :List (Key×V)):d6 K (upd H pW (.dK jG)) C a dx pP pW pB ps bs kP jG kB:=by
 have s:bh H (upd H pW (.dK jG)):=.dict R.wy
 exact ⟨by rw [ao R.ab.2.1];exact R.obj,by rw [ao R.ne1];exact R.pl,ak,by rw [ao (afk R.ne3)];exact R.br,R.ne1,R.ne2,R.ne3,
  Paired.bq R.rp fun _ _ h=>⟨h.1,h.2.aS s⟩,Paired.bq R.rb fun _ _ h=>⟨h.1,by obtain ⟨p,e,k⟩:=h.2;exact ⟨p,e,s _ _ k⟩⟩⟩
end
end Ty
set_option maxHeartbeats 4000000
namespace Ty
open PySem PySem.Spec PyProof.Rows L2
open Builtin.Int (intBits)
def qr (r:Rat):Int×Int:=(r.num,(r.den:Int))
theorem c9 (r:Rat):0 < (qr r).2:=by
 have:=r.den_pos
 show (0:Int) < (r.den:Int)
 omega
theorem mT (r:Rat):afE (qr r).1 (qr r).2=1:=by
 have:=r.reduced
 show afE r.num (r.den:Int)=1
 unfold afE
 simpa [Nat.Coprime] using this
theorem gx (r:Rat):vl (qr r)=r:=by
 show (r.num:Rat) / ((r.den:Int):Rat)=r
 rw [← anT]
 exact anN r
theorem qf {q:Int×Int}(h:0 < q.2)(g:afE q.1 q.2=1):q=qr (vl q):=Nb h (c9 _) g (mT _) (gx _).symm
theorem gd {t b:Int}(h:b≠0):low t b=qr ((t:Rat) / (b:Rat)):=by
 rw [← qV h]
 exact qf (i9 h) (lJ h)
theorem ff {a b:Rat}(h:qr a=qr b):a=b:=by
 rw [← gx a, ← gx b,h]
theorem mU (i:Int):qr (i:Rat)=(i,1):=by
 have e:(i,(1:Int))=qr (vl (i,1)):=qf (by show (0:Int) < 1;decide) (by show afE i 1=1;simp)
 have v:vl (i,(1:Int))=(i:Rat):=by
  unfold vl
  show (i:Rat) / ((1:Int):Rat)=i
  have:((1:Int):Rat)=1:=by rfl
  rw [this]
  grind
 rw [e,v]
theorem vv {r:Rat}:((qr r).2:Rat)≠0:=cw (afS (c9 r))
theorem Nu (a b:Rat):low ((qr a).1*(qr b).2+(qr b).1*(qr a).2) ((qr a).2*(qr b).2)=qr (a+b):=by
 have ha:=c9 a
 have hb:=c9 b
 rw [gd (afS (agB ha hb))]
 have e1:=gx a
 have e2:=gx b
 have z1:=vv (r:=a)
 have z2:=vv (r:=b)
 unfold vl at e1 e2
 congr 1
 push_cast
 grind
theorem DW (a b:Rat):low ((qr a).1*(qr b).2 - (qr b).1*(qr a).2) ((qr a).2*(qr b).2)=qr (a - b):=by
 have ha:=c9 a
 have hb:=c9 b
 rw [gd (afS (agB ha hb))]
 have e1:=gx a
 have e2:=gx b
 have z1:=vv (r:=a)
 have z2:=vv (r:=b)
 unfold vl at e1 e2
 congr 1
 push_cast
 grind
structure Sz (k:Nat)(r:Rat):Prop where
 top:intBits (qr r).1≤k
 bot:intBits (qr r).2≤k
theorem Sz.up {k l:Nat}{r:Rat}(h:Sz k r)(kl:k≤l):Sz l r:=⟨aaj h.top kl,aaj h.bot kl⟩
theorem yN {a b:Int}{k:Nat}(ha:intBits a≤k)(hb:intBits b≤k):intBits (a+b)≤k+1:=by
 rw [intBits_le_iff] at ha hb ⊢
 have:=agw a b
 rw [amZ]
 omega
theorem yO {a b:Int}{k:Nat}(ha:intBits a≤k)(hb:intBits b≤k):intBits (a - b)≤k+1:=by
 rw [intBits_le_iff] at ha hb ⊢
 have:=Int.natAbs_sub_le a b
 rw [amZ]
 omega
theorem DX {t b:Int}{k:Nat}(hb:b≠0)(h1:intBits t≤k)(h2:intBits b≤k):Sz k ((t:Rat) / (b:Rat)):=by
 rw [← qV hb]
 have e:=qf (i9 (t:=t) hb) (lJ hb)
 exact ⟨by rw [← e];exact intBits_le_of_natAbs (mq hb) h1,by rw [← e];exact intBits_le_of_natAbs (mB hb) h2⟩
theorem Lp {t b:Int}{k:Nat}{r:Rat}(hb:b≠0)(e:low t b=qr r)(h1:intBits t≤k)(h2:intBits b≤k):Sz k r:=by
 have z:=gd (t:=t) hb
 rw [z] at e
 have:=ff e
 rw [← this]
 exact DX hb h1 h2
theorem Sz.add {k l:Nat}{a b:Rat}(ha:Sz k a)(hb:Sz l b):Sz (k+l+1) (a+b):=
 Lp (afS (agB (c9 a) (c9 b))) (Nu a b) (yN (intBits_mul_le ha.top hb.bot) (by rw [anv];exact intBits_mul_le hb.top ha.bot)) (anU (intBits_mul_le ha.bot hb.bot))
theorem Sz.sub {k l:Nat}{a b:Rat}(ha:Sz k a)(hb:Sz l b):Sz (k+l+1) (a - b):=
 Lp (afS (agB (c9 a) (c9 b))) (DW a b) (yO (intBits_mul_le ha.top hb.bot) (by rw [anv];exact intBits_mul_le hb.top ha.bot)) (anU (intBits_mul_le ha.bot hb.bot))
theorem gf {i:Int}{k:Nat}(h:i.natAbs < 2^k)(hk:1≤k):Sz k (i:Rat):=by
 refine ⟨?_,?_⟩
 ·rw [mU]
  exact intBits_le_iff.mpr h
 ·rw [mU]
  refine intBits_le_iff.mpr ?_
  show 1 < 2^k
  exact Nat.one_lt_two_pow (by omega)
def gA (K:Frag)(H:Hp)(v:V)(r:Rat):Prop:=kO K H v (qr r)
def dZ (K:Frag)(H:Hp)(v:V)(p:Rat×Rat):Prop:=∃a u1 u2,v=.ref a∧bK K H a [u1,u2]∧gA K H u1 p.1∧gA K H u2 p.2
section
variable {K:Frag}{H H' :Hp}{v:V}{r:Rat}{p:Rat×Rat}
theorem gA.aS (h:gA K H v r)(s:bh H H'):gA K H' v r:=kO.aS h s
theorem gA.same (h:gA K H v r)(s:av H H'):gA K H' v r:=kO.same h s
theorem dZ.aS (h:dZ K H v p)(s:bh H H'):dZ K H' v p:=by
 obtain ⟨a,u1,u2,e,h1,h2,h3⟩:=h
 exact ⟨a,u1,u2,e,s.cy h1,h2.aS s,h3.aS s⟩
theorem dZ.same (h:dZ K H v p)(s:av H H'):dZ K H' v p:=h.aS (.of s)
abbrev iW (p:Rat×Rat):Pt:=(qr p.1,qr p.2)
theorem dZ.QP (h:dZ K H v p):Spot K H v (iW p):=h
def gB (K:Frag)(H:Hp)(us:List V)(ps:List (Rat×Rat)):Prop:=Paired (dZ K H) us ps
theorem gB.aS {us:List V}{ps:List (Rat×Rat)}(h:gB K H us ps)(s:bh H H'):gB K H' us ps:=Paired.bq h fun _ _ z=>z.aS s
theorem gB.same {us:List V}{ps:List (Rat×Rat)}(h:gB K H us ps)(s:av H H'):gB K H' us ps:=h.aS (.of s)
end
section
variable {X:Cx}
theorem xm {pins:List (Addr×Obj)}{σ:L2.St}{H:Hp}{s:Shared}{v:V}{p q:Rat×Rat}(I:Inv X pins σ H s)(h1:dZ X.K H v p)(h2:dZ X.K H v q):p=q:=by
 obtain ⟨a,u1,u2,rfl,t1,⟨b1,rfl,n1⟩,b2,rfl,n2⟩:=h1
 obtain ⟨a',w1,w2,e,t2,⟨c1,rfl,m1⟩,c2,rfl,m2⟩:=h2
 cases e
 cases I.fH t1 t2
 have e1:=I.fH n1 m1
 have e2:=I.fH n2 m2
 simp only [List.cons.injEq,V.int.injEq,and_true] at e1 e2
 exact agj (ff (agj e1.1 e1.2)) (ff (agj e2.1 e2.2))
def QQ (K:Frag)(neg:Bool):R2:=fun x y H Q=>∃p l us ps,y=.ref l∧ba K H l us∧dZ K H x p∧gB K H us ps∧Q (.bl (if neg then !decide (p∈ps) else decide (p∈ps))) H
theorem QR {pins:List (Addr×Obj)}{σ:L2.St}{H:Hp}{s:Shared}{A:Around}{x:V}{v:Value}{p:Rat×Rat}{us:List V}{its:List Value}{ps:List (Rat×Rat)}(I:Inv X pins σ H s)(hu:A.units+60 < cLine)(hx:dZ X.K H x p)(rx:RelV x v)(hp:gB X.K H us ps)(rv:Vals us its):
  ∃e:Value→Bool,(∀y,y∈its.toArray→SeqAt.EqAt A s y v (e y))∧its.toArray.any e=decide (p∈ps):=by
 have key:∀(j:Nat) (y:Value),its[j]? =some y→∃u q,us[j]? =some u∧ps[j]? =some q∧RelV u y∧dZ X.K H u q:=fun j y ey=>by
  obtain ⟨u,eu,ru⟩:=aA (cN rv) ey
  obtain ⟨q,eq,hq⟩:=aA hp eu
  exact ⟨u,q,eu,eq,ru,hq⟩
 refine ⟨fun y=> @decide (∃u q,RelV u y∧dZ X.K H u q∧q=p) (afM _),fun y hy=> ?_,?_⟩
 ·obtain ⟨j,hj,ey⟩:=afN.mp (by simpa using hy:y∈its)
  obtain ⟨u,q,eu,eq,ru,hq⟩:=key j y (by rw [gE hj,ey])
  have z:=w4 (A:=A) I (.t (cG (iW q))) (.t (cG (iW p))) u x y v hq.QP.is hx.QP.is (by unfold alike;exact ky _ _) ru rx (by have:=qd (iW q);unfold dep;simp only [cG,eM,dep] at this ⊢;omega)
  have e:fB (.t (cG (iW q))) (.t (cG (iW p)))= @decide (∃u q,RelV u y∧dZ X.K H u q∧q=p) (afM _):=by
   unfold fB
   rw [tW]
   by_cases c:q=p
   ·subst c
    rw [decide_eq_true rfl]
    symm
    exact @decide_eq_true _ (afM _) ⟨u,q,ru,hq,rfl⟩
   ·rw [decide_eq_false (fun z=>c (agj (ff (congrArg anG z)) (ff (congrArg anH z))))]
    symm
    refine @decide_eq_false _ (afM _) fun ⟨u',q',Yp,me,e'⟩=> ?_
    obtain ⟨a,_,_,rfl,_⟩:=id hq
    obtain ⟨a',_,_,rfl,_⟩:=id me
    have r1:y=Value.ref a:=ru
    have r2:y=Value.ref a' :=Yp
    rw [r1] at r2
    cases r2
    exact c ((xm I hq me).trans e')
  rw [e] at z
  exact z
 ·rw [afA,decide_eq_true_iff]
  simp only [List.any_toArray,am5]
  constructor
  ·rintro ⟨y,hy,ey⟩
   obtain ⟨j,hj,ej⟩:=afN.mp hy
   obtain ⟨u,q,eu,eq,ru,hq⟩:=key j y (by rw [gE hj,ej])
   obtain ⟨u',q',Yp,me,e'⟩:= @of_decide_eq_true _ (afM _) ey
   obtain ⟨a,_,_,rfl,_⟩:=id hq
   obtain ⟨a',_,_,rfl,_⟩:=id me
   have r1:y=Value.ref a:=ru
   have r2:y=Value.ref a' :=Yp
   rw [r1] at r2
   cases r2
   rw [← e', ← xm I hq me]
   exact ir eq
  ·intro hm
   obtain ⟨j,hj,ej⟩:=afN.mp hm
   have lu:us.length=ps.length:=Paired.length hp
   have li:us.length=its.length:=rv.length
   have Wz :j < its.length:=by omega
   refine ⟨its[j],afZ Wz,?_⟩
   obtain ⟨u,q,eu,eq,ru,hq⟩:=key j its[j] (gE Wz)
   rw [gE hj,ej] at eq
   cases eq
   exact @decide_eq_true _ (afM _) ⟨u,p,ru,hq,rfl⟩
theorem JE (hu:X.A.units+64 < cLine):iV X (compareOp .In) (QQ X.K false):=by
 intro pins s σ H x y v u Q I rx ry h
 obtain ⟨p,l,us,ps,rfl,hq,hx,hp,q⟩:=h
 cases ry
 obtain ⟨its,rv,pl,hz⟩:=I.list hq
 obtain ⟨e,he,ea⟩:=QR (A:=X.A.in1) I (by rw [in1_units];omega) hx rx hp rv
 refine SeqAt.in_listAt e pl.isList he ⟨.bl _,H,I,rfl,?_⟩
 rw [ea]
 exact q
end
end Ty
set_option maxHeartbeats 4000000
namespace Ty
open PySem PySem.Spec PyProof.Rows L2
theorem gh {α:Type}{R:(Str×α)→(Key×V)→Prop}{x:Str}{y:α}:∀{l:List (Str×α)} {kvs:List (Key×V)},Paired (fun b kv=>kv.1=.inr b.1∧R b kv) l kvs→(l.map (·.1)).Nodup→(x,y)∈l→∃v,bO kvs (.inr x)=some v∧R (x,y) (.inr x,v)
 | _::_,kv::_,.cons h t,nd,m=>by
  rw [ac_,afs] at nd
  rcases afo.mp m with e | m
  ·subst e
   have h1:kv.1=.inr x:=h.1
   refine ⟨kv.2,bH h1,?_⟩
   have h2:=h.2
   rw [← h1]
   exact h2
  ·obtain ⟨v,e,r⟩:=gh t nd.2 m
   refine ⟨v,?_,r⟩
   rw [bo (fun z=> ?_)]
   ·exact e
   ·rw [h.1] at z
    exact nd.1 (afV z▸aah.mpr ⟨_,m,rfl⟩)
def ou (K:Frag)(H:Hp)(pw:List (Str×List (Rat×Rat)))(kW:List (Key×V)):Prop:=
 Paired (fun (p:Str×List (Rat×Rat)) (kv:Key×V)=>kv.1=.inr p.1∧∃l us,kv.2=.ref l∧H l=some (.lst us)∧gB K H us p.2) pw kW
theorem ou.same {K:Frag}{H H' :Hp}{pw:List (Str×List (Rat×Rat))}{kW:List (Key×V)}(h:ou K H pw kW)(s:av H H'):ou K H' pw kW:=
 Paired.bq h fun _ _ z=>⟨z.1,by obtain ⟨l,us,e1,e2,e3⟩:=z.2;exact ⟨l,us,e1,s _ _ e2,e3.same s⟩⟩
theorem ou.dict {K:Frag}{H:Hp}{pw:List (Str×List (Rat×Rat))}{kW kvs:List (Key×V)}{d:Addr}{o:HO}(h:ou K H pw kW)(e:H d=some (.dK kvs)):ou K (upd H d o) pw kW:=
 Paired.bq h fun _ _ z=>⟨z.1,by
  obtain ⟨l,us,e1,e2,e3⟩:=z.2
  exact ⟨l,us,e1,by rw [ao (fun q=>by rw [q,e] at e2;cases e2)];exact e2,e3.aS (.dict e)⟩⟩
theorem ou.keys {K:Frag}{H:Hp}{pw:List (Str×List (Rat×Rat))}{kW:List (Key×V)}(h:ou K H pw kW):kW.map (·.1)=(pw.map (·.1)).map (fun b=>(af1 b:Key)):=by
 rw [d_ h,afj]
 rfl
theorem d6.ends {K:Frag}{H:Hp}{C a dx pP pW pB:Addr}{ps:List (Str×Pt)}{bs:List (Str×Str×Str)}{kP kW kB:List (Key×V)}(R:d6 K H C a dx pP pW pB ps bs kP kW kB)(nd:(bs.map (·.1)).Nodup){x one other:Str}(m:(x,one,other)∈bs):
  ∃p,bO kB (.inr x)=some (.ref p)∧Rd H p (.tup [.str one,.str other]):=by
 obtain ⟨v,e,p,ep,r⟩:=gh R.rb nd m
 have sJ :v=.ref p:=ep
 exact ⟨p,by rw [e,sJ],r⟩
theorem d6.place {K:Frag}{H:Hp}{C a dx pP pW pB:Addr}{ps:List (Str×Pt)}{bs:List (Str×Str×Str)}{kP kW kB:List (Key×V)}(R:d6 K H C a dx pP pW pB ps bs kP kW kB)(nd:(ps.map (·.1)).Nodup){x:Str}{p:Pt}(m:(x,p)∈ps):
  ∃v,bO kP (.inr x)=some v∧Spot K H v p:=gh R.rp nd m
end Ty
namespace Ty
open PySem PySem.Spec PyProof.Rows L2
structure aF where
 nm:Str
 sp:Rat×Rat
 ws:List (Rat×Rat)
structure bB where
 nm:Str
 one:aF
 other:aF
structure DY (K:Frag)(H:Hp)(C a:Addr)(pins:List aF)(ar:List bB):Prop where
 ex:∃(dx pP pW pB:Addr) (kP kW kB:List (Key×V)),d6 K H C a dx pP pW pB (pins.map fun p=>(p.nm,iW p.sp)) (ar.map fun b=>(b.nm,b.one.nm,b.other.nm)) kP kW kB∧ou K H (pins.map fun p=>(p.nm,p.ws)) kW
structure fU (pins:List aF)(ar:List bB):Prop where
 np:(pins.map (·.nm)).Nodup
 nb:(ar.map (·.nm)).Nodup
 ends:∀b∈ar,b.one∈pins∧b.other∈pins∧b.one.nm≠b.other.nm
 sz:∀p∈pins,Sz 44 p.sp.1∧Sz 44 p.sp.2∧∀w∈p.ws,Sz 22 w.1∧Sz 22 w.2
 lp:pins.length≤9
 lb:ar.length≤14
 lw:∀p∈pins,p.ws.length≤2
theorem DY.same {K:Frag}{H H' :Hp}{C a:Addr}{pins:List aF}{ar:List bB}(h:DY K H C a pins ar)(s:av H H'):DY K H' C a pins ar:=by
 obtain ⟨dx,pP,pW,pB,kP,kW,kB,R,W⟩:=h.ex
 exact ⟨dx,pP,pW,pB,kP,kW,kB,R.same s,W.same s⟩
def O3 (K:Frag)(H:Hp)(kvs:List (Key×V))(F:Str→Option (Rat×Rat)):Prop:=
 ∀nm,(bO kvs (.inr nm)=none∧F nm=none)∨∃v p,bO kvs (.inr nm)=some v∧F nm=some p∧dZ K H v p
section
variable {K:Frag}{H H' :Hp}{kvs:List (Key×V)}
theorem O3.same {F:Str→Option (Rat×Rat)}(h:O3 K H kvs F)(s:av H H'):O3 K H' kvs F:=fun nm=>by
 rcases h nm with h | ⟨v,q,h1,h2,h3⟩
 ·exact .inl h
 ·exact .inr ⟨v,q,h1,h2,h3.same s⟩
theorem O3.Yq {F:Str→Option (Rat×Rat)}(h:O3 K H kvs F){x:Str}{v:V}{q:Rat×Rat}(n:dZ K H v q):dZ K H ((bO kvs (.inr x)).getD v) ((F x).getD q):=by
 rcases h x with ⟨h1,h2⟩ | ⟨u,q',h1,h2,h3⟩
 ·rw [h1,h2]
  exact n
 ·rw [h1,h2]
  exact h3
end
end Ty
namespace Ty
open PySem PySem.Spec PyProof.Rows L2
end Ty
namespace Ty
open PySem PySem.Spec PyProof.Rows L2
theorem Nv {α:Type}{nm:α→Str}{l:List α}(nd:(l.map nm).Nodup){b b' :α}(h:b∈l)(h' :b' ∈l)(e:nm b=nm b'):b=b' :=by
 obtain ⟨i,hi,ei⟩:=afN.mp h
 obtain ⟨j,hj,ej⟩:=afN.mp h'
 have q1:(l.map nm)[i]? =some (nm b):=by rw [Wp,gE hi,ei];rfl
 have q2:(l.map nm)[j]? =some (nm b):=by rw [Wp,gE hj,ej,e];rfl
 have ij:=(am0 (by rw [aaa];exact hi) nd).mp (q1.trans q2.symm)
 subst ij
 rw [← ei, ← ej]
theorem jh {α:Type}{nm:α→Str}{l:List α}(nd:(l.map nm).Nodup){i:Nat}{b b' :α}(h:l[i]? =some b)(m:b' ∈l.take i):nm b' ≠nm b:=fun e=>by
 have il:=(be.mp h).1
 obtain ⟨j,hj,ej⟩:=afN.mp m
 rw [anV] at ej
 rw [afv] at hj
 have q1:(l.map nm)[j]? =some (nm b):=by rw [Wp,gE (by omega),ej, ← e];rfl
 have q2:(l.map nm)[i]? =some (nm b):=by rw [Wp,h];rfl
 have:=(am0 (by rw [aaa];omega) nd).mp (q1.trans q2.symm)
 omega
theorem take_snoc {α:Type}{l:List α}{i:Nat}{b:α}(h:l[i]? =some b):l.take (i+1)=l.take i++[b]:=by rw [anm,h];rfl
end Ty
namespace Ty
open PySem PySem.Spec PyProof.Rows L2
theorem mV {κ:Type}[DecidableEq κ]:∀{kvs:List (κ×V)} {t:Nat} {k:κ} {y:V},(kvs.map (·.1)).Nodup→kvs[t]? =some (k,y)→bO kvs k=some y
 | p::r,0,k,y,nd,e=>by
  cases e
  exact bH rfl
 | p::r,t+1,k,y,nd,e=>by
  rw [ac_,afs] at nd
  have e' :r[t]? =some (k,y):=e
  rw [bo (fun z=>nd.1 (z▸aah.mpr ⟨_,ir e',rfl⟩))]
  exact mV nd.2 e'
end Ty
set_option maxHeartbeats 4000000
namespace Ty
open PySem PySem.Spec PyProof.Rows L2
theorem jR {H H' :Hp}(s:av H H'){p:Addr}(n:H' p=none):H p=none:=by
 cases e:H p with
 | none=>rfl
 | some o=>rw [s _ _ e] at n;cases n
end Ty
namespace Ty
open PySem PySem.Spec PyProof.Rows L2
section
variable {X:Cx}
end
section
variable {D:Addr}{te:TE}{cap:L2.St}{H1:Hp}{Q:VK}
end
end Ty
set_option maxHeartbeats 4000000
namespace Ty
open PySem PySem.Spec PyProof.Rows L2
section
variable {prog:Program}{w:World}{A:Around}{E:Value→Shared→Prop}{s:Shared}
end
section
variable {prog:Program}{w:World}{A:Around}{E:Value→Shared→Prop}{s:Shared}{z TI TO i1 i2 a b S:Addr}{i:Nat}
end
end Ty
namespace Ty
open PySem PySem.Spec PyProof.Rows L2
section
variable {X:Cx}{pins:List (Addr×Obj)}{σ:L2.St}
theorem boot_list:bootBuiltins "list"=some (.type "list"):=by decide+kernel
end
end Ty
set_option maxHeartbeats 4000000
namespace Ty
open PySem PySem.Spec PyProof.Rows L2
section
variable {X:Cx}
section
variable {k:Nat}{m:Str}{pos apos:Pos}{e o:Expr}{es:List Expr}{ta:TE}{t:TA}
end
end
section
variable {P:Program}{w:World}{K:Frag}{mg:Str→Option Value}{base:Heap}
end
end Ty
set_option maxHeartbeats 4000000
namespace Ty
open PySem PySem.Spec PyProof.Rows L2
theorem JF (l:Addr)(its:Array Value)(n:Nat)(b:Addr)(cR:Array Value)(n2:Nat)(d:Option Addr)(sl:Array (Option Value))(hs0:¬(!its.isEmpty && Builtin.List.listTooLong (its.size+cR.size))=true)(hs1:its.size≤sizeLine)(K4:its.size+cR.size≤sizeLine+1):
  Meets (Builtin.«list.extend» ⟨[.ref l,.ref b],[]⟩) (fun _ R s=>s.heap.get? l=some {cls:=.type "list",dict:=none,data:=.seq its n,slots:= #[]}∧s.heap.get? b=some {cls:=.type "tuple",dict:=d,data:=.seq cR n2,slots:=sl}∧
   R (.ok (.ret Value.none)) {s with heap:=s.heap.update l (Obj.mapSeq fun x=>x++cR),toks:=s.toks}):=
 .of_wp fun prog w A R s h=>by
  obtain ⟨hp,g,dd,tk,os⟩:=s
  obtain ⟨hl,hb,h⟩:=h
  have f1:=AutoSeq1.idx_int
  have f2:=AutoSeq1.sub_tuple_tuple
  have f3:=AutoSeq1.sub_list_list
  have f4:=AutoSeq1.sub_tuple_list
  have f5:=AutoSeq1.sub_list_tuple
  have hz' :(its++cR).size≤sizeLine+1:=by rw [Array.size_append];exact K4
  wp_walk using (wpAny_updateSeq hl rfl (hz:=hs1) (_hz' :=hz')),wpAny_loadPart' hl,wpAny_loadPart' hb
  exact ⟨_,rfl,h⟩
section
variable {X:Cx}
def QS (K:Frag):V→List V→Hp→VK→Prop:=fun x vs H Q=>∃l b xs zs,x=.ref l∧vs=[.ref b]∧H l=some (.lst xs)∧bK K H b zs∧xs.length+zs.length≤1000∧Q .cb (upd H l (.lst (xs++zs)))
theorem JG:MtR X "list.extend" (QS X.K):=by
 intro pins s σ H x vs v us Q I rx rv h
 obtain ⟨l,b,xs,zs,rfl,rfl,hH,hB,hz,q⟩:=h
 cases rx
 obtain ⟨u,rfl,ru⟩:=rv.one
 cases ru
 obtain ⟨z,its,n,r,hl,e⟩:=I.sW hH
 obtain ⟨cR,r2,tp,z2⟩:=I.tuple hB
 have hl2:=r2.length
 have big:(1000:Nat)≤sizeLine:=by decide
 have hsz:its.toArray.size+cR.toArray.size≤sizeLine:=by rw [afa,afa];omega
 have sX:¬ (!its.toArray.isEmpty && Builtin.List.listTooLong (its.toArray.size+cR.toArray.size))=true:=by
  rw [mi hsz,amW]
  exact ad_
 obtain ⟨⟨c,d,dt,sl⟩,e2,hc,n2,hd⟩:=tp
 obtain rfl:c=Value.type "tuple":=hc
 obtain rfl:dt=_:=hd
 refine call_meets F.slot_list_extend ⟨_,e,rfl⟩ F.entry_list_extend (F.args_list_extend_2 _ _)
  (JF l its.toArray n b cR.toArray n2 d sl sX (by rw [afa];omega) (by omega)) ⟨e,e2,?_⟩
 refine ⟨.cb,_,I.Jk (its' :=its++cR) hH e (by simp) (r.append r2) ?_,rfl,q⟩
 rw [afi]
 omega
end
end Ty
set_option maxHeartbeats 4000000
namespace Ty
open PySem PySem.Spec PyProof.Rows L2
section
variable {prog:Program}{w:World}{A:Around}{E:Value→Shared→Prop}{s:Shared}
end
end Ty
set_option maxHeartbeats 4000000
namespace Ty
open PySem PySem.Spec PyProof.Rows L2
section
variable {prog:Program}{w:World}{A:Around}{E:Value→Shared→Prop}{s:Shared}
end
section
variable {X:Cx}{pins:List (Addr×Obj)}{σ:L2.St}
end
end Ty
set_option maxHeartbeats 4000000
namespace Ty
open PySem PySem.Spec PyProof.Rows L2
theorem dj.snoc {K:Frag}{H:Hp}{us:List V}{qs:List (Int×Int)}{v:V}{q:Int×Int}(h:dj K H us qs)(n:kO K H v q):dj K H (us++[v]) (qs++[q]):=by
 refine ⟨by simp [h.1],fun i u q' e1 e2=> ?_⟩
 have l:=h.1
 by_cases c:i < us.length
 ·rw [afd c] at e1
  rw [afd (by omega)] at e2
  exact h.2 i u q' e1 e2
 ·rw [afm (by omega)] at e1 e2
  by_cases z:i - us.length=0
  ·rw [z] at e1
   rw [show i - qs.length=0 by omega] at e2
   cases e1
   cases e2
   exact n
  ·rw [aal (by simp;omega)] at e1
   cases e1
theorem dj.aS {K:Frag}{H H' :Hp}{us:List V}{qs:List (Int×Int)}(h:dj K H us qs)(s:bh H H'):dj K H' us qs:=⟨h.1,fun i u q e1 e2=>(h.2 i u q e1 e2).aS s⟩
end Ty
set_option maxHeartbeats 4000000
namespace Ty
open PySem PySem.Spec PyProof.Rows L2
variable {X:Cx}
end Ty
set_option maxHeartbeats 4000000
namespace Ty
open PySem PySem.Spec PyProof.Rows L2
section
variable {X:Cx}{pins:List (Addr×Obj)}{σ:L2.St}{H:Hp}{s:Shared}
theorem Inv.laidIn {a:Addr}{o:HO}(I:Inv X pins σ H s)(f:f_ X pins H a)(new:bS X.prog X.w (upd H a o) s.heap a o):Inv X pins σ (upd H a o) s:=by
 obtain ⟨f0,f1,f2,f3,f4,f5⟩:=f
 have nx:∀b u,H b=some u→upd H a o b=some u:=fun b u q=>by rw [ao (fun z=>by rw [z,f0] at q;cases q)];exact q
 refine ⟨I.ok,I.os,I.bare,⟨I.base.keep,I.base.slot,fun b ob q z hx=> ?_,I.base.there,fun b xs q=>nx b _ (I.base.ow b xs q),fun b ob u' q=>nx b _ (I.base.l0 b ob u' q),fun b ps q=> ?_⟩,I.loc,I.cell,?_,fun x c q=> ?_,fun p hp=> ?_,?_,I.len⟩
 ·rw [ao (fun e=> ?_)]
  ·exact I.base.free b ob q z hx
  ·rcases f3 with f3 | f3
   ·exact hx (e▸f3)
   ·exact absurd (Heap.lt_size q) (by rw [e];exact aom.mpr f3)
 ·obtain ⟨m,z⟩:=I.base.oy b ps q
  exact ⟨m,nx b _ z⟩
 ·rw [ao (afk f1)]
  exact I.free
 ·rw [ao (f4 x c q)]
  exact I.fG x c q
 ·obtain ⟨a1,a2,a3⟩:=I.pin p hp
  exact ⟨a1,by rw [ao (f5 p hp)];exact a2,a3⟩
 ·intro b u q
  by_cases hb:b=a
  ·subst hb
   rw [ak] at q
   cases q
   exact new
  ·rw [ao hb] at q
   exact (I.bt b u q).lZ (fun _ _ _ z=>z) (fun c z=>nx c _ z) fun c xs z=>nx c _ z
theorem qg:∀(as:List Addr) (kvs:List (Key×V)) (H:Hp),Inv X pins σ H s→as.Pairwise (· < ·)→(∀a∈as,f_ X pins H a)→as.length=kvs.length→
  (∀(j:Nat) (a:Addr) (kv:Key×V),as[j]? =some a→kvs[j]? =some kv→∃its,Vals [kV kv.1,kv.2] its∧IsTup s.heap a its.toArray)→
  ∃H',Inv X pins σ H' s∧(∀b,b∉as→H' b=H b)∧∀(j:Nat) (a:Addr) (kv:Key×V),as[j]? =some a→kvs[j]? =some kv→H' a=some (.tup [kV kv.1,kv.2])
 | [],kvs,H,I,_,_,_,_=>⟨H,I,fun _ _=>rfl,fun j a kv e=>by simp at e⟩
 | a::as,[],H,_,_,_,hl,_=>by simp at hl
 | a::as,kv::kvs,H,I,hr,hf,hl,hp=>by
  obtain ⟨r1,r2⟩:=anO.mp hr
  obtain ⟨its,v,t⟩:=hp 0 a kv rfl rfl
  have I2:=Inv.laidIn (o:=.tup [kV kv.1,kv.2]) I (hf a ae') ⟨by show 2≤sizeLine;decide,its,v,t⟩
  obtain ⟨H',I',k',t'⟩:=qg as kvs _ I2 r2 (fun b hb=>by
   obtain ⟨f0,f1⟩:=hf b (aa_ _ hb)
   exact ⟨by rw [ao (amU (r1 b hb))];exact f0,f1⟩) (by simpa using hl) (fun j b Lq e1 e2=>hp (j+1) b Lq (by simpa using e1) (by simpa using e2))
  have na:a∉as:=fun z=>afQ _ (r1 a z)
  refine ⟨H',I',fun b hb=> ?_,fun j b Lq e1 e2=> ?_⟩
  ·rw [k' b (fun z=>hb (aa_ _ z)),ao (fun z=>hb (by rw [z];exact ae'))]
  ·cases j with
   | zero=>
    cases e1
    cases e2
    rw [k' a na,ak]
   | succ j=>exact t' j b Lq (by simpa using e1) (by simpa using e2)
inductive tY (Q:VK)(x:V)(H1:Hp):Prop where
 | mk (d kvs:_) (_:x=.ref d) (_:H1 d=some (.dK kvs)) (_:∀(l:Addr) (us:List V) (H' :Hp),av H1 H' →H1 l=none→H' l=some (.lst us)→Paired (fun u (kv:Key×V)=>∃p,u=.ref p∧H' p=some (.tup [kV kv.1,kv.2])) us kvs→Q (.ref l) H'):tY Q x H1
def JH (te:TE):TE:=fun σ H Q=>te σ H fun x H1=>tY Q x H1
theorem yP {e:Expr}{te:TE}{apos b6 p pos:Pos}(hc:X.calm=true)(hg:Gl X "list")(hm:X.mg "list"=none)(ho:PE X e te)(gI:attributeBase e "items" X.env (eval e X.env)=eval e X.env:=by rfl)(gJ:(apos.endLine==b6.line)=true:=by rfl)
  (hs:starEach [(.Call (.Attribute e "items" apos) [] [] b6:Expr)] X.env=[(false,eval (.Call (.Attribute e "items" apos) [] [] b6) X.env)]:=by rfl):
  PE X (.Call (.Name "list" p) [.Call (.Attribute e "items" apos) [] [] b6] [] pos) (JH te):=by
 intro pins s σ H Q I h
 refine Call_ (gD I hg hm boot_list (PyProof.Rows.callWith_type1 ?_ hs rfl))
 rw [hs]
 show wpAny _ _ (spliced ((false,eval (.Call (.Attribute e "items" apos) [] [] b6) X.env)::[])) _ _ s
 refine Calls.spliced_cons ?_
 refine wpAny_Call_method0_late gI gJ (bV (ho pins s σ H _ I h) fun v s1 ⟨x,H1,I1,r1,q1⟩=> ?_)
 obtain ⟨d,kvs,rfl,e,q⟩:=q1
 cases r1
 obtain ⟨h1,h2,hd⟩:=mK I1 (.inl ⟨kvs,.inl e⟩)
 obtain ⟨z,yi,vs,rel,o,Ll,ep,u0,hx,dF,hk,hp,hn⟩:=pV I1.bt e
 have da:s1.heap.DictAt (aZ X.prog X.w) d vs ep:=⟨o,Ll,u0,hx,dF,hk,hp,hn⟩
 have lv:=rel.length
 refine ⟨"dict","dict.items",F.plainAttrs_dict,F.slot_dict_items,F.type_dict_items,h1,h2,Calls.callWith_builtin rfl (PySem.evalArgs_none ?_)⟩
 refine call_meetsIn F.slot_dict_items h1 F.entry_dict_items (F.args_dict_items_1 _) (meets_dict_items (aZ X.prog X.w) d hd) ⟨⟨vs,da.dictOf⟩,Calls.spliced_nil ?_⟩
 have QI:(s1.heap.push {cls:=.type "dict_items",data:=.fields #[.ref d]}).DictAt (aZ X.prog X.w) d vs ep:=da.at' fun o e=>Heap.get?_push_of_some _ e
 have I2:Inv X pins σ H1 {s1 with heap:=s1.heap.push {cls:=.type "dict_items",data:=.fields #[.ref d]},toks:=s1.toks}:=I1.kept (t' :=s1.toks) fun b o e=>Heap.get?_push_of_some _ e
 refine PySem.W.kdx_call (s:={s1 with heap:=s1.heap.push {cls:=.type "dict_items",data:=.fields #[.ref d]}}) (knd:=aZ X.prog X.w) (r:=s1.heap.objs.size) (kvs:=vs) (ep:=ep) (I1.ok.hd hc) ⟨_,Heap.get?_push_size _ rfl,rfl,rfl⟩ QI (by omega) fun h' tk acc c as kk hS hl hG ia=> ?_
 generalize K4:(s1.heap.push {cls:=.type "dict_items",data:=.fields #[.ref d]})=Jo at*
 have IQ :=I2.bt.fresh (aai Jo.objs.size)
 have sz:as.length≤sizeLine:=by omega
 have I3:Inv X pins σ H1 {s1 with heap:=h',toks:=tk}:=I2.kept (t' :=tk) kk
 have fp:∀{b:Addr},Jo.objs.size≤b→f_ X pins H1 b:=fun {b} hb=>I2.jI hb (I2.bt.fresh hb)
 have I4:=Inv.laidIn (o:=.lst (as.map V.ref)) I3 (fp (aai _)) ⟨by rw [aaa];exact sz,acc.toList,c,by
  rw [ia]
  exact bN (by simp) fun i a b e1 e2=>by
   rw [Wp] at e1 e2
   obtain ⟨x,ex,rfl⟩:=ae9.mp e1
   rw [ex] at e2
   cases e2
   rfl,by simpa using hS⟩
 obtain ⟨H',I5,k5,t5⟩:=qg as kvs _ I4 hG.rise (fun a ha=>by
  obtain ⟨f0,f1⟩:=fp (af2 (hG.above a ha))
  exact ⟨by rw [ao (amU (hG.above a ha))];exact f0,f1⟩) (by omega) (fun j a kv e1 e2=>by
  obtain ⟨key,k,x,g1,g2,g3⟩:=hG.pairs j a e1
  obtain ⟨q',eq,e3,e4⟩:=aA rel e2
  rw [eq] at g1
  cases g1
  exact ⟨[key,x],.cons (by rw [e3];exact qY g2) (.cons e4 .nil),⟨_,g3,rfl,_,rfl⟩⟩)
 have nS:Jo.objs.size∉as:=fun z=>afQ _ (hG.above _ z)
 refine ⟨.ref _,H',I5,rfl,q _ (as.map V.ref) H' (fun b o eb=> ?_) IQ (by rw [k5 _ nS,ak]) (bN (by rw [aaa];omega) fun i u kv e1 e2=> ?_)⟩
 ·have nb:∀{b' :Addr},Jo.objs.size≤b' →b≠b' :=fun {b'} hb z=>by rw [z,(fp hb).1] at eb;cases eb
  rw [k5 b (fun z=>nb (af2 (hG.above b z)) rfl),ao (nb (aai _))]
  exact eb
 ·rw [Wp] at e1
  obtain ⟨a,ea,rfl⟩:=ae9.mp e1
  exact ⟨a,rfl,t5 i a kv ea e2⟩
theorem vw {K:Frag}(h:X.K=K):iV X (compareOp .In) (XH K false):=by subst h;exact pJ
end
theorem vx {K:Frag}{D:Addr}{te:TE}{tt:TT}{cap:L2.St}{H1:Hp}{Q:VK}{a:Addr}{α:Type}{xs:List V}{zs:List α}{Rl:V→α→Prop}(p:α→Bool)(hp:Paired Rl xs zs)(nD:H1 D=none)(hn:xs.length < sizeLine)(hS:∀H,av H1 H→ba K H a xs)
  (ht:∀x z H (R:Bool→Hp→Prop),Rl x z→z∈zs→av H1 H→(∀H',av H H' →R (p z) H')→tt (some x::cap) H R)
  (he:∀x z H (R:VK),Rl x z→av H1 H→R x H→te (some x::cap) H R)
  (hd:∀ys H,Paired Rl ys (zs.filter p)→av H1 H→H D=some (.lst ys)→Q (.ref D) H):
  jd D (cD 0) tt te (IX K a) (none::cap) H1 Q:=by
 have lz:xs.length=zs.length:=Paired.length hp
 have ps:∀{l₁:List V} {l₂:List α} {a:V} {b:α},Paired Rl l₁ l₂→Rl a b→Paired Rl (l₁++[a]) (l₂++[b]):=fun {l₁ l₂ a b} h h' =>by
  induction h with
  | nil=>exact .cons h' .nil
  | cons x _ ih=>exact .cons x ih
 refine ⟨fun i m σ ys H=>m=xs.length - i∧i≤xs.length∧(∃o,σ=o::cap)∧av H1 H∧H D=some (.lst ys)∧Paired Rl ys ((zs.take i).filter p)∧ys.length≤i,⟨xs.length,by simp,aft _,⟨none,rfl⟩,fun b o e=>by rw [ao (aq e nD)];exact e,ak,by simpa using Paired.nil,aai _⟩,?_⟩
 rintro i m σ ys H ⟨rfl,hi,⟨o,rfl⟩,s,hD,ey,ly⟩
 by_cases iU:i < xs.length
 ·refine .inr ⟨⟨xs,xs[i],hS H s,gE iU⟩,fun v H' y=> ?_⟩
  obtain ⟨rfl,y2⟩:=y
  have q1:=y2 xs (hS _ s)
  obtain ⟨z,ez,hz⟩:=aA hp q1
  have er:(zs.take (i+1)).filter p=(zs.take i).filter p++(if p z=true then [z] else []):=by
   rw [take_snoc ez,agn]
   by_cases c:p z=true
   ·rw [if_pos c,afO c]
    rfl
   ·rw [if_neg c,afP c]
    rfl
  unfold cD
  refine ht v z _ _ hz (ir ez) s fun H2 s2=> ?_
  have A_:av H1 H2:=fun b o e=>s2 _ _ (s _ _ e)
  have hD2:=s2 _ _ hD
  by_cases c:p z=true
  ·rw [if_pos c]
   rw [if_pos c] at er
   refine he v z _ _ hz A_ ⟨hD2,by omega,xs.length - (i+1),by omega,rfl,by omega,⟨_,rfl⟩,?_,ak,?_,by simp;omega⟩
   ·exact fun b o e=>by
     rw [ao (aq e nD)]
     exact A_ _ _ e
   ·rw [er]
    exact ps ey hz
  ·rw [if_neg c]
   rw [if_neg c,ai_] at er
   exact ⟨xs.length - (i+1),by omega,rfl,by omega,⟨_,rfl⟩,A_,hD2,by rw [er];exact ey,by omega⟩
 ·have e:i=xs.length:=by omega
  subst e
  refine .inl ⟨⟨xs,hS _ s,aai _⟩,hd ys H ?_ s hD⟩
  rw [lz,afC] at ey
  exact ey
end Ty
set_option maxHeartbeats 4000000
namespace Ty
open PySem PySem.Spec PyProof.Rows L2
section
variable {X:Cx}
end
section
variable {D:Addr}{te:TE}{cap:L2.St}{H1:Hp}{Q:VK}
end
end Ty
set_option maxHeartbeats 4000000
namespace Ty
open PySem PySem.Spec PyProof.Rows L2
section
variable {X:Cx}{o e:Expr}{es:List Expr}{to:TE}{t:TA}{name:Str}{apos b6:Pos}{T id:String}{r:V→List V→Hp→VK→Prop}
end
end Ty
set_option maxHeartbeats 4000000
namespace Ty
open PySem PySem.Spec PyProof.Rows L2
section
variable {X:Cx}{K:Frag}
inductive QT (K:Frag)(x:V)(y:V)(H:Hp)(Q:VK):Prop where
 | mk (p xs i v:_) (_:x=.ref p) (_:y=.int i) (_:ba K H p xs∨bK K H p xs) (_:i6 xs i=some v) (_:Q v H):QT K x y H Q
theorem xn:OW X (QT X.K):=by
 intro value slice pins s σ H x y v u Q I rx ry h hs
 obtain ⟨p,xs,i,z,e1,e2,hq,he,q⟩:=h
 rcases hq with hq | hq
 ·exact bu value slice pins s σ H x y v u Q I rx ry ⟨p,xs,i,z,e1,e2,hq,he,q⟩ hs
 ·exact jN value slice pins s σ H x y v u Q I rx ry ⟨p,xs,i,z,e1,e2,hq,he,q⟩ hs
inductive tZ (Q:VK)(x:V)(H1:Hp):Prop where
 | mk (d kvs:_) (_:x=.ref d) (_:H1 d=some (.dK kvs)) (_:Q .cb (upd H1 d (.dK []))):tZ Q x H1
def JI (te:TE):TE:=fun σ H Q=>te σ H fun x H1=>tZ Q x H1
theorem yQ {e:Expr}{te:TE}{apos b6:Pos}(ho:PE X e te)(gI:attributeBase e "clear" X.env (eval e X.env)=eval e X.env:=by rfl)(gJ:(apos.endLine==b6.line)=true:=by rfl):
  PE X (.Call (.Attribute e "clear" apos) [] [] b6) (JI te):=by
 intro pins s σ H Q I h
 refine wpAny_Call_method0_late gI gJ (bV (ho pins s σ H _ I h) fun v s1 ⟨x,H1,I1,r1,q1⟩=> ?_)
 obtain ⟨d,kvs,rfl,e,q⟩:=q1
 cases r1
 obtain ⟨h1,h2,hd⟩:=mK I1 (.inl ⟨kvs,.inl e⟩)
 refine ⟨"dict","dict.clear",F.plainAttrs_dict,F.slot_dict_clear,F.type_dict_clear,h1,h2,Calls.callWith_builtin rfl (PySem.evalArgs_none ?_)⟩
 exact Jw I1 e fun s' I3=>⟨.cb,_,I3,rfl,q⟩
end
section
variable {D:Addr}{te:TE}{cap:L2.St}{H1:Hp}{Q:VK}
end
end Ty
set_option maxHeartbeats 4000000
namespace Ty
theorem qh {α:Type}[DecidableEq α]:∀{l m:List α},l.Nodup→(∀x∈l,x∈m)→l.length≤m.length
 | [],_,_,_=>aft _
 | x::l,m,h,k=>by
  obtain ⟨h1,h2⟩:=afs.mp h
  have hx:=k x ae'
  have:=qh (l:=l) (m:=m.erase x) h2 fun y hy=>(List.mem_erase_of_ne (fun z:y=x=>h1 (by rw [← z];exact hy))).mpr (k y (aa_ _ hy))
  rw [List.length_erase_of_mem hx] at this
  have p:=List.length_pos_of_mem hx
  show l.length+1≤m.length
  omega
def box (B:Nat):Nat→List (List Int)
 | 0=>[[]]
 | n+1=>(box B n).flatMap fun y=>(afz (B+1)).map fun (a:Nat)=>(a:Int)::y
theorem xo {α:Type}(c:Nat):∀l:List α,(l.map fun _=>c).sum=l.length*c
 | []=>by simp
 | _::l=>by
  rw [ac_,aga,xo c l,afu,ano]
  omega
theorem rf (B:Nat):∀n,(box B n).length=(B+1)^n
 | 0=>rfl
 | n+1=>by
  have ih:=rf B n
  unfold box
  rw [List.length_flatMap]
  have:((box B n).map fun y=>((afz (B+1)).map fun (a:Nat)=>(a:Int)::y).length)=(box B n).map fun _=>B+1:=agg fun y _=>by rw [aaa,agy]
  rw [this,xo,ih,amZ]
theorem qi (B:Nat):∀n,(box B n).Nodup
 | 0=>by simp [box]
 | n+1=>by
  have ih:=qi B n
  unfold box
  unfold List.Nodup at ih ⊢
  rw [List.pairwise_flatMap]
  refine ⟨fun y _=> ?_,ih.imp fun {y1 y2} ne x hx z hz e=> ?_⟩
  ·rw [anW]
   exact agC.imp fun {a b} ne e=>ne (by injection e with e _;exact Int.ofNat.inj e)
  ·obtain ⟨a,_,rfl⟩:=aah.mp hx
   obtain ⟨b,_,rfl⟩:=aah.mp hz
   injection e with _ e
   exact ne e
theorem g8 {B:Nat}:∀{n:Nat} {y:List Int},y∈box B n ↔ y.length=n∧∀a∈y,0≤a∧a≤(B:Int)
 | 0,y=>by
  unfold box
  rw [ae_]
  constructor
  ·intro e
   rw [e]
   exact ⟨rfl,fun a h=>nomatch h⟩
  ·intro h
   exact ant.mp h.1
 | n+1,y=>by
  unfold box
  rw [af0]
  constructor
  ·rintro ⟨z,hz,hy⟩
   obtain ⟨a,ha,rfl⟩:=aah.mp hy
   obtain ⟨h1,h2⟩:=(g8 (n:=n)).mp hz
   have:=afJ.mp ha
   refine ⟨by simp [h1],fun b hb=> ?_⟩
   rcases afo.mp hb with e | e
   ·rw [e]
    omega
   ·exact h2 b e
  ·rintro ⟨h1,h2⟩
   match y,h1 with
   | a::z,h1=>
    have ha:=h2 a ae'
    refine ⟨z,(g8 (n:=n)).mpr ⟨by simpa using h1,fun b hb=>h2 b (aa_ _ hb)⟩,aah.mpr ⟨a.toNat,afJ.mpr (show a.toNat < B+1 by omega),?_⟩⟩
    rw [show ((a.toNat:Nat):Int)=a by omega]
def fV:List Int→List Int→Int
 | a::e,b::y=>a*b+fV e y
 | _,_=>0
theorem t_:∀(e:List Int) {y z:List Int},y.length=z.length→fV e (age (fun a b=>a - b) y z)=fV e y - fV e z
 | [],y,z,h=>by simp [fV]
 | a::e,[],[],h=>by simp [fV]
 | a::e,b::y,c::z,h=>by
  have ih:=t_ e (y:=y) (z:=z) (by simpa using h)
  rw [anw]
  simp only [fV]
  rw [ih,Int.mul_sub]
  omega
theorem xp {A B:Nat}:∀{e y:List Int},(∀a∈e,a.natAbs≤A)→(∀b∈y,b.natAbs≤B)→(fV e y).natAbs≤e.length*(A*B)
 | [],y,_,_=>by simp [fV]
 | a::e,[],_,_=>by simp [fV]
 | a::e,b::y,h1,h2=>by
  have ih:=xp (e:=e) (y:=y) (fun x hx=>h1 x (aa_ _ hx)) fun x hx=>h2 x (aa_ _ hx)
  simp only [fV]
  have m:(a*b).natAbs≤A*B:=by
   rw [af3]
   exact afR (h1 a ae') (h2 b ae')
  have t:=agw (a*b) (fV e y)
  rw [afu,ano,anJ]
  omega
theorem DZ {n A:Nat}{eqs:List (List Int)}(hn:eqs.length < n)(hA:1≤A)(he:∀e∈eqs,e.length=n∧∀a∈e,a.natAbs≤A):∃z:List Int,z.length=n∧(∃a∈z,a≠0)∧(∀a∈z,a.natAbs≤(2*n*A)^eqs.length)∧∀e∈eqs,fV e z=0:=by
 generalize hC:2*n*A=C
 generalize hB:C^eqs.length=B
 have c1:1≤C:=by
  rw [← hC]
  exact afR (show 1≤2*n by omega) hA
 generalize hM:n*(A*B)=M
 have key:¬ ∀y∈box B n,∀z∈box B n,(eqs.map fun e=>fV e y+(M:Int))=(eqs.map fun e=>fV e z+(M:Int))→y=z:=by
  intro inj
  have nd:((box B n).map fun y=>eqs.map fun e=>fV e y+(M:Int)).Nodup:=by
   unfold List.Nodup
   rw [anW]
   refine List.Pairwise.imp_of_mem (fun {y z} hy hz ne e=>ne (inj y hy z hz e)) (qi B n)
  have le:=qh nd (m:=box (2*M) eqs.length) fun x hx=>by
   obtain ⟨y,hy,rfl⟩:=aah.mp hx
   obtain ⟨ly,Yr⟩:=g8.mp hy
   refine g8.mpr ⟨by simp,fun a ha=> ?_⟩
   obtain ⟨e,WA,rfl⟩:=aah.mp ha
   have b1:=xp (A:=A) (B:=B) (he e WA).2 (y:=y) fun b hb=>by
    have:=Yr b hb
    omega
   rw [(he e WA).1,hM] at b1
   omega
  rw [aaa,rf,rf] at le
  have e1:2*M+1≤C*(B+1):=by
   have e3:2*M=C*B:=by rw [← hM, ← hC, ← Nat.mul_assoc, ← Nat.mul_assoc]
   rw [e3,Nat.mul_add]
   omega
  have e2:(2*M+1)^eqs.length≤B*(B+1)^eqs.length:=by
   have:=am' e1 eqs.length
   rw [Nat.mul_pow,hB] at this
   exact this
  have e4:(B+1)^(eqs.length+1)≤(B+1)^n:=afp (by omega) hn
  have e5:B*(B+1)^eqs.length < (B+1)^(eqs.length+1):=by
   rw [amZ,anb ((B+1)^eqs.length)]
   exact Nat.mul_lt_mul_of_pos_right (afF B) (Nat.pow_pos (by omega))
  omega
 obtain ⟨y,k1⟩:=anK.mp key
 obtain ⟨hy,k2⟩:=anp.mp k1
 obtain ⟨z,k3⟩:=anK.mp k2
 obtain ⟨hz,k4⟩:=anp.mp k3
 obtain ⟨ee,ne⟩:=anp.mp k4
 obtain ⟨ly,Yr⟩:=g8.mp hy
 obtain ⟨lz,bz⟩:=g8.mp hz
 have hl:y.length=z.length:=by omega
 refine ⟨age (fun a b=>a - b) y z,by rw [List.length_zipWith];omega,?_,?_,fun e WA=> ?_⟩
 ·apply afw
  intro h
  refine ne (List.ext_getElem hl fun i h1 h2=> ?_)
  have h' :∀a∈age (fun a b=>a - b) y z,a=0:=fun a ha=>afw fun q=>h ⟨a,ha,q⟩
  have m:y[i] - z[i]∈age (fun a b=>a - b) y z:=by
   refine ir (i:=i) ?_
   rw [agt,gE h1,gE h2]
  have:=h' _ m
  omega
 ·intro a ha
  obtain ⟨i,ei⟩:=aak ha
  rw [agt] at ei
  have hi:i < y.length:=by
   apply afw
   intro q
   rw [aal (by omega)] at ei
   cases ei
  rw [gE hi,gE (show i < z.length by omega)] at ei
  have ea:y[i] - z[i]=a:=aff ei
  have q1:=Yr _ (afZ hi)
  have q2:=bz _ (afZ (show i < z.length by omega))
  omega
 ·rw [t_ e hl]
  obtain ⟨i,ei⟩:=aak WA
  have e1:=congrArg (fun l:List Int=>l[i]?) ee
  simp only [Wp,ei,af8,Option.some.injEq] at e1
  omega
def col (l:List Int)(j:Nat):Rat:=((l.getD j 0:Int):Rat)
inductive ck (A:List (List Int)):(Nat→Rat)→Prop
 | zero:ck A (fun _=>0)
 | put {f:Nat→Rat} (c:Rat) {a:List Int} (h:a∈A) (hf:ck A f):ck A (fun j=>f j+c*col a j)
theorem ck.congr {A:List (List Int)}{f g:Nat→Rat}(h:ck A f)(e:∀j,f j=g j):ck A g:=(funext e:f=g)▸h
theorem ck.add {A:List (List Int)}{f g:Nat→Rat}(hf:ck A f)(hg:ck A g):ck A (fun j=>f j+g j):=by
 induction hg with
 | zero=>exact hf.congr fun j=>by grind
 | put c h _ ih=>exact (ck.put c h ih).congr fun j=>by grind
theorem ck.mul {A:List (List Int)}{f:Nat→Rat}(k:Rat)(hf:ck A f):ck A (fun j=>k*f j):=by
 induction hf with
 | zero=>exact ck.zero.congr fun j=>by grind
 | put c h _ ih=>exact (ck.put (k*c) h ih).congr fun j=>by grind
theorem ck.mem {A:List (List Int)}{a:List Int}(h:a∈A):ck A (col a):=(ck.put 1 h ck.zero).congr fun j=>by grind
theorem ck.trans {A B:List (List Int)}{f:Nat→Rat}(hf:ck A f)(h:∀a∈A,ck B (col a)):ck B f:=by
 induction hf with
 | zero=>exact ck.zero
 | put c ha _ ih=>exact ih.add ((h _ ha).mul c)
theorem ck.mono {A B:List (List Int)}{f:Nat→Rat}(hf:ck A f)(h:∀a∈A,a∈B):ck B f:=hf.trans fun a ha=>ck.mem (h a ha)
theorem ck.first {l:List Int}{A:List (List Int)}{f:Nat→Rat}(hf:ck (l::A) f):∃a:Rat,ck A (fun j=>f j - a*col l j):=by
 induction hf with
 | zero=>exact ⟨0,ck.zero.congr fun j=>by grind⟩
 | put c h _ ih=>
  obtain ⟨a,ha⟩:=ih
  rcases afo.mp h with e | e
  ·subst e
   exact ⟨a+c,ha.congr fun j=>by grind⟩
  ·exact ⟨a,(ck.put c e ha).congr fun j=>by grind⟩
theorem ck.last {l:List Int}{A:List (List Int)}{f:Nat→Rat}(hf:ck (A++[l]) f):∃a:Rat,ck A (fun j=>f j - a*col l j):=ck.first (hf.mono fun a ha=>by
 rcases afg.mp ha with z | z
 ·exact aa_ _ z
 ·rw [ae_.mp z]
  exact ae')
theorem ck.van {A:List (List Int)}{f:Nat→Rat}{c:Nat}(hf:ck A f)(h:∀a∈A,col a c=0):f c=0:=by
 induction hf with
 | zero=>rfl
 | put k ha _ ih=>
  dsimp only
  rw [ih,h _ ha]
  grind
structure A' (nd:List (Nat×List Int)):Prop where
 nn:(nd.map (·.1)).Nodup
 here:∀x∈nd,x.2.getD x.1 0≠0
 off:∀x∈nd,∀y∈nd,x.1≠y.1→x.2.getD y.1 0=0
theorem A'.zero:∀{nd:List (Nat×List Int)} {f:Nat→Rat},A' nd→ck (nd.map (·.2)) f→(∀x∈nd,f x.1=0)→∀j,f j=0
 | [],f,_,hf,_=>fun j=>by
  have:∀{g:Nat→Rat},ck [] g→g j=0:=fun {g} h=>h.van fun a ha=>nomatch ha
  exact this hf
 | x::r,f,P,hf,hz=>by
  obtain ⟨a,ha⟩:=ck.first hf
  have nn:=afs.mp P.nn
  have v:f x.1 - a*col x.2 x.1=0:=ha.van (c:=x.1) fun b hb=>by
   obtain ⟨y,hy,rfl⟩:=aah.mp hb
   unfold col
   rw [P.off y (aa_ _ hy) x ae' (fun z=>nn.1 (by show x.1∈_;rw [← z];exact aah.mpr ⟨y,hy,rfl⟩))]
   rfl
  rw [hz x ae'] at v
  have sE:col x.2 x.1≠0:=cw (P.here x ae')
  have a0:a=0:=by grind
  subst a0
  have P' :A' r:=⟨nn.2,fun y hy=>P.here y (aa_ _ hy),fun y hy z hz=>P.off y (aa_ _ hy) z (aa_ _ hz)⟩
  exact A'.zero P' (ha.congr (g:=f) fun j=>by grind) fun y hy=>hz y (aa_ _ hy)
theorem A'.one {nd:List (Nat×List Int)}{f:Nat→Rat}(P:A' nd)(hf:ck (nd.map (·.2)) f){x:Nat×List Int}(hx:x∈nd)(hz:∀y∈nd,y.1≠x.1→f y.1=0):∃a:Rat,∀j,f j=a*col x.2 j:=by
 have sE:col x.2 x.1≠0:=cw (P.here x hx)
 refine ⟨f x.1 / col x.2 x.1,fun j=> ?_⟩
 have g:ck (nd.map (·.2)) fun j=>f j+ -(f x.1 / col x.2 x.1)*col x.2 j:=ck.put _ (aah.mpr ⟨x,hx,rfl⟩) hf
 have:=P.zero g (fun y hy=>by
  by_cases c:y.1=x.1
  ·rw [c]
   grind
  ·rw [hz y hy c]
   have:col x.2 y.1=0:=by
    unfold col
    rw [P.off x hx y hy (afk c)]
    rfl
   rw [this]
   grind) j
 grind
def ix:List Int→List (List Int)→Nat→Int
 | z::zs,a::A,j=>z*a.getD j 0+ix zs A j
 | _,_,_=>0
theorem ji:∀(zs:List Int) (A:List (List Int)),ck A (fun j=>((ix zs A j:Int):Rat))
 | [],A=>ck.zero.congr fun j=>by simp [ix]
 | _::_,[]=>ck.zero.congr fun j=>by simp [ix]
 | z::zs,a::A=>by
  have ih:=(ji zs A).mono (B:=a::A) fun b hb=>aa_ _ hb
  refine (ck.put (z:Rat) (ae') ih).congr fun j=> ?_
  simp only [ix,col]
  push_cast
  grind
theorem rg (c:Nat):∀(zs:List Int) (A:List (List Int)),fV (A.map fun a=>a.getD c 0) zs=ix zs A c
 | [],A=>by cases A <;> simp [ix,fV]
 | _::_,[]=>by simp [ix,fV]
 | z::zs,a::A=>by
  simp only [ac_,fV,ix]
  rw [rg c zs A,agd]
theorem vy {Z E:Nat}(j:Nat):∀{zs:List Int} {A:List (List Int)},(∀z∈zs,z.natAbs≤Z)→(∀a∈A,(a.getD j 0).natAbs≤E)→(ix zs A j).natAbs≤A.length*(Z*E)
 | [],A,_,_=>by simp [ix]
 | _::_,[],_,_=>by simp [ix]
 | z::zs,a::A,h1,h2=>by
  have ih:=vy j (zs:=zs) (A:=A) (fun x hx=>h1 x (aa_ _ hx)) fun x hx=>h2 x (aa_ _ hx)
  simp only [ix]
  have m:(z*a.getD j 0).natAbs≤Z*E:=by
   rw [af3]
   exact afR (h1 z ae') (h2 a ae')
  have t:=agw (z*a.getD j 0) (ix zs A j)
  rw [afu,ano,anJ]
  omega
theorem mW (j:Nat):∀{zs:List Int} {A:List (List Int)} (z:Int) (a:List Int),zs.length=A.length→ix (zs++[z]) (A++[a]) j=ix zs A j+z*a.getD j 0
 | [],[],z,a,_=>by simp [ix]
 | y::zs,b::A,z,a,h=>by
  have ih:=mW j (zs:=zs) (A:=A) z a (by simpa using h)
  simp only [am4,ix]
  rw [ih]
  omega
def QU (l:List Int):Prop:=∀d:Int,(∀j,d ∣ l.getD j 0)→d.natAbs=1
theorem D_ {l:List Int}(p:QU l){v:Nat→Int}{a:Rat}(ha:a≠0)(h:∀j,((v j:Int):Rat)=a*col l j)(j:Nat):(l.getD j 0).natAbs≤(v j).natAbs:=by
 have e:∀j,v j*(a.den:Int)=a.num*l.getD j 0:=fun j=>by
  have h1:=h j
  have h2:a=(a.num:Rat) / ((a.den:Int):Rat):=by
   rw [← anT]
   exact (anN a).symm
  have hd:((a.den:Int):Rat)≠0:=cw (by have:=a.den_pos;omega)
  rw [h2] at h1
  unfold col at h1
  have h3:((v j*(a.den:Int):Int):Rat)=((a.num*l.getD j 0:Int):Rat):=by
   rw [afL,afL]
   generalize ((a.den:Int):Rat)=D at hd h1
   grind
  exact am9.mp h3
 have dv:∀j,(a.den:Int) ∣ l.getD j 0:=fun j=>by
  have h1:a.den ∣ a.num.natAbs*(l.getD j 0).natAbs:=by
   rw [← af3, ← e j,af3]
   exact ⟨(v j).natAbs,by rw [anb];rfl⟩
  have h2:=Nat.Coprime.dvd_of_dvd_mul_left (Nat.Coprime.symm a.reduced) h1
  exact ags.mp (by simpa using h2)
 have d1:a.den=1:=by simpa using p _ dv
 have ej:=e j
 rw [d1] at ej
 have n0:a.num≠0:=fun z=>ha (Rat.num_eq_zero.mp z)
 have:v j=a.num*l.getD j 0:=by simpa using ej
 rw [this,af3]
 exact Nat.le_mul_of_pos_left _ (by omega)
theorem D' {l:List Int}(p:QU l):¬ ∀j,l.getD j 0=0:=fun h=>by
 have:=p 0 fun j=>by rw [h j];exact Int.dvd_refl 0
 simp at this
structure BA (os:List (List Int))(nd:List (Nat×List Int))(lv ps qs:List (List Int)):Prop where
 po:∀p∈ps,p∈os
 qo:∀q∈qs,q∈os
 lp:ps.length=nd.length
 lq:qs.length=lv.length
 s1:∀x∈nd,ck ps (col x.2)
 s2:∀p∈ps,ck (nd.map (·.2)) (col p)
 s3:∀(i:Nat) (l q:List Int),lv[i]? =some l→qs[i]? =some q→ck (ps++[q]) (col l)∧ck (nd.map (·.2)++[l]) (col q)
 ind:∀zs:List Int,zs.length=ps.length→(∀j,ix zs ps j=0)→∀a∈zs,a=0
theorem BA.start (os:List (List Int)):BA os [] os [] os:=by
 refine ⟨by simp,fun q hq=>hq,rfl,rfl,by simp,by simp,fun i l q e1 e2=> ?_,fun zs h _ a ha=> ?_⟩
 ·rw [e1] at e2
  cases e2
  exact ⟨ck.mem (by simp),ck.mem (by simp)⟩
 ·rw [ant.mp h] at ha
  cases ha
theorem A'.cols {nd:List (Nat×List Int)}(P:A' nd){l:List Int}(hl:ck (nd.map (·.2)) (col l))(hz:∀x∈nd,l.getD x.1 0=0):∀j,l.getD j 0=0:=fun j=>by
 have:=P.zero hl (fun x hx=>by unfold col;rw [hz x hx];rfl) j
 unfold col at this
 exact am9.mp (this.trans (by rfl))
theorem ub {A:List (List Int)}{b c:Nat}(hA:∀a∈A,∀j,(a.getD j 0).natAbs≤2^b):(A.map fun a=>a.getD c 0).length=A.length∧∀x∈A.map (fun a=>a.getD c 0),x.natAbs≤2^b:=by
 refine ⟨by simp,fun x hx=> ?_⟩
 obtain ⟨a,ha,rfl⟩:=aah.mp hx
 exact hA a ha c
theorem BA.left {os:List (List Int)}{nd:List (Nat×List Int)}{lv ps qs:List (List Int)}(O:BA os nd lv ps qs)(P:A' nd){i b:Nat}{l:List Int}(e:lv[i]? =some l)(hz:∀x∈nd,l.getD x.1 0=0)(hb:∀o∈os,∀j,(o.getD j 0).natAbs≤2^b)(pr:QU l)(j:Nat):(l.getD j 0).natAbs≤(nd.length+1)*((2*(nd.length+1)*2^b)^nd.length*2^b):=by
 have hi:i < qs.length:=by
  rw [O.lq]
  exact (be.mp e).1
 obtain ⟨q,eq⟩:∃q,qs[i]? =some q:=⟨_,gE hi⟩
 obtain ⟨t1,t2⟩:=O.s3 i l q e eq
 have hA:∀a∈ps++[q],∀j,(a.getD j 0).natAbs≤2^b:=fun a ha=>by
  rcases afg.mp ha with z | z
  ·exact hb a (O.po a z)
  ·rw [ae_.mp z]
   exact hb q (O.qo q (ir eq))
 have lA:(ps++[q]).length=nd.length+1:=by simp [O.lp]
 obtain ⟨zs,lz,nz,bz,sz⟩:=DZ (n:=nd.length+1) (A:=2^b) (eqs:=nd.map fun x=>(ps++[q]).map fun a=>a.getD x.1 0) (by simp) (ago) fun y hy=>by
  obtain ⟨x,hx,rfl⟩:=aah.mp hy
  rw [← lA]
  exact ub hA
 rw [aaa] at bz
 have v0:∀x∈nd,ix zs (ps++[q]) x.1=0:=fun x hx=>by
  rw [← rg]
  exact sz _ (aah.mpr ⟨x,hx,rfl⟩)
 have hv:ck (nd.map (·.2)++[l]) fun j=>((ix zs (ps++[q]) j:Int):Rat):=(ji zs (ps++[q])).trans fun a ha=>by
  rcases afg.mp ha with z | z
  ·exact (O.s2 a z).mono fun y hy=>afr _ hy
  ·rw [ae_.mp z]
   exact t2
 obtain ⟨a,ha⟩:=ck.last hv
 have ez:=P.zero ha fun x hx=>by
  rw [v0 x hx]
  unfold col
  rw [hz x hx]
  show ((0:Int):Rat) - a*((0:Int):Rat)=0
  grind
 by_cases c:a=0
 ·exfalso
  subst c
  have vz:∀j,ix zs (ps++[q]) j=0:=fun j=>by
   have:=ez j
   have h:((ix zs (ps++[q]) j:Int):Rat)=((0:Int):Rat):=by grind
   exact am9.mp h
  obtain ⟨rh,z,rfl⟩:∃rh z,zs=rh ++[z]:=by
   rcases anC zs with h | ⟨rh,z,h⟩
   ·rw [h] at lz
    simp at lz
   ·exact ⟨rh,z,by rw [h,anD]⟩
  have QV :rh.length=ps.length:=by
   rw [O.lp]
   simpa using lz
  have sp:∀j,ix rh ps j+z*q.getD j 0=0:=fun j=>by
   rw [← mW j z q QV]
   exact vz j
  by_cases z0:z=0
  ·subst z0
   obtain ⟨x,hx,nx⟩:=nz
   have all:=O.ind rh QV fun j=>by simpa using sp j
   rcases afg.mp hx with h | h
   ·exact nx (all x h)
   ·exact nx (ae_.mp h)
  ·have hq:ck ps (col q):=((ji rh ps).mul (-1 / (z:Rat))).congr fun j=>by
    have s' :((ix rh ps j+z*q.getD j 0:Int):Rat)=((0:Int):Rat):=by rw [sp j]
    rw [aod,afL] at s'
    have zr:(z:Rat)≠0:=cw z0
    unfold col
    grind
   have hl:ck ps (col l):=t1.trans fun a ha=>by
    rcases afg.mp ha with h | h
    ·exact ck.mem h
    ·rw [ae_.mp h]
     exact hq
   exact D' pr (P.cols (hl.trans O.s2) hz)
 ·have le:=D_ pr c (v:=fun j=>ix zs (ps++[q]) j) (fun j=>by have:=ez j;grind) j
  refine aaj le ?_
  have:=vy j (zs:=zs) (A:=ps++[q]) bz fun a ha=>hA a ha j
  rw [lA] at this
  exact this
theorem BA.need {os:List (List Int)}{nd:List (Nat×List Int)}{lv ps qs:List (List Int)}(O:BA os nd lv ps qs)(P:A' nd){b:Nat}{x:Nat×List Int}(hx:x∈nd)(hb:∀o∈os,∀j,(o.getD j 0).natAbs≤2^b)(pr:QU x.2)(j:Nat):(x.2.getD j 0).natAbs≤(nd.length+1)*((2*(nd.length+1)*2^b)^nd.length*2^b):=by
 have hA:∀a∈ps,∀j,(a.getD j 0).natAbs≤2^b:=fun a ha=>hb a (O.po a ha)
 have lf:(nd.filter fun y=>decide (y.1≠x.1)).length < nd.length:=by
  have h1:(nd.filter fun y=>decide (y.1≠x.1)).length≤nd.length:=afX ..
  rcases Nat.lt_or_eq_of_le h1 with h | h
  ·exact h
  ·have:=List.length_filter_eq_length_iff.mp h x hx
   simp at this
 obtain ⟨zs,lz,nz,bz,sz⟩:=DZ (n:=nd.length) (A:=2^b) (eqs:=(nd.filter fun y=>decide (y.1≠x.1)).map fun y=>ps.map fun a=>a.getD y.1 0) (by rw [aaa];exact lf) (ago) fun y hy=>by
  obtain ⟨z,hz,rfl⟩:=aah.mp hy
  rw [← O.lp]
  exact ub hA
 rw [aaa] at bz
 have v0:∀y∈nd,y.1≠x.1→ix zs ps y.1=0:=fun y hy ne=>by
  rw [← rg]
  exact sz _ (aah.mpr ⟨y,afG.mpr ⟨hy,by simpa using ne⟩,rfl⟩)
 have hv:ck (nd.map (·.2)) fun j=>((ix zs ps j:Int):Rat):=(ji zs ps).trans O.s2
 obtain ⟨a,ha⟩:=P.one hv hx fun y hy ne=>by
  rw [v0 y hy ne]
  rfl
 have c:a≠0:=fun z=>by
  subst z
  obtain ⟨y,hy,ny⟩:=nz
  refine ny (O.ind zs (by rw [lz,O.lp]) (fun j=> ?_) y hy)
  have h:((ix zs ps j:Int):Rat)=((0:Int):Rat):=by
   rw [ha j]
   show 0*col x.2 j=0
   grind
  exact am9.mp h
 have le:=D_ pr c (v:=fun j=>ix zs ps j) ha j
 refine aaj le ?_
 have:=vy j (zs:=zs) (A:=ps) bz fun a ha=>hA a ha j
 rw [O.lp] at this
 refine aaj this (afR (by omega) (afR ?_ (aai _)))
 refine aaj (am' (af4 _ (show 2*nd.length≤2*(nd.length+1) by omega)) _) ?_
 exact afp (Nat.mul_pos (by omega) (aoe _)) (by omega)
theorem Nw {s b:Nat}(hs:s+1≤1024):(s+1)*((2*(s+1)*2^b)^s*2^b)≤2^((s+1)*(b+11)):=by
 have h1:2*(s+1)*2^b≤2^(b+11):=by
  have:2*(s+1)≤2^11:=by
   show 2*(s+1)≤2048
   omega
  rw [am8,anb (2^b)]
  exact af4 _ this
 have h2:(2*(s+1)*2^b)^s≤2^((b+11)*s):=by
  rw [Nat.pow_mul]
  exact am' h1 s
 have h3:s+1≤2^11:=by
  show s+1≤2048
  omega
 have e:(s+1)*(b+11)=11+((b+11)*s+b):=by
  rw [ano,anJ,anb s]
  omega
 rw [e,am8,am8]
 exact afR h3 (af4 _ h2)
theorem xq {B:List (List Int)}{line lead new:List Int}{c:Nat}(k:oq line lead new c)(h1:ck B (col line))(h2:ck B (col lead)):ck B (col new):=by
 obtain ⟨s,t,u,hs,ht,e⟩:=k.oG
 have zs:=cw hs
 refine ((h1.mul ((t:Rat) / s)).add (h2.mul (-(u:Rat) / s))).congr fun j=> ?_
 have ej:((s*new.getD j 0:Int):Rat)=((t*line.getD j 0 - u*lead.getD j 0:Int):Rat):=by rw [e j]
 rw [afL,aof,afL,afL] at ej
 unfold col
 grind
theorem xr {B:List (List Int)}{line lead new:List Int}{c:Nat}(k:oq line lead new c)(h1:ck B (col new))(h2:ck B (col lead)):ck B (col line):=by
 obtain ⟨s,t,u,hs,ht,e⟩:=k.oG
 have zt:=cw ht
 refine ((h1.mul ((s:Rat) / t)).add (h2.mul ((u:Rat) / t))).congr fun j=> ?_
 have ej:((s*new.getD j 0:Int):Rat)=((t*line.getD j 0 - u*lead.getD j 0:Int):Rat):=by rw [e j]
 rw [afL,aof,afL,afL] at ej
 unfold col
 grind
theorem BA.step {os:List (List Int)}{nd gP :List (Nat×List Int)}{lv vA ps qs:List (List Int)}{lead:List Int}{j c:Nat}(O:BA os nd lv ps qs)(P:A' nd)(ej:lv[j]? =some lead)(hz:∀x∈nd,lead.getD x.1 0=0)(hc:lead.getD c 0≠0)
  (lL:vA.length=(lv.eraseIdx j).length) (ML:∀(i:Nat) (x:List Int),(lv.eraseIdx j)[i]? =some x→∃y,vA[i]? =some y∧oq x lead y c) (lN:gP.length=nd.length) (MN:∀(i:Nat) (x:List Int),(nd.map (·.2))[i]? =some x→∃y,(gP.map (·.2))[i]? =some y∧oq x lead y c):∃Ys QW,BA os (gP ++[(c,lead)]) vA Ys QW :=by
 have hj:j < lv.length:=(be.mp ej).1
 obtain ⟨q,eq⟩:∃q,qs[j]? =some q:=⟨_,gE (by rw [O.lq];exact hj)⟩
 obtain ⟨t1,t2⟩:=O.s3 j lead q ej eq
 have ml:lead∈(gP ++[(c,lead)]).map (·.2):=by simp
 have old:∀x∈nd.map (·.2),ck ((gP ++[(c,lead)]).map (·.2)) (col x):=fun x hx=>by
  obtain ⟨i,ei⟩:=aak hx
  obtain ⟨y,ey,k⟩:=MN i x ei
  refine xr k (ck.mem ?_) (ck.mem ml)
  rw [afq]
  exact afr _ (ir ey)
 have Yt:∀y∈gP.map (·.2),∃x∈nd.map (·.2),oq x lead y c:=fun y hy=>by
  obtain ⟨i,ei⟩:=aak hy
  have hi:=(be.mp ei).1
  rw [aaa] at hi
  obtain ⟨x,ex⟩:∃x,(nd.map (·.2))[i]? =some x:=⟨_,gE (by rw [aaa];omega)⟩
  obtain ⟨y',BB,k⟩:=MN i x ex
  rw [ei] at BB
  cases BB
  exact ⟨x,ir ex,k⟩
 have up:∀{f:Nat→Rat},ck ps f→ck (ps++[q]) f:=fun h=>h.mono fun a ha=>afr _ ha
 refine ⟨ps++[q],qs.eraseIdx j,fun p hp=> ?_,fun p hp=>O.qo p (agf hp),by simp [O.lp,lN],?_,fun x hx=> ?_,fun p hp=> ?_,fun i l' q' e1 e2=> ?_,fun zs lz hzs a ha=> ?_⟩
 ·rcases afg.mp hp with z | z
  ·exact O.po p z
  ·rw [ae_.mp z]
   exact O.qo q (ir eq)
 ·rw [lL,af5,af5,O.lq]
 ·rcases afg.mp hx with z | z
  ·obtain ⟨y,hy,k⟩:=Yt x.2 (aah.mpr ⟨x,z,rfl⟩)
   obtain ⟨x0,WC,rfl⟩:=aah.mp hy
   exact xq k (up (O.s1 x0 WC)) t1
  ·rw [ae_.mp z]
   exact t1
 ·rcases afg.mp hp with z | z
  ·exact (O.s2 p z).trans old
  ·rw [ae_.mp z]
   refine t2.trans fun a ha=> ?_
   rcases afg.mp ha with h | h
   ·exact old a h
   ·rw [ae_.mp h]
    exact ck.mem ml
 ·have hi:=(be.mp e1).1
  obtain ⟨x,ex⟩:∃x,(lv.eraseIdx j)[i]? =some x:=⟨_,gE (by omega)⟩
  obtain ⟨y',BB,k⟩:=ML i x ex
  rw [e1] at BB
  cases BB
  obtain ⟨i',f1,f2⟩:∃i',lv[i']? =some x∧qs[i']? =some q' :=by
   rw [afT] at ex e2
   by_cases h:i < j
   ·rw [if_pos h] at ex e2
    exact ⟨_,ex,e2⟩
   ·rw [if_neg h] at ex e2
    exact ⟨_,ex,e2⟩
  obtain ⟨u1,u2⟩:=O.s3 i' x q' f1 f2
  constructor
  ·refine xq k (u1.mono fun a ha=> ?_) (t1.mono fun a ha=>afr _ ha)
   rcases afg.mp ha with h | h
   ·exact afr _ (afr _ h)
   ·exact afl _ h
  ·refine u2.trans fun a ha=> ?_
   rcases afg.mp ha with h | h
   ·exact (old a h).mono fun b hb=>afr _ hb
   ·rw [ae_.mp h]
    exact xr k (ck.mem (by simp)) (ck.mem (afr _ ml))
 ·obtain ⟨rh,z,rfl⟩:∃rh z,zs=rh ++[z]:=by
   rcases anC zs with h | ⟨rh,z,h⟩
   ·rw [h] at lz
    simp at lz
   ·exact ⟨rh,z,by rw [h,anD]⟩
  have QV :rh.length=ps.length:=by simpa using lz
  have sp:∀j,ix rh ps j+z*q.getD j 0=0:=fun j=>by
   rw [← mW j z q QV]
   exact hzs j
  have z0:z=0:=by
   apply afw
   intro z0
   have hq:ck ps (col q):=((ji rh ps).mul (-1 / (z:Rat))).congr fun j=>by
    have s' :((ix rh ps j+z*q.getD j 0:Int):Rat)=((0:Int):Rat):=by rw [sp j]
    rw [aod,afL] at s'
    have zr:(z:Rat)≠0:=cw z0
    unfold col
    grind
   have hl:ck ps (col lead):=t1.trans fun a ha=>by
    rcases afg.mp ha with h | h
    ·exact ck.mem h
    ·rw [ae_.mp h]
     exact hq
   exact hc (P.cols (hl.trans O.s2) hz c)
  rcases afg.mp ha with h | h
  ·exact O.ind rh QV (fun j=>by have:=sp j;rw [z0] at this;simpa using this) a h
  ·rw [ae_.mp h]
   exact z0
end Ty
set_option maxHeartbeats 4000000
namespace Ty
open PySem PySem.Spec PyProof.Rows L2
section
variable {prog:Program}{w:World}{A:Around}{E:Value→Shared→Prop}{s:Shared}
theorem qj {it d:Addr}{i ep:Nat}{o:Obj}{es:Array DictEntry}{e:DictEntry}{Q:Option Value→Shared→Prop}(hit:s.heap.IsKeyIter it d i es.size ep)(oF:s.heap.get? d=some o)(kz:o.data=.dict es ep)(hx:es[i]? =some e)
  (hQ:∀h',h'.IsKeyIter it d (i+1) es.size ep→Heap.SameBut it s.heap h' →Q (some e.key) {s with heap:=h' }):
  wpAny (model prog w) A (pyNext (.ref it)) Q E s:=by
 obtain ⟨hp,g,dr,tk,os⟩:=s
 obtain ⟨⟨oc,od,QX,kL⟩,BC,Lr,EA⟩:=id hit
 have EB :oc=.type "dict_keyiterator":=Lr
 have EC :QX=.fields #[.ref d,.int (i:Int) 0,.int (es.size:Int) 0,.int (ep:Int) 0]:=EA
 subst EB EC
 have hT:Shared.TypeIs ⟨hp,g,dr,tk,os⟩ (.ref it) "dict_keyiterator":=⟨_,BC,Lr⟩
 unfold pyNext
 refine wpAny_bind (wpAny_attempt (wpAny_callSpecial?_slot (name:=Str.ofString "__next__") hT PySem.F.slot_dict_keyiterator_next
  (wpAny_call_entry PySem.F.slot_dict_keyiterator_next hT PySem.F.entry_dict_keyiterator_next ?_ (PySem.F.args_dict_keyiterator_next_1 _))))
 refine wpAny_bind (wpAny_pure ?_)
 refine wpAny_bind ?_
 refine wpAny_bind ?_
 first | refine wpAny_bind (wpAny_typeNameOfWhole_keyiter hT (wpAny_pure ?_)) | refine wpAny_bind (wpAny_typeNameOf_keyiter hT (wpAny_pure ?_))
 refine wpAny_bind (wpAny_fieldsOf BC EA ?_)
 have rj:Builtin.Dict_items.ownsTuple "dict_keyiterator"=false:=by decide
 simp only [rj,agb,if_false]
 show wpAny _ _ (if (Value.ref d==Value.none)=true then _ else _) _ _ _
 rw [if_neg (show ¬ ((Value.ref d==Value.none)=true) from ad_)]
 refine wpAny_bind (wpAny_pure ?_)
 refine wpAny_bind (wpAny_dictEntries oF kz ?_)
 rw [if_neg (by simp)]
 refine wpAny_bind (wpAny_pure ?_)
 refine wpAny_bind (wpAny_dictEpoch oF kz ?_)
 rw [if_neg (by simp)]
 refine wpAny_pure ?_
 simp only [show ¬ ((i:Int) < 0) from by omega,if_false,agu,hx]
 refine wpAny_bind ?_
 first | refine wpAny_bind (wpAny_typeNameOfWhole_keyiter hT (wpAny_pure ?_)) | refine wpAny_bind (wpAny_typeNameOf_keyiter hT (wpAny_pure ?_))
 refine wpAny_bind (wpAny_isOneOf_keyiter hT ?_)
 show wpAny _ _ (setField (.ref it) 1 (rawInt ((i:Int)+1)) >>=_) _ _ ⟨hp,g,dr,tk,os⟩
 refine wpAny_bind (wpAny_setField BC EA (by simp) ?_)
 have Ls:Heap.SameBut it hp (hp.update it (Obj.mapFields fun vB=>vB.setIfInBounds 1 (rawInt ((i:Int)+1)))):=by
  exact Heap.SameBut.update _ _ _
 have Yu:(hp.update it (Obj.mapFields fun vB=>vB.setIfInBounds 1 (rawInt ((i:Int)+1)))).IsKeyIter it d (i+1) es.size ep:=by
  exact ⟨_,Heap.get?_update_self (Obj.mapFields fun vB=>vB.setIfInBounds 1 (rawInt ((i:Int)+1))) BC rfl,rfl,rfl⟩
 generalize (hp.update it (Obj.mapFields fun vB=>vB.setIfInBounds 1 (rawInt ((i:Int)+1))))=h₁ at Ls Yu ⊢
 have hT₁:Shared.TypeIs ⟨h₁,g,dr,tk,os⟩ (.ref it) "dict_keyiterator":=by
  obtain ⟨o1,a1,a2,_⟩:=Yu
  exact ⟨_,a1,a2⟩
 refine wpAny_bind (wpAny_holding ?_)
 refine wpAny_bind (wpAny_isOneOf_keyiter hT₁ ?_)
 rw [if_pos (by decide)]
 exact wpAny_pure (wpAny_pure ⟨_,rfl,wpAny_pure (hQ h₁ Yu Ls)⟩)
theorem uc {it d:Addr}{i ep:Nat}{o:Obj}{es:Array DictEntry}{Q:Option Value→Shared→Prop}(hA:A.handled=none)(hit:s.heap.IsKeyIter it d i es.size ep)(oF:s.heap.get? d=some o)(kz:o.data=.dict es ep)(hx:es[i]? =none)
  (hQ:∀h',Heap.ExtBut it s.heap h' →Q none {s with heap:=h' }):
  wpAny (model prog w) A (pyNext (.ref it)) Q E s:=by
 obtain ⟨hp,g,dr,tk,os⟩:=s
 obtain ⟨⟨oc,od,QX,kL⟩,BC,Lr,EA⟩:=id hit
 have EB :oc=.type "dict_keyiterator":=Lr
 have EC :QX=.fields #[.ref d,.int (i:Int) 0,.int (es.size:Int) 0,.int (ep:Int) 0]:=EA
 subst EB EC
 have hT:Shared.TypeIs ⟨hp,g,dr,tk,os⟩ (.ref it) "dict_keyiterator":=⟨_,BC,Lr⟩
 unfold pyNext
 refine wpAny_bind (wpAny_attempt (wpAny_callSpecial?_slot (name:=Str.ofString "__next__") hT PySem.F.slot_dict_keyiterator_next
  (wpAny_call_entry PySem.F.slot_dict_keyiterator_next hT PySem.F.entry_dict_keyiterator_next ?_ (PySem.F.args_dict_keyiterator_next_1 _))))
 refine wpAny_bind (wpAny_pure ?_)
 refine wpAny_bind ?_
 refine wpAny_bind ?_
 first | refine wpAny_bind (wpAny_typeNameOfWhole_keyiter hT (wpAny_pure ?_)) | refine wpAny_bind (wpAny_typeNameOf_keyiter hT (wpAny_pure ?_))
 refine wpAny_bind (wpAny_fieldsOf BC EA ?_)
 have rj:Builtin.Dict_items.ownsTuple "dict_keyiterator"=false:=by decide
 simp only [rj,agb,if_false]
 show wpAny _ _ (if (Value.ref d==Value.none)=true then _ else _) _ _ _
 rw [if_neg (show ¬ ((Value.ref d==Value.none)=true) from ad_)]
 refine wpAny_bind (wpAny_pure ?_)
 refine wpAny_bind (wpAny_dictEntries oF kz ?_)
 rw [if_neg (by simp)]
 refine wpAny_bind (wpAny_pure ?_)
 refine wpAny_bind (wpAny_dictEpoch oF kz ?_)
 rw [if_neg (by simp)]
 refine wpAny_pure ?_
 simp only [show ¬ ((i:Int) < 0) from by omega,if_false,agu,hx]
 refine wpAny_bind ?_
 first | refine wpAny_bind (wpAny_typeNameOfWhole_keyiter hT (wpAny_pure ?_)) | refine wpAny_bind (wpAny_typeNameOf_keyiter hT (wpAny_pure ?_))
 show wpAny _ _ (setField (.ref it) 0 Value.none >>=_) _ _ ⟨hp,g,dr,tk,os⟩
 refine wpAny_bind (wpAny_setField BC EA (by simp) ?_)
 have Ls:Heap.SameBut it hp (hp.update it (Obj.mapFields fun vB=>vB.setIfInBounds 0 Value.none)):=Heap.SameBut.update _ _ _
 generalize (hp.update it (Obj.mapFields fun vB=>vB.setIfInBounds 0 Value.none))=h₁ at Ls ⊢
 unfold newExc
 refine wpAny_bind (wpAny_bind (wpAny_newTuple ?_))
 refine wpAny_bind ?_
 unfold firstArgMember
 refine wpAny_bind (wpAny_pure (wpAny_pure ?_))
 have hv:∀b:Bool,(if b=true then ([]:List Value).headD Value.none else Value.none)=Value.none:=fun b=>by cases b <;> rfl
 rw [hv]
 first
 | refine wpAny_alloc ?_
 | wp_step
 have own:ownMembersOf (Value.type "StopIteration") []= #[]:=by first | rfl | decide+kernel
 rw [own]
 rw [if_neg (by show ¬ (6 > sizeLine+2);decide)]
 show wpAny _ _ (newObjAsIs (Value.type "StopIteration") _) _ _ _
 wp_step
 refine wpAny_bind (wpAny_alloc ?_)
 refine wpAny_pure ?_
 refine wpAny_raiseNew_none (A:=A.in1) hA ?_
 refine wpAny_bind (wpAny_isInstance (T:="StopIteration") (b:=true) ⟨_,Heap.get?_push_size _ rfl,rfl⟩ isSubtype_stop ?_)
 exact wpAny_pure (hQ _ fun c o1 n x=>Heap.get?_push_of_some _ (Heap.get?_push_of_some _ (Ls.extBut c o1 n x)))
end
section
variable {X:Cx}
theorem xt {P:Program}{w:World}{H:Hp}{h:Heap}{d:Addr}{o:Obj}{kvs:List (List Key×V)}{DM:Array DictEntry}{ep:Nat}(ok:h8 P w H h)(e:H d=some (.cf o (.dT kvs)))(he:o.data=.dict DM ep):
  h.get? d=some o∧∃xs,KT H kvs xs∧DM.toList=xs.map (entryOfKey (tupleKind (aZ P w)))∧DM.size=kvs.length:=by
 obtain ⟨h1,z,hd,xs,rel,o',es,sJ,ho,hx,dF,hk,hn⟩:=ok d _ e
 rw [h1] at ho
 cases ho
 rw [he] at dF
 cases dF
 refine ⟨h1,xs,rel,hk,?_⟩
 have l1:=congrArg afH hk
 rw [aaa,af9] at l1
 rw [l1]
 exact (Paired.length rel).symm
def yR (d:Addr)(o:Obj)(kvs:List (List Key×V)):It:=
 ⟨fun i H=>H d=some (.cf o (.dT kvs))∧i < kvs.length,
  fun i H v H' =>H' =H∧∃k x b,kvs[i]? =some (k,x)∧v=.ref b∧H b=some (.tup (k.map kV)),
  fun i H=>H d=some (.cf o (.dT kvs))∧kvs.length≤i⟩
theorem vC {P:Program}{w:World}{K:Frag}{tg:Expr}(d it:Addr)(o:Obj)(kvs:List (List Key×V)){DM:Array DictEntry}{ep:Nat}(he:o.data=.dict DM ep):
  Turn P w K tg (yR d o kvs) [it] it (fun i h=>h.IsKeyIter it d i kvs.length ep) where
 mem:=by simp
 obj:=fun i h st b hb=>by
  have e:b=it:=by simpa using hb
  subst e
  obtain ⟨o,e,c,d⟩:=st
  exact ⟨o,e,fun v z=>by rw [d] at z;cases z⟩
 keep:=fun i h h' st k=>st.at fun o e=>k it (by simp) o e
 item:=by
  intro X hP hw hK hc i pins s σ H E I hf st hg
  subst hP hw hK
  obtain ⟨fz,hi⟩:=hg
  obtain ⟨h1,xs,rel,hk,hsz⟩:=xt I.bt fz he
  have ek:kvs[i]? =some kvs[i]:=gE hi
  obtain ⟨x,ex,e1,hb,ru⟩:=aA rel ek
  rw [← hsz] at st
  have ee:DM[i]? =some (entryOfKey (tupleKind (aZ X.prog X.w)) x):=by
   rw [← agr,hk,Wp,ex]
   rfl
  obtain ⟨f0,f1,f2,f3,f4,f5⟩:=hf it (by simp)
  refine qj st h1 he ee fun h' AY sb=> ?_
  have I1:L2.Inv X pins σ H {s with heap:=h' }:=I.turned (t' :=s.toks) (fun b o hb e=>(sb.2 b hb).trans e) f0 f1 f3 f4 f5
  rw [hsz] at AY
  obtain ⟨o',e',c',d'⟩:=id AY
  exact ⟨_,rfl,wG (s:={s with heap:=h' }) e' c' d' (by decide) ⟨.ref x.2.1,H,I1,rfl,⟨rfl,kvs[i].1,kvs[i].2,x.2.1,ek,rfl,hb⟩,AY,fun b hb=>(hf b hb).1⟩⟩
 done:=by
  intro X hP hw hK hc i pins s σ H E I hf st hg
  subst hP hw hK
  obtain ⟨fz,hi⟩:=hg
  obtain ⟨h1,xs,rel,hk,hsz⟩:=xt I.bt fz he
  rw [← hsz] at st
  obtain ⟨f0,f1,f2,f3,f4,f5⟩:=hf it (by simp)
  exact uc (I.ok.hd hc) st h1 he (Array.getElem?_eq_none (by omega)) fun h' eb=>⟨rfl,I.turned (t' :=s.toks) (fun b o hb e=>eb b o hb e) f0 f1 f3 f4 f5⟩
 self:=fun _ _ _ _ _ st h=>wpAny_pyIter_keyiter st h
theorem Inv.JJ {pins:List (Addr×Obj)}{σ:L2.St}{H:Hp}{s:Shared}{d:Addr}{kvs:List (List Key×V)}{o:Obj}(I:L2.Inv X pins σ H s)(e:H d=some (.dT kvs))(ho:s.heap.get? d=some o):L2.Inv X pins σ (upd H d (.cf o (.dT kvs))) s:=by
 have nx:∀b u,H b=some u→b≠d→upd H d (.cf o (.dT kvs)) b=some u:=fun b u q n=>by rw [ao n];exact q
 refine I.step (g' :=s.gens) (t' :=s.toks) (d' :=s.drawn) (ch:=[]) (fun _ z=>nomatch z) (fun b o _ _ _ e _=>e) (fun b o _ _ _ e _=>⟨o.slots,e⟩) (fun b o _ _ n=>by rw [ao (fun z=>by rw [z,e] at n;cases n)];exact n) (fun b o _ e=>⟨o,e⟩)
  (fun b xs q=>nx b _ q fun z=>by rw [z,e] at q;cases q) (fun b o' u q=>nx b _ q fun z=>by rw [z,e] at q;cases q) (fun b ps q=>⟨#[],by rw [nx b _ q fun z=>by rw [z,e] at q;cases q];simp⟩) (fun m hm=>hm) (fun b u q=> ?_) I.bare
 have st:∀{u'},bS X.prog X.w H s.heap b u' →bS X.prog X.w (upd H d (.cf o (.dT kvs))) s.heap b u' :=fun {u'} k=>k.lZ (fun _ _ _ k=>k) (fun c k=>nx c _ k fun z=>by rw [z,e] at k;cases k) fun c xs k=>nx c _ k fun z=>by rw [z,e] at k;cases k
 by_cases hb:b=d
 ·subst hb
  rw [ak] at q
  cases q
  exact ⟨ho,st (I.bt b _ e)⟩
 ·rw [ao hb] at q
  exact st (I.bt b u q)
def Ny (H0:Hp)(t:TS):TS:=fun D σ H=>t {D with nx:=fun σ' H' =>∃d o kvs,H' d=some (.cf o (.dT kvs))∧(∀o' u',H0 d≠some (.cf o' u'))∧D.nx σ' (upd H' d (.dT kvs))} σ H
theorem ED {st:Stmt}{t:TS}(h:PS X st t):PS X st (Ny X.H₀ t):=by
 intro pins s σ H D I q
 refine wpAny_mono (h pins s σ H _ I q) (fun f s' z=> ?_) fun _ _ z=>z
 cases f with
 | next=>
  obtain ⟨σ',H',I',d,o,kvs,e,n,k⟩:=z
  exact ⟨σ',_,Inv.DT I' e n (fun _ z=>nomatch z),k⟩
 | brk=>exact z
 | cont=>exact z
 | ret u=>exact z
theorem yS {d:Addr}{o:Obj}{kvs:List (List Key×V)}{g:TG}{tb:TS}{D:Ends}{σ:L2.St}{H:Hp}(Pv:Nat→L2.St→Hp→Prop)(h0:Pv 0 σ H)(hl:∀i σ H,i≤kvs.length→Pv i σ H→H d=some (.cf o (.dT kvs)))
  (hs:∀i k x b σ H,kvs[i]? =some (k,x)→H b=some (.tup (k.map kV))→Pv i σ H→g (.ref b) σ H fun σ2 H2=>tb {D with nx:=Pv (i+1),ct:=Pv (i+1),bk:=D.nx} σ2 H2) (hd:∀σ H,Pv kvs.length σ H→D.nx σ H):
  ∃W:Nat→Nat→L2.St→Hp→Prop,(∃m,W 0 m σ H)∧∀i m σ H,W i m σ H→
   ((yR d o kvs).stop i H∧D.nx σ H)∨((yR d o kvs).go i H∧∃N:L2.St→Hp→Prop,(∀σ' H',N σ' H' →∃m',m' < m∧W (i+1) m' σ' H')∧∀x H',(yR d o kvs).AX i H x H' →g x σ H' fun σ2 H2=>tb {D with nx:=N,ct:=N,bk:=D.nx} σ2 H2):=by
 refine ⟨fun i m σ H=>m=kvs.length - i∧i≤kvs.length∧Pv i σ H,⟨kvs.length,by simp,aft _,h0⟩,?_⟩
 rintro i m σ H ⟨rfl,hi,p⟩
 have q:=hl i σ H hi p
 by_cases iU:i < kvs.length
 ·refine .inr ⟨⟨q,iU⟩,Pv (i+1),fun σ' H' z=>⟨kvs.length - (i+1),by omega,rfl,by omega,z⟩,fun x H' y=> ?_⟩
  obtain ⟨rfl,k,x',b,ek,rfl,hb⟩:=y
  exact hs i k x' b σ _ ek hb p
 ·have e:i=kvs.length:=by omega
  subst e
  exact .inl ⟨⟨q,aai _⟩,hd σ H p⟩
theorem mX {prog:Program}{w:World}{A:Around}{E:Value→Shared→Prop}{s:Shared}{d:Addr}{o:Obj}{es:Array DictEntry}{ep:Nat}{Q:Value→Shared→Prop}(Yv:(d==sysModules)=false)(oF:s.heap.get? d=some o)(hx:o.ExactDict)(kz:o.data=.dict es ep)
  (hQ:Q (.ref s.heap.objs.size) {s with heap:=s.heap.push {cls:=.type "dict_keyiterator",data:=.fields #[.ref d,.int 0 0,.int (es.size:Int) 0,.int (ep:Int) 0]}}):wpAny (model prog w) A (pyIter (.ref d)) Q E s:=by
 have hT:s.TypeIs (.ref d) "dict":=⟨_,oF,hx.1⟩
 refine wpAny_pyIter_slot hT F.slot_dict_iter (wpAny_call_entry F.slot_dict_iter hT F.entry_dict_iter ?_ (F.args_dict_iter_1 _))
 unfold Builtin.«dict.__iter__»
 have yi :(d==sysModules)=false:=Yv
 refine wpAny_bind ?_
 unfold Builtin.Dict.dictSlotNone
 repeat (any_goals (first | (assumption) | exact hT | wp_step))
 rw [if_neg (by rw [hx.1];simp)]
 refine wpAny_pure ?_
 refine wpAny_bind ?_
 unfold slotArgs
 repeat (any_goals (first | (assumption) | exact hT | wp_step))
 rw [kz]
 refine wpAny_pure ?_
 refine wpAny_bind (wpAny_dictEpoch oF kz ?_)
 refine wpAny_bind ?_
 unfold newFields
 repeat (any_goals (first | (assumption) | exact hT | wp_step))
 exact ⟨_,rfl,"dict_keyiterator",_,⟨_,Heap.get?_push_size _ rfl,rfl⟩,F.slot_dict_keyiterator_next.lookup,hQ⟩
inductive xu (R:(It→Hp→Prop))(x:V)(H1:Hp):Prop where
 | mk (d kvs:_) (_:x=.ref d) (_:H1 d=some (.dT kvs)) (_:∀o,R (yR d o kvs) (upd H1 d (.cf o (.dT kvs)))):xu R x H1
def Nz (te:TE):TI:=fun σ H R=>te σ H fun x H1=>xu R x H1
theorem mY {e:Expr}{te:TE}{tg:Expr}(ho:PE X e te):PI X tg e (Nz te):=by
 intro pins s σ H R I h
 refine bV (ho pins s σ H _ I h) fun v s1 ⟨x,H1,I1,r1,q1⟩=> ?_
 obtain ⟨d,kvs,rfl,e,q⟩:=q1
 cases r1
 obtain ⟨z,hd,xs,rel,o,Ll,ep,u0,hx,dF,hk,hn⟩:=(show bS X.prog X.w H1 s1.heap d (.dT kvs) from I1.bt d _ e)
 have lv:Ll.size=kvs.length:=by
  have l1:=congrArg afH hk
  rw [aaa,af9] at l1
  rw [l1]
  exact (Paired.length rel).symm
 have I2:=Inv.JJ I1 e u0
 refine mX hd u0 hx dF ?_
 have I3:L2.Inv X pins σ (upd H1 d (.cf o (.dT kvs))) {s1 with heap:=s1.heap.push {cls:=.type "dict_keyiterator",data:=.fields #[.ref d,.int 0 0,.int (Ll.size:Int) 0,.int (ep:Int) 0]}}:=I2.kept (t' :=s1.toks) fun b o e=>Heap.get?_push_of_some _ e
 refine ⟨s1.heap.objs.size,[s1.heap.objs.size],_,_,_,rfl,I3,vC d _ o kvs dF,(show Heap.IsKeyIter _ _ d 0 kvs.length ep from ⟨_,Heap.get?_push_size _ rfl,rfl,by rw [lv];rfl⟩),fun b hb=> ?_,q o⟩
 have eb:b=s1.heap.objs.size:=by simpa using hb
 have le:s1.heap.objs.size≤b:=by rw [eb];exact aai _
 exact I2.jI le (I2.bt.fresh le)
end
theorem di.tR {H:Hp}{a b:Addr}{o:Obj}{kvs:List (List Key×V)}{k:List Key}(e:H a=some (.cf o (.dT kvs)))(eb:H b=some (.tup (k.map kV))):di H a (.ref b) (bO kvs k):=.inr ⟨kvs,k,b,.inr ⟨o,e⟩,rfl,eb,rfl⟩
theorem mZ {D:Addr}{te:TE}{cap:L2.St}{H1:Hp}{Q:VK}{d:Addr}{o:Obj}{kvs:List (List Key×V)}(Rel:Nat→V→Hp→Prop)(nD:H1 D=none)(hn:kvs.length < sizeLine)(hX:H1 d=some (.cf o (.dT kvs)))
  (hR:∀i v H H' ys,H D=some (.lst ys)→aT D H H' →Rel i v H→Rel i v H')
  (he:∀i k y b H (R:VK),kvs[i]? =some (k,y)→H b=some (.tup (k.map kV))→av H1 H→(∃zs,H D=some (.lst zs))→(∀v H6,av H H6→Rel i v H6→R v H6)→te (some (.ref b)::cap) H R)
  (hd:∀zs H,zs.length=kvs.length→(∀i v,zs[i]? =some v→Rel i v H)→av H1 H→H D=some (.lst zs)→Q (.ref D) H):
  jd D (cD 0) jO te (yR d o kvs) (none::cap) H1 Q:=by
 refine ⟨fun i m σ zs H=>m=kvs.length - i∧i≤kvs.length∧(∃o,σ=o::cap)∧(zs.length=i∧(∀i v,zs[i]? =some v→Rel i v H)∧av H1 H)∧H D=some (.lst zs),⟨kvs.length,by simp,aft _,⟨none,rfl⟩,⟨rfl,fun i v e=>by simp at e,fun b o e=>by rw [ao (aq e nD)];exact e⟩,ak⟩,?_⟩
 rintro i m σ zs H ⟨rfl,hi,⟨o1,rfl⟩,⟨l,r,s⟩,hD⟩
 by_cases iU:i < kvs.length
 ·refine .inr ⟨⟨s _ _ hX,iU⟩,fun v H' y=> ?_⟩
  obtain ⟨rfl,k,x,b0,q1,rfl,hb0⟩:=y
  unfold cD jO
  dsimp only
  rw [if_pos rfl]
  refine he i k x b0 _ _ q1 hb0 s ⟨zs,hD⟩ fun v H6 s6 rv=>⟨s6 _ _ hD,by omega,kvs.length - (i+1),by omega,rfl,by omega,⟨_,rfl⟩,⟨by simp [l],fun j u e=> ?_,fun b o e=> ?_⟩,ak⟩
  ·by_cases c:j < zs.length
   ·rw [afd c] at e
    have ru:=hR j u H' H6 zs hD (aT.of fun b o q=>s6 _ _ q) (r j u e)
    exact hR j u H6 _ zs (s6 _ _ hD) aT.upd ru
   ·rw [afm (by omega)] at e
    have ej:j=i:=by
     by_cases z:j - zs.length=0
     ·omega
     ·rw [aal (by simp;omega)] at e
      cases e
    subst ej
    have:v=u:=by
     rw [show j - zs.length=0 by omega] at e
     exact aff e
    subst this
    exact hR j v H6 _ zs (s6 _ _ hD) aT.upd rv
  ·rw [ao (aq e nD)]
   exact s6 _ _ (s _ _ e)
 ·have e:i=kvs.length:=by omega
  subst e
  exact .inl ⟨⟨s _ _ hX,aai _⟩,hd zs H l r s hD⟩
end Ty
set_option maxHeartbeats 4000000
namespace Ty
open PySem PySem.Spec PyProof.Rows L2
section
variable {prog:Program}{w:World}{A:Around}{E:Value→Shared→Prop}{s:Shared}
theorem ud (hh:A.handled=none)(I d:Addr)(sE:d≠I)(o:Obj)(es:Array DictEntry)(ep:Nat)(kz:o.data=.dict es ep):
  Walks prog w A I [I,d] [I] es.size (fun i v=>∃e,es[i]? =some e∧v=e.key) (fun i h=>h.IsKeyIter I d i es.size ep∧h.get? d=some o) where
 sub:=fun b hb=>by simp at hb;simp [hb]
 frame:=fun _ _ _ st hk=>⟨st.1.at fun o e=>hk I (by simp) o e,hk d (by simp) _ st.2⟩
 item:=fun i s Q E hi st hQ=>by
  have hx:es[i]? =some es[i]:=by simp [hi]
  refine qj st.1 st.2 kz hx fun h' vD xf => ?_
  exact hQ _ h' s.toks ⟨_,hx,rfl⟩ ⟨vD,xf.extBut d o sE st.2⟩ fun b o hb e=>xf.extBut b o (fun h=>hb (by simp [h])) e
 done:=fun s Q E st hQ=>uc hh st.1 st.2 kz (by simp) fun h' Yw =>hQ h' s.toks fun b o hb e=>Yw b o (fun h=>hb (by simp [h])) e
 self:=fun _ _ _ _ st hQ=>wpAny_pyIter_keyiter st.1 hQ
theorem yT {d:Addr}{o:Obj}{es:Array DictEntry}{ep:Nat}(lo:(d==sysModules)=false)(hx:o.ExactDict)(kz:o.data=.dict es ep):PySem.W.KdlSrc prog w "dict" d d es.size (fun i v=>∃e,es[i]? =some e∧v=e.key) (fun h=>h.get? d=some o) where
 type:=fun _ hm=>⟨o,hm,hx.1⟩
 there:=fun _ hm=>⟨Heap.lt_size hm,Heap.lt_size hm⟩
 keep:=fun _ _ hm hk=>hk d (.inl rfl) o hm
 notList:=by decide
 notTuple:=by decide
 hint:=fun _ _ _ _ hm hq=>PySem.W.kdl_hint_dict ⟨o,hm,hx.1⟩ hq
 iter:=fun _ _ hh hm=>⟨_,_,(fun _ _ hq=>mX lo hm hx kz hq),ud hh _ d (afn (Heap.lt_size hm)) o es ep kz,⟨⟨_,Heap.get?_push_size _ rfl,rfl,rfl⟩,Heap.get?_push_of_some _ hm⟩⟩
theorem yU {it d:Addr}{i ep:Nat}{od:Obj}{es:Array DictEntry}{e:DictEntry}{Q:Option Value→Shared→Prop}(hit:s.heap.IsValIter it d i es.size ep)(oF:s.heap.get? d=some od)(kz:od.data=.dict es ep)(hx:es[i]? =some e)
  (hQ:∀h',h'.IsValIter it d (i+1) es.size ep→Heap.SameBut it s.heap h' →Q (some e.val) {s with heap:=h' }):
  wpAny (model prog w) A (pyNext (.ref it)) Q E s:=by
 obtain ⟨o,ho,hc,hd⟩:=id hit
 unfold pyNext
 refine wpAny_bind (wpAny_attempt (wpAny_callSpecial?_slot (name:=Str.ofString "__next__") hit.typeIs F.slot_dict_valueiterator_next
  (wpAny_call_entry F.slot_dict_valueiterator_next hit.typeIs F.entry_dict_valueiterator_next ?_ (F.args_dict_valueiterator_next_1 _))))
 refine wpAny_bind (wpAny_pure ?_)
 refine wpAny_bind ?_
 refine wpAny_bind ?_
 first | refine wpAny_bind (wpAny_typeNameOfWhole_valiter hit.typeIs (wpAny_pure ?_)) | refine wpAny_bind (wpAny_typeNameOf_valiter hit.typeIs (wpAny_pure ?_))
 refine wpAny_bind (wpAny_fieldsOf ho hd ?_)
 have rj:Builtin.Dict_items.ownsTuple "dict_valueiterator"=false:=by decide
 simp only [rj,agb,if_false]
 show wpAny _ _ (if (Value.ref d==Value.none)=true then _ else _) _ _ s
 rw [if_neg (show ¬ ((Value.ref d==Value.none)=true) from ad_)]
 refine wpAny_bind (wpAny_pure ?_)
 refine wpAny_bind (wpAny_dictEntries oF kz ?_)
 rw [if_neg (by simp)]
 refine wpAny_bind (wpAny_pure ?_)
 refine wpAny_bind (wpAny_dictEpoch oF kz ?_)
 rw [if_neg (by simp)]
 refine wpAny_pure ?_
 simp only [show ¬ ((i:Int) < 0) from by omega,if_false,agu,hx]
 refine wpAny_bind ?_
 first | refine wpAny_bind (wpAny_typeNameOfWhole_valiter hit.typeIs (wpAny_pure ?_)) | refine wpAny_bind (wpAny_typeNameOf_valiter hit.typeIs (wpAny_pure ?_))
 refine wpAny_bind (wpAny_isOneOf_valiter hit.typeIs ?_)
 show wpAny _ _ (setField (.ref it) 1 (rawInt ((i:Int)+1)) >>=_) _ _ s
 refine wpAny_bind (wpAny_setField ho hd (by simp) ?_)
 have vD :(s.heap.update it (Obj.mapFields (·.setIfInBounds 1 (rawInt ((i:Int)+1))))).IsValIter it d (i+1) es.size ep:=
  ⟨_,Heap.get?_update_self _ ho (Obj.isFreed_of_fields (Obj.data_mapFields hd _)),(Obj.cls_mapFields ..).trans hc,by rw [Obj.data_mapFields hd];simp [rawInt]⟩
 refine wpAny_bind (wpAny_holding ?_)
 refine wpAny_bind (wpAny_isOneOf_valiter (s:={s with heap:=s.heap.update it (Obj.mapFields (·.setIfInBounds 1 (rawInt ((i:Int)+1))))}) vD.typeIs ?_)
 refine wpAny_bind (wpAny_isOneOf_valiter (s:={s with heap:=s.heap.update it (Obj.mapFields (·.setIfInBounds 1 (rawInt ((i:Int)+1))))}) vD.typeIs ?_)
 show wpAny _ _ (pure e.val) _ _ _
 exact wpAny_pure (wpAny_pure ⟨_,rfl,wpAny_pure (hQ _ vD (Heap.SameBut.update ..))⟩)
theorem EE {it d:Addr}{i ep:Nat}{od:Obj}{es:Array DictEntry}{Q:Option Value→Shared→Prop}(hh:A.handled=none)(hit:s.heap.IsValIter it d i es.size ep)(oF:s.heap.get? d=some od)(kz:od.data=.dict es ep)(hx:es[i]? =none)
  (hQ:∀h',Heap.ExtBut it s.heap h' →Q none {s with heap:=h' }):wpAny (model prog w) A (pyNext (.ref it)) Q E s:=by
 obtain ⟨hp,g,dr,tk,os⟩:=s
 obtain ⟨⟨oc,odd,QX,kL⟩,BC,Lr,EA⟩:=id hit
 have EB :oc=.type "dict_valueiterator":=Lr
 have EC :QX=.fields #[.ref d,.int (i:Int) 0,.int (es.size:Int) 0,.int (ep:Int) 0]:=EA
 subst EB EC
 have hT:Shared.TypeIs ⟨hp,g,dr,tk,os⟩ (.ref it) "dict_valueiterator":=⟨_,BC,Lr⟩
 unfold pyNext
 refine wpAny_bind (wpAny_attempt (wpAny_callSpecial?_slot (name:=Str.ofString "__next__") hT F.slot_dict_valueiterator_next
  (wpAny_call_entry F.slot_dict_valueiterator_next hT F.entry_dict_valueiterator_next ?_ (F.args_dict_valueiterator_next_1 _))))
 refine wpAny_bind (wpAny_pure ?_)
 refine wpAny_bind ?_
 refine wpAny_bind ?_
 first | refine wpAny_bind (wpAny_typeNameOfWhole_valiter hT (wpAny_pure ?_)) | refine wpAny_bind (wpAny_typeNameOf_valiter hT (wpAny_pure ?_))
 refine wpAny_bind (wpAny_fieldsOf BC EA ?_)
 have rj:Builtin.Dict_items.ownsTuple "dict_valueiterator"=false:=by decide
 simp only [rj,agb,if_false]
 show wpAny _ _ (if (Value.ref d==Value.none)=true then _ else _) _ _ _
 rw [if_neg (show ¬ ((Value.ref d==Value.none)=true) from ad_)]
 refine wpAny_bind (wpAny_pure ?_)
 refine wpAny_bind (wpAny_dictEntries oF kz ?_)
 rw [if_neg (by simp)]
 refine wpAny_bind (wpAny_pure ?_)
 refine wpAny_bind (wpAny_dictEpoch oF kz ?_)
 rw [if_neg (by simp)]
 refine wpAny_pure ?_
 simp only [show ¬ ((i:Int) < 0) from by omega,if_false,agu,hx]
 refine wpAny_bind ?_
 first | refine wpAny_bind (wpAny_typeNameOfWhole_valiter hT (wpAny_pure ?_)) | refine wpAny_bind (wpAny_typeNameOf_valiter hT (wpAny_pure ?_))
 show wpAny _ _ (setField (.ref it) 0 Value.none >>=_) _ _ ⟨hp,g,dr,tk,os⟩
 refine wpAny_bind (wpAny_setField BC EA (by simp) ?_)
 have Ls:Heap.SameBut it hp (hp.update it (Obj.mapFields fun vB=>vB.setIfInBounds 0 Value.none)):=Heap.SameBut.update _ _ _
 generalize (hp.update it (Obj.mapFields fun vB=>vB.setIfInBounds 0 Value.none))=h₁ at Ls ⊢
 unfold newExc
 refine wpAny_bind (wpAny_bind (wpAny_newTuple ?_))
 refine wpAny_bind ?_
 unfold firstArgMember
 refine wpAny_bind (wpAny_pure (wpAny_pure ?_))
 have hv:∀b:Bool,(if b=true then ([]:List Value).headD Value.none else Value.none)=Value.none:=fun b=>by cases b <;> rfl
 rw [hv]
 first
 | refine wpAny_alloc ?_
 | wp_step
 have own:ownMembersOf (Value.type "StopIteration") []= #[]:=by first | rfl | decide+kernel
 rw [own]
 rw [if_neg (by show ¬ (6 > sizeLine+2);decide)]
 show wpAny _ _ (newObjAsIs (Value.type "StopIteration") _) _ _ _
 wp_step
 refine wpAny_bind (wpAny_alloc ?_)
 refine wpAny_pure ?_
 refine wpAny_raiseNew_none (A:=A.in1) hh ?_
 refine wpAny_bind (wpAny_isInstance (T:="StopIteration") (b:=true) ⟨_,Heap.get?_push_size _ rfl,rfl⟩ isSubtype_stop ?_)
 exact wpAny_pure (hQ _ fun c o1 n x=>Heap.get?_push_of_some _ (Heap.get?_push_of_some _ (Ls.extBut c o1 n x)))
theorem vE {v d:Addr}{o:Obj}{es:Array DictEntry}{ep:Nat}{Q:Value→Shared→Prop}(hv:s.heap.IsValuesView v d)(ho:s.heap.get? d=some o)(dF:o.data=.dict es ep)
  (hQ:Q (.ref s.heap.objs.size) {s with heap:=s.heap.push {cls:=.type "dict_valueiterator",data:=.fields #[.ref d,.int 0 0,.int (es.size:Int) 0,.int (ep:Int) 0]}}):
  wpAny (model prog w) A (pyIter (.ref v)) Q E s:=by
 obtain ⟨ov,hov,hcv,hdv⟩:=id hv
 refine wpAny_pyIter_slot hv.typeIs F.slot_dict_values_iter (wpAny_call_entry F.slot_dict_values_iter hv.typeIs F.entry_dict_values_iter ?_ (F.args_dict_values_iter_1 _))
 unfold Builtin.«dict_values.__iter__»
 refine wpAny_bind (wpAny_pure ?_)
 refine wpAny_bind ?_
 unfold Builtin.Dict_items.dictOf
 refine wpAny_bind (wpAny_field hov hdv (x:=.ref d) rfl (wpAny_pure ?_))
 refine wpAny_bind ?_
 unfold Builtin.Dict_items.newIterator
 refine wpAny_bind (wpAny_dictEntries ho dF ?_)
 refine wpAny_bind (wpAny_dictEpoch ho dF ?_)
 have rj:Builtin.Dict_items.ownsTuple "dict_valueiterator"=false:=by decide
 simp only [rj,agb,if_false]
 refine wpAny_newObj_type (wpAny_pure ⟨_,rfl,"dict_valueiterator",_,⟨_,Heap.get?_push_size _ rfl,rfl⟩,F.slot_dict_valueiterator_next.lookup,?_⟩)
 simpa [rawInt] using hQ
theorem ue (hh:A.handled=none)(I d:Addr)(sE:d≠I)(o:Obj)(es:Array DictEntry)(ep:Nat)(kz:o.data=.dict es ep):
  Walks prog w A I [I,d] [I] es.size (fun i v=>∃e,es[i]? =some e∧v=e.val) (fun i h=>h.IsValIter I d i es.size ep∧h.get? d=some o) where
 sub:=fun b hb=>by simp at hb;simp [hb]
 frame:=fun _ _ _ st hk=>⟨st.1.at fun o e=>hk I (by simp) o e,hk d (by simp) _ st.2⟩
 item:=fun i s Q E hi st hQ=>by
  have hx:es[i]? =some es[i]:=by simp [hi]
  refine yU st.1 st.2 kz hx fun h' vD xf => ?_
  exact hQ _ h' s.toks ⟨_,hx,rfl⟩ ⟨vD,xf.extBut d o sE st.2⟩ fun b o hb e=>xf.extBut b o (fun h=>hb (by simp [h])) e
 done:=fun s Q E st hQ=>EE hh st.1 st.2 kz (by simp) fun h' Yw =>hQ h' s.toks fun b o hb e=>Yw b o (fun h=>hb (by simp [h])) e
 self:=fun _ _ _ _ st hQ=>wpAny_pyIter_valiter st.1 hQ
theorem yV {r d:Addr}{o:Obj}{es:Array DictEntry}{ep:Nat}(kz:o.data=.dict es ep):PySem.W.KdlSrc prog w "dict_values" r d es.size (fun i v=>∃e,es[i]? =some e∧v=e.val) (fun h=>h.IsValuesView r d∧h.get? d=some o) where
 type:=fun _ hm=>hm.1.typeIs
 there:=fun _ hm=>⟨let ⟨_,ho,_⟩:=hm.1;Heap.lt_size ho,Heap.lt_size hm.2⟩
 keep:=fun _ _ hm hk=>⟨let ⟨o,ho,x⟩:=hm.1;⟨o,hk r (.inl rfl) o ho,x⟩,hk d (.inr rfl) o hm.2⟩
 notList:=by decide
 notTuple:=by decide
 hint:=fun _ _ _ _ hm hq=>PySem.W.kdl_hint_values hm.1.typeIs hq
 iter:=fun _ _ hh hm=>⟨_,_,(fun _ _ hq=>vE hm.1 hm.2 kz hq),ue hh _ d (afn (Heap.lt_size hm.2)) o es ep kz,⟨⟨_,Heap.get?_push_size _ rfl,rfl,rfl⟩,Heap.get?_push_of_some _ hm.2⟩⟩
theorem uf (d:Addr)(hd:(d==sysModules)=false):
  MeetsIn prog w (Builtin.«dict.values» ⟨[.ref d],[]⟩) (fun _ R s=>s.TypeIs (.ref d) "dict"∧
   R (.ok (.ret (.ref s.heap.objs.size))) {s with heap:=s.heap.push {cls:=.type "dict_values",data:=.fields #[.ref d]}}):=
 .of_wp fun A R s ⟨hT,h⟩=>by
  refine wpAny_bind ?_
  unfold Builtin.Dict.noArgs
  refine wpAny_bind (wpAny_notOrdered_dict hT ?_)
  show wpAny _ _ (pure d) _ _ s
  refine wpAny_pure ?_
  show wpAny _ _ (Builtin.Dict.showsAll d >>=_) _ _ s
  unfold Builtin.Dict.showsAll
  rw [if_neg (by rw [hd];exact ad_)]
  refine wpAny_bind (wpAny_pure ?_)
  exact wpAny_bind (wpAny_newObj_type (wpAny_pure ⟨_,rfl,h⟩))
end
section
variable {X:Cx}
inductive xv (xs:List V)(H:Hp)(Q:VK):Prop where
 | mk (p:Addr) (kvs:List (List Key×V)) (_:xs=[.ref p]) (_:Rd H p (.dT kvs)) (_:∀l us,H l=none→Paired (fun u (kv:List Key×V)=>∃b,u=.ref b∧H b=some (.tup (kv.1.map kV))) us kvs→Q (.ref l) (upd H l (.lst us))):xv xs H Q
theorem ug (hc:X.calm=true):eK X (.type "list") xv:=by
 intro pins s σ H xs us Q I r h
 obtain ⟨p,kvs,rfl,hq,q⟩:=h
 obtain ⟨u,rfl,r1⟩:=vals1 r
 cases r1
 obtain ⟨z,hd,ks,rel,o,es,ep,ho,hx,dF,hk,_,hn⟩:=ku I.bt hq
 have hl:kvs.length=ks.length:=Paired.length rel
 have he:es.size=ks.length:=by
  have:=congrArg afH hk
  simpa using this
 refine PySem.W.kdl_call (yT hd hx dF) (I.ok.hd hc) ho (by omega) fun h' tk eO c' kk hS ia=> ?_
 have IQ :=I.bt.fresh (aai s.heap.objs.size)
 have la:eO.toList.length=kvs.length:=by rw [af9,ia.1];omega
 have at' :∀(i:Nat) (v:Value) (kv:List Key×V),eO.toList[i]? =some v→kvs[i]? =some kv→∃b,v=.ref b∧H b=some (.tup (kv.1.map kV)):=fun i v kv e1 e2=>by
  obtain ⟨x,ex,e3,hb,_⟩:=aA rel e2
  obtain ⟨e,ee,rfl⟩:=ia.2 i v (by simpa using e1)
  have e5:es[i]? =some (entryOfKey (tupleKind (aZ X.prog X.w)) x):=by
   rw [← agr,hk,Wp,ex]
   rfl
  rw [e5] at ee
  cases ee
  exact ⟨x.2.1,rfl,hb⟩
 have vs:∀(l:List Value) (m:List (List Key×V)),l.length=m.length→(∀(i:Nat) (v:Value) (kv:List Key×V),l[i]? =some v→m[i]? =some kv→∃b,v=.ref b∧H b=some (.tup (kv.1.map kV)))→∃us:List V,Vals us l∧Paired (fun u (kv:List Key×V)=>∃b,u=.ref b∧H b=some (.tup (kv.1.map kV))) us m:=by
  intro l
  induction l with
  | nil=>
   intro m hm _
   cases m with
   | nil=>exact ⟨[],.nil,.nil⟩
   | cons _ _=>simp at hm
  | cons v l ih=>
   intro m hm hv
   cases m with
   | nil=>simp at hm
   | cons kv m=>
    obtain ⟨us,h1,h2⟩:=ih m (by simpa using hm) fun i v kv e1 e2=>hv (i+1) v kv (by simpa using e1) (by simpa using e2)
    obtain ⟨b,rfl,hb⟩:=hv 0 v kv rfl rfl
    exact ⟨.ref b::us,.cons rfl h1,.cons ⟨b,rfl,hb⟩ h2⟩
 obtain ⟨us,rv,pu⟩:=vs _ _ la at'
 have lu:us.length=kvs.length:=Paired.length pu
 have I2:L2.Inv X pins σ (upd H s.heap.objs.size (.lst us)) {s with heap:=h',toks:=tk}:=I.laid (t' :=tk) kk (aai _) ⟨by rw [lu];exact z,eO.toList,c',rv,by simpa using hS⟩
 exact ⟨.ref _,_,I2,rfl,q _ us IQ pu⟩
inductive uh (Q:VK)(x:V)(H1:Hp):Prop where
 | mk (d kvs:_) (_:x=.ref d) (_:H1 d=some (.dT kvs)) (_:∀l,H1 l=none→Q (.ref l) (upd H1 l (.lst (kvs.map fun kv=>kv.2)))):uh Q x H1
def JK (te:TE):TE:=fun σ H Q=>te σ H fun x H1=>uh Q x H1
theorem yW {e:Expr}{te:TE}{apos b6 p pos:Pos}(hc:X.calm=true)(hg:Gl X "list")(hm:X.mg "list"=none)(ho:PE X e te)(gI:attributeBase e "values" X.env (eval e X.env)=eval e X.env:=by rfl)(gJ:(apos.endLine==b6.line)=true:=by rfl)
  (hs:starEach [(.Call (.Attribute e "values" apos) [] [] b6:Expr)] X.env=[(false,eval (.Call (.Attribute e "values" apos) [] [] b6) X.env)]:=by rfl):
  PE X (.Call (.Name "list" p) [.Call (.Attribute e "values" apos) [] [] b6] [] pos) (JK te):=by
 intro pins s σ H Q I h
 refine Call_ (gD I hg hm boot_list (PyProof.Rows.callWith_type1 ?_ hs rfl))
 rw [hs]
 show wpAny _ _ (spliced ((false,eval (.Call (.Attribute e "values" apos) [] [] b6) X.env)::[])) _ _ s
 refine Calls.spliced_cons ?_
 refine wpAny_Call_method0_late gI gJ (bV (ho pins s σ H _ I h) fun v s1 ⟨x,H1,I1,r1,q1⟩=> ?_)
 obtain ⟨d,kvs,rfl,e,q⟩:=q1
 cases r1
 obtain ⟨h1,h2,hd⟩:=mK I1 (.inr ⟨kvs,.inl e⟩)
 obtain ⟨z,yi,ks,rel,o,es,ep,u0,hx,dF,hk,_,hn⟩:=Lj I1.bt e
 have hl:kvs.length=ks.length:=Paired.length rel
 have he:es.size=ks.length:=by
  have:=congrArg afH hk
  simpa using this
 refine ⟨"dict","dict.values",F.plainAttrs_dict,F.slot_dict_values,F.type_dict_values,h1,h2,Calls.callWith_builtin rfl (PySem.evalArgs_none ?_)⟩
 refine call_meetsIn F.slot_dict_values h1 F.entry_dict_values (F.args_dict_values_1 _) (uf d hd) ⟨h1,Calls.spliced_nil ?_⟩
 have I2:L2.Inv X pins σ H1 {s1 with heap:=s1.heap.push {cls:=.type "dict_values",data:=.fields #[.ref d]},toks:=s1.toks}:=I1.kept (t' :=s1.toks) fun b o e=>Heap.get?_push_of_some _ e
 refine PySem.W.kdl_call (s:={s1 with heap:=s1.heap.push {cls:=.type "dict_values",data:=.fields #[.ref d]}}) (yV (r:=s1.heap.objs.size) dF) (I1.ok.hd hc) ⟨⟨_,Heap.get?_push_size _ rfl,rfl,rfl⟩,Heap.get?_push_of_some _ u0⟩ (by omega) fun h' tk eO c' kk hS ia=> ?_
 have IQ :=I2.bt.fresh (aai (s1.heap.push {cls:=.type "dict_values",data:=.fields #[.ref d]}).objs.size)
 have rv:Vals (kvs.map fun kv=>kv.2) eO.toList:=bN (by have:=ia.1;simp;omega) fun i a b e1 e2=>by
  rw [Wp] at e1
  obtain ⟨kv,ek,rfl⟩:=ae9.mp e1
  obtain ⟨x,ex,e3,_,ru⟩:=aA rel ek
  obtain ⟨en,ee,rfl⟩:=ia.2 i b (by simpa using e2)
  have e5:es[i]? =some (entryOfKey (tupleKind (aZ X.prog X.w)) x):=by
   rw [← agr,hk,Wp,ex]
   rfl
  rw [e5] at ee
  cases ee
  exact ru
 have I3:=I2.laid (t' :=tk) (o:=.lst (kvs.map fun kv=>kv.2)) kk (aai _) ⟨by rw [aaa];exact z,eO.toList,c',rv,by simpa using hS⟩
 exact ⟨.ref _,_,I3,rfl,q _ IQ⟩
theorem JL {K:Frag}(h:X.K=K):P_ X (MS K):=by subst h;exact vk
end
section
variable {X:Cx}
theorem EF {i:Nat}{y yc:Str}{py:Pos}{CT:Pos}{elt target iter:Expr}{ifs:List Expr}{scope:Scope}{pos:Pos}{tn fr:List Str}{caps:List Nat}{wi:TI}{g:TG}{tt:TT}{te:TE}(hN:X.N.Nodup)(X':X.N[i]? =some y)(hx:Loc X.env.scope y)
  (hc:X.calm=true) (B:Qu X scope yc fr caps) (hi:PI X target iter wi)
  (hg:∀C s H fp,PG (je X (tn++fr) scope yc (bj X.env fr) C s H fp) target g) (ht:∀C s H fp,PF (je X (tn++fr) scope yc (bj X.env fr) C s H fp) ifs tt) (he:∀C s H fp,PE (je X (tn++fr) scope yc (bj X.env fr) C s H fp) elt te)
  (CU:swapsWith (.ListComp elt [⟨target,iter,ifs,0⟩] scope pos) (some (.Name y py)) CT.line X.env=pure true:=by rfl)
  (hs:∀x,foldedSetIterable iter X.env x=pure x:=by intro _;rfl) (hf:X.fn y=true∨X.env.scope.names.lookup y=some .local:=by first | exact .inl rfl | exact .inr rfl | assumption):
  PS X (.Assign [.Name y py] (.ListComp elt [⟨target,iter,ifs,0⟩] scope pos) CT) (IW (CO tn.length caps wi g tt te) (cD i)):=by
 intro pins s σ H D I h
 rw [exec_Assign_Name_used _ _ _ _ CU]
 refine wpAny_bind (wpAny_standAt (wpAny_bind ?_))
 show wpAny _ X.A (do let _ ← comprehension (.ListComp elt [⟨target,iter,ifs,0⟩] scope pos) scope X.env _ (newList []) false (eval iter X.env) (some (assign (.Name y py) X.env))) _ _ s
 refine wpAny_bind (wpAny_mono (wpAny_comprehension_free (use:=some (assign (.Name y py) X.env)) (Q:=fun _ s' =>SP X pins D .next s') rfl hs B.Jp B.kind B.names
  (bV (hi pins s σ H _ I h) fun v s1 h1=>bV h1 fun PV s2 h2=> ?_)) (fun _ s' hq=>wpAny_pure (wpAny_pure hq)) fun _ _ e=>e)
 obtain ⟨it,fp,uZ,J,H2,rfl,I2,T,h_,f2,q⟩:=h2
 refine tI (Q:=fun v H1=>cD i v σ H1 D.nx) (RR:=fun acc C=>compPost (model X.prog X.w) X.A X.xe (some (assign (.Name y py) X.env)) (fun _ s' =>SP X pins D .next s') acc C) hc B hg ht he I2 T h_ f2 q ?_
 intro DD C H' s' m I' hn fc qq
 obtain ⟨g0,g1,g2,g3,g4,g5⟩:=fc
 show wpAny _ X.A (assign (.Name y py) X.env (.ref DD)) _ _ _
 refine wpAny_assign_Name (jH I' hN X' hx (v:=.ref DD) (u:=.ref DD) rfl (fun MQ Ya ⟨a,sb,ha⟩=> ?_) hf)
 have Yb:C≠a:=by
  rcases ha with z | z
  ·rw [z]
   exact g1
  ·exact fun e=>g4 y a z e.symm
 exact ⟨m,hn.sameBut sb Yb,fun h' xf =>⟨_,H',Ya.turned (t' :=MQ.toks) (fun b o hb e=>(xf.2 b hb).trans e) g0 g1 g3 g4 g5,qq⟩⟩
end
def NA (H0:Hp)(t:TS):TS:=fun D σ H=>t {D with rt:=fun v H' =>∃d o kvs,H' d=some (.cf o (.dT kvs))∧(∀o' u',H0 d≠some (.cf o' u'))∧D.rt v (upd H' d (.dT kvs))} σ H
theorem uk {X:Cx}{st:Stmt}{t:TS}(h:PS X st t):PS X st (NA X.H₀ t):=by
 intro pins s σ H D I q
 refine wpAny_mono (h pins s σ H _ I q) (fun f s' z=> ?_) fun _ _ z=>z
 cases f with
 | next=>exact z
 | brk=>exact z
 | cont=>exact z
 | ret u=>
  obtain ⟨v,σ',H',I',r,d,o,kvs,e,n,k⟩:=z
  exact ⟨v,σ',_,Inv.DT I' e n (fun _ z=>nomatch z),r,k⟩
theorem um {D:Addr}{te:TE}{tt:TT}{cap:L2.St}{H1:Hp}{Q:VK}{n:Nat}(p:Nat→Bool)(nD:H1 D=none)(hn:n < sizeLine)
  (ht:∀i H (R:Bool→Hp→Prop),i < n→av H1 H→(∀H',av H H' →R (p i) H')→tt (some (.int (i:Int))::cap) H R)
  (he:∀i H (R:VK),R (.int (i:Int)) H→te (some (.int (i:Int))::cap) H R)
  (hd:∀H,av H1 H→H D=some (.lst (((afz n).filter p).map fun i:Nat=>V.int (i:Int)))→Q (.ref D) H):
  jd D (cD 0) tt te (KY 0 n) (none::cap) H1 Q:=by
 refine ⟨fun i m σ ys H=>m=n - i∧i≤n∧(∃o,σ=o::cap)∧av H1 H∧H D=some (.lst ys)∧ys=((afz i).filter p).map fun i:Nat=>V.int (i:Int),⟨n,by simp,aft _,⟨none,rfl⟩,fun b o e=>by rw [ao (aq e nD)];exact e,ak,rfl⟩,?_⟩
 rintro i m σ ys H ⟨rfl,hi,⟨o,rfl⟩,s,hD,ey⟩
 by_cases iU:i < n
 ·refine .inr ⟨iU,fun v H' y=> ?_⟩
  obtain ⟨rfl,rfl⟩:=y
  rw [afU]
  unfold cD
  refine ht i _ _ iU s fun H2 s2=> ?_
  have A_:av H1 H2:=fun b o e=>s2 _ _ (s _ _ e)
  have ly:ys.length≤i:=by
   rw [ey,aaa]
   have:=afX p (afz i)
   rw [agy] at this
   exact this
  by_cases c:p i=true
  ·rw [if_pos c]
   refine he i _ _ ⟨s2 _ _ hD,by omega,n - (i+1),by omega,rfl,by omega,⟨_,rfl⟩,?_,ak,?_⟩
   ·exact fun b o e=>by
     rw [ao (aq e nD)]
     exact A_ _ _ e
   ·rw [am_,agn,afO c,ey,afq]
    rfl
  ·rw [if_neg c]
   refine ⟨n - (i+1),by omega,rfl,by omega,⟨_,rfl⟩,A_,s2 _ _ hD,?_⟩
   rw [am_,agn,afP c,ey,List.filter_nil,ai_]
 ·have e:i=n:=by omega
  subst e
  rw [ey] at hD
  exact .inl ⟨aai _,hd H s hD⟩
end Ty
set_option maxHeartbeats 4000000
namespace T_k43
open PySem PySem.Spec PyProof.Rows L2 Ty
open Builtin.Int (intBits)
seal L2.PE L2.PS L2.PSs L2.PA
theorem sq {N P:List Str}{sc:Scope}(a:sc.kind=.function:=by exact rfl)(b:sc.isCoroutine=false:=by exact rfl)(c:sc.isGenerator=false:=by exact rfl)(d:N.Nodup:=by decide+kernel)(e:N.take P.length=P:=by exact rfl)(f:∀x∈P,sc.names.lookup x=some .local∨sc.names.lookup x=some .cell:=by decide+kernel)(g:∀y∈sc.names,y.2≠.free:=by decide+kernel):aD N P sc:=⟨a,b,c,d,e,f,g⟩
theorem pY (P:Program)(w:World){X:Cx}:Passes (a8 P w) X.wD E0:=tw a8.qS
theorem pX {P:Program}{w:World}{X:Cx}:Passes (a8 P w) X.wD E0:=tw a8.qS
theorem _root_.L2.b8.mo {j k:Nat}{A:Around}(r:L2.b8 k A)(h:j≤k:=by decide):L2.b8 j A:=r.mono h
theorem aK {X:Cx}{a:Expr}{ta:TE}{i j p1 p2}(h:PE X a ta):PE X (.Subscript a (.Constant (.int i) j p1) p2) (MI (BZ X.K) ta (tC (.int i))):=bD jN h ah (fun _ _=>rfl)
theorem xw {X:Cx}{a:Expr}{ta:TE}{i j p1 p2}(h:PE X a ta):PE X (.Subscript a (.Constant (.int i) j p1) p2) (MI (MT X.K) ta (tC (.int i))):=bD bu h ah (fun _ _=>rfl)
theorem _root_.L2.mj.xx {K:Frag}{x qual:Str}{st:Stmt}{f:Addr}{fd:FuncData}{ps:List Str}(F:L2.mj K x qual st f fd)
 (h:∀(kV doc pm:Value) (an:Option Addr) (bC ct:Value) (us:List Value),us.length=ps.length→bindArgs (fnOf x qual (ay st) (aw st) (ag st) .none kV doc pm an bC ct) ⟨us,[]⟩=pure (ps.zip us):=by first | exact (fun _ _ _ _ _ _ us hl=>match us,hl with | [_],_=>rfl) | exact (fun _ _ _ _ _ _ us hl=>match us,hl with | [_,_],_=>rfl) | exact (fun _ _ _ _ _ _ us hl=>match us,hl with | [_,_,_],_=>rfl) | exact (fun _ _ _ _ _ _ us hl=>match us,hl with | [_,_,_,_],_=>rfl) | exact (fun _ _ _ _ _ _ us hl=>match us,hl with | [_,_,_,_,_],_=>rfl)):Binds K fd ps []:=F.binds h
theorem fF {K:Frag}{mg:Str→Option Value}{h:Heap}{x:Str}{st:Stmt}{ps:List Str}{f:Addr}{oc:Value}{od an:Option Addr}{kL:Array (Option Value)}{kV doc pm bC ct:Value}(X:K.In h)(G:h.Ns mainGlobals mg)(l:K.lookup f=some ⟨oc,od,.func (fnOf x x (ay st) (aw st) (ag st) .none kV doc pm an bC ct),kL⟩)(c:codeIn K bC x=true)(k:keepIn K (.ref f)=true)(a:nsIn K mainGlobals x=some (some (.ref f)))
 (b:∀(kV doc pm:Value) (an:Option Addr) (bC ct:Value) (us:List Value),us.length=ps.length→bindArgs (fnOf x x (ay st) (aw st) (ag st) .none kV doc pm an bC ct) ⟨us,[]⟩=pure (ps.zip us):=by first | exact (fun _ _ _ _ _ _ us hl=>match us,hl with | [_],_=>rfl) | exact (fun _ _ _ _ _ _ us hl=>match us,hl with | [_,_],_=>rfl) | exact (fun _ _ _ _ _ _ us hl=>match us,hl with | [_,_,_],_=>rfl) | exact (fun _ _ _ _ _ _ us hl=>match us,hl with | [_,_,_,_],_=>rfl) | exact (fun _ _ _ _ _ _ us hl=>match us,hl with | [_,_,_,_,_],_=>rfl) | exact (fun _ _ _ _ _ _ us hl=>match us,hl with | [_,_,_,_,_,_],_=>rfl) | exact (fun _ _ _ _ _ _ us hl=>match us,hl with | [_,_,_,_,_,_,_],_=>rfl)):Def K mg x st ps:=Def.of (cJ l c k) ((cJ l c k).binds b) (mg_of X G a)
def top (i:Nat):Stmt:=PySem.Challenge.pw_trussyard_k43_free_pairs.main.body.getD i (.Pass ⟨0,0,0,0⟩)
abbrev vF:Stmt:=top 15
abbrev uo:Stmt:=top 16
abbrev yX:Stmt:=top 17
abbrev yY:Stmt:=top 20
abbrev vG:Stmt:=top 21
abbrev dU:Stmt:=top 23
abbrev yZ:Stmt:=top 24
abbrev y4:Stmt:=top 25
abbrev y6:Stmt:=top 26
abbrev y8:Stmt:=top 27
abbrev bY:Stmt:=top 29
abbrev cU:Stmt:=top 30
abbrev y_:Stmt:=top 31
abbrev za:Stmt:=top 32
abbrev zc:Stmt:=top 33
abbrev zd:Stmt:=top 34
abbrev ze:Stmt:=top 35
abbrev cV:Stmt:=top 37
abbrev zf:Stmt:=top 47
abbrev zg:Stmt:=top 48
abbrev zh:Stmt:=top 49
abbrev zi:Stmt:=top 50
abbrev zk:Stmt:=top 51
abbrev zl:Stmt:=top 52
abbrev vH:Stmt:=top 53
abbrev zo:Stmt:=top 54
abbrev zq:Stmt:=top 55
abbrev zu:Stmt:=top 56
abbrev zv:Stmt:=top 57
abbrev zA:Stmt:=top 58
abbrev zB:Stmt:=top 59
abbrev zC:Stmt:=top 60
abbrev zD:Stmt:=top 61
abbrev zE:Stmt:=top 62
abbrev zF:Stmt:=top 63
abbrev zG:Stmt:=top 64
abbrev eT:Stmt:=top 65
abbrev zH:Stmt:=top 66
abbrev dW:Stmt:=top 67
abbrev cA:Stmt:=top 68
abbrev cB:Stmt:=top 69
abbrev cW:Stmt:=top 70
abbrev jk:Stmt:=top 71
abbrev zI:Stmt:=inClass (top 41) 0
abbrev kQ:Stmt:=inClass (top 41) 1
abbrev zJ:Stmt:=inClass (top 41) 2
abbrev zK:Stmt:=inClass (top 41) 3
abbrev zL:Stmt:=inClass (top 41) 4
abbrev bU:Stmt:=inClass (top 41) 6
abbrev zM:Stmt:=inClass (top 41) 7
abbrev zN:Stmt:=inClass (top 41) 8
abbrev zO:Stmt:=inClass (top 41) 9
abbrev zP:Stmt:=inClass (top 41) 10
abbrev zQ:Stmt:=inClass (top 41) 11
abbrev JM:Stmt:=inClass (top 43) 0
abbrev zR:Stmt:=inClass (top 44) 0
abbrev zS:Stmt:=inClass (top 44) 1
abbrev zT:Stmt:=inClass (top 45) 0
section
variable {P:Program}{w:World}{K:Frag}{mg:Str→Option Value}{base:Heap}{CX:jF}
structure QY (k:Nat)(q:Int×Int):Prop where
 pos:0 < q.2
 top:intBits q.1≤k
 bot:intBits q.2≤k
theorem aI {H:Hp}{p:Addr}(h:H p=none)(o:HO):av H (upd H p o):=fun b u q=>by rw [ao (aq q h)];exact q
theorem nw {H H' :Hp}{l:Addr}{o:HO}(n:H l=none)(e:upd H l o=H'):av H H' ∧H' l=some o:=by subst e;exact ⟨aI n o,ak⟩
def gives (H:Hp)(Q:VK)(q:Int×Int):Prop:=∀(p:Addr) (H' :Hp),av H H' →H' p=some (.tup [.int q.1,.int q.2])→Q (.ref p) H'
inductive fW (vs:List V)(H:Hp)(Q:VK)(E_:XK):Prop where
 | mk (a b:Int) (_:vs=[.int a,.int b]) (_:Q (.int (gz a b)) H):fW vs H Q E_
def subQ (x y:Int×Int):Int×Int:=low (x.1*y.2 - y.1*x.2) (x.2*y.2)
theorem JN {x y:Int×Int}{k l:Nat}(hx:QY k x)(hy:QY l y):x.2*y.2≠0:=afS (agB hx.pos hy.pos)
theorem iy {a b:V}:i6 [a,b] 0=some a:=rfl
theorem g9 {a b:V}:i6 [a,b] 1=some b:=rfl
inductive Ln (H:Hp)(v:V)(l:List Int):Prop where
 | mk (p:_) (_:v=.ref p) (_:H p=some (.lst (l.map V.int))):Ln H v l
theorem Ln.same {H H' :Hp}{v:V}{l:List Int}(h:Ln H v l)(s:av H H'):Ln H' v l:=by
 obtain ⟨p,e,k⟩:=h
 exact ⟨p,e,s _ _ k⟩
def qk (H:Hp)(us:List V)(ls:List (List Int)):Prop:=us.length=ls.length∧∀(i:Nat) (u:V) (l:List Int),us[i]? =some u→ls[i]? =some l→Ln H u l
theorem qk.same {H H' :Hp}{us:List V}{ls:List (List Int)}(h:qk H us ls)(s:av H H'):qk H' us ls:=⟨h.1,fun i u l e1 e2=>(h.2 i u l e1 e2).same s⟩
theorem uq {l:List Int}{j:Nat}(h:j < l.length):i6 (l.map V.int) (j:Int)=some (.int (l.getD j 0)):=dC (by rw [Wp,gE h,afb,gE h];rfl)
theorem getD_mem {l:List Int}{j:Nat}{x:Int}(e:l[j]? =some x):l.getD j 0=x:=by rw [afb,e];rfl
def Bd (b:Nat)(l:List Int):Prop:=∀j,(l.getD j 0).natAbs≤2^b
theorem Bd.mem {b:Nat}{l:List Int}(h:Bd b l){x:Int}(hx:x∈l):x.natAbs≤2^b:=by
 obtain ⟨i,hi⟩:=aak hx
 rw [← getD_mem hi]
 exact h i
theorem Bd.up {b c:Nat}{l:List Int}(h:Bd b l)(hc:b≤c):Bd c l:=fun j=>Lh (h j) hc
theorem xy:aD ["one","other","left"] ["one","other"] (ag yX):=sq
theorem QZ (D:Def K mg "greatest_shared" yX ["one","other"])(qm:mg "abs"=none):Fn P w K mg base CX 1 "greatest_shared" ["one","other"] fW:=by
 refine D.ok xy (fun vs H Q E h=> ?_) (fun f bC A outer s H vs Q E hr h=> ?_)
 ·obtain ⟨a,b,rfl,_⟩:=h
  rfl
 obtain ⟨a,b,rfl,q⟩:=h
 refine ⟨_,(ae (ma PassesOwn.never (aQ kh (pv 1) ah (aV _)) (ae (aH (i:=2) xy.nd rfl (ab_ rfl) (aL fm (pv 0) (pv 1)))
   (ae (aH (i:=0) xy.nd rfl (ab_ rfl) (pv 1))
   (aj (aH (i:=1) xy.nd rfl (ab_ rfl) (pv 2))))))
  (aj (aG (aU sR rfl qm Ld (au (pv 0) aa))))),?_⟩
 refine sO (fun σ H' =>∃(x y:Int) (l:Option V),σ=[some (.int x),some (.int y),l]∧H' =H∧afE x y=afE a b) (fun σ _=>match σ with | [_,some (.int y),_]=>y.natAbs | _=>0) ⟨a,b,none,rfl,rfl,rfl⟩ ?_ ?_
 ·rintro σ H' ⟨x,y,l,rfl,rfl,g⟩
  refine ⟨_,rfl,rfl,_,rfl,?_⟩
  refine a_ (fun c=> ?_) (fun c=> ?_)
  ·have hy:y≠0:=by
    intro z
    subst z
    simp at c
   refine ⟨_,rfl,_,rfl,_,_,rfl,rfl,hy,?_⟩
   refine ⟨_,rfl,_,rfl,?_⟩
   exact ⟨⟨_,_,_,rfl,rfl,by rw [sY];exact g⟩,pO hy⟩
  ·have hy:y=0:=by
    have:=am1.mpr c
    simp at this
    exact this
   subst hy
   refine ⟨_,rfl,x,rfl,?_⟩
   have e:(if x < 0 then -x else x)=gz a b:=by
    rw [anP] at g
    unfold gz
    rw [← g]
    split <;> omega
   rw [e]
   exact q
 ·rintro σ H' Q1 Q2 h ⟨v,e1,e2,k,ek,z⟩
  exact ⟨v,e1,e2,k,ek,h _ _ z⟩
inductive g_ (vs:List V)(H:Hp)(Q:VK)(E_:XK):Prop where
 | mk (t b:Int) (_:vs=[.int t,.int b]) (_:b≠0) (_:gives H Q (low t b)):g_ vs H Q E_
theorem EG:aD ["top","bottom","shared"] ["top","bottom"] (ag uo):=sq
theorem Q0 (ht:P.given.tree=none)(D:Def K mg "lowest_terms" uo ["top","bottom"])(vI:Fn P w K mg base (a8 P w) 1 "greatest_shared" ["one","other"] fW):Fn P w K mg base (a8 P w) 33 "lowest_terms" ["top","bottom"] g_:=by
 refine D.ok EG (fun vs H Q E h=> ?_) (fun f bC A outer s H vs Q E hr h=> ?_)
 ·obtain ⟨t,b,rfl,_⟩:=h
  rfl
 obtain ⟨t,b,rfl,hb,q⟩:=h
 have Q3:∃tt,PSs (kK (a8 P w) P w K mg base ["top","bottom","shared"] "lowest_terms" (ag uo) f bC A outer s H E).wD ((aw uo).drop 2) tt∧∀g:Int,g=sg t b→tt {nx:=fun _ H' =>Q .cb H',rt:=Q} [some (.int t),some (.int b),some (.int g)] H:=by
  refine ⟨_,(aj (aG (aR (au (aL (fe ht (Ty.b8.py hr (by decide)) rfl rfl rfl rfl rfl) (pv 0) (pv 2)) (au (aL (fe ht (Ty.b8.py hr (by decide)) rfl rfl rfl rfl rfl) (pv 1) (pv 2)) aa))))),?_⟩
  rintro g rfl
  have c:=mn (t:=t) hb
  refine ⟨_,rfl,_,rfl,_,_,rfl,rfl,c,_,rfl,_,rfl,_,_,rfl,rfl,c,(by show 2≤sizeLine;decide),fun p hp=> ?_⟩
  exact q p _ (aI hp _) ak
 obtain ⟨t2,p2,q2⟩:=Q3
 refine ⟨_,(ae (aH (i:=2) EG.nd rfl (ab_ rfl) (aC vI hr.mo pX (au (pv 0) (au (pv 1) aa)))) (ae (bf (aQ sQ (pv 1) ah (aV _)) (aj (aH (i:=2) EG.nd rfl (ab_ rfl) (K2 BQ (pv 2)))) aJ) p2)),?_⟩
 refine ⟨_,rfl,_,rfl,t,b,rfl,?_⟩
 refine ⟨_,rfl,_,_,rfl,rfl,_,rfl,?_⟩
 refine a_ (fun c=> ?_) (fun c=> ?_)
 ·refine ⟨_,rfl,_,rfl,q2 _ ?_⟩
  have c' :b < 0:=of_decide_eq_true c
  unfold sg
  rw [if_pos c']
 ·refine q2 _ ?_
  have c' :¬ b < 0:=of_decide_eq_false (am1.mpr c)
  unfold sg
  rw [if_neg c']
inductive NC (K:Frag)(vs:List V)(H:Hp)(Q:VK)(E_:XK):Prop where
 | mk (a:Addr) (qs:List (Int×Int)) (T B:Nat) (_:vs=[.ref a]) (_:Yo K H a qs) (_:(∀q∈qs,Sm T B q)) (_:T≤20000) (_:B*qs.length≤100000) (_:B≤8000) (_:qs.length≤1000) (_:∀(p l:Addr) (ts:List Int) (b:Int) (H' :Hp),av H H' →H l=none→H' p=some (.tup [.ref l,.int b])→H' l=some (.lst (ts.map V.int))→0 < b→b.natAbs≤2^(B*qs.length)→tH ts qs b→(∀t∈ts,t.natAbs≤2^(T+B*qs.length))→Q (.ref p) H'):NC K vs H Q E_
theorem xA:aD ["row","bottom","number"] ["row"] (ag y_):=sq
theorem Q4 (D:Def K mg "whole_row" y_ ["row"])(vI:Fn P w K mg base (a8 P w) 1 "greatest_shared" ["one","other"] fW):Fn P w K mg base (a8 P w) 2 "whole_row" ["row"] (NC K):=by
 refine D.ok xA (fun vs H Q E h=> ?_) (fun f bC A outer s H vs Q E hr h=> ?_)
 ·obtain ⟨a,qs,T,B,rfl,_⟩:=h
  rfl
 obtain ⟨a,qs,T,B,rfl,⟨us,hS,hN⟩,sm,hT,hB,hB1,hl,q⟩:=h
 refine ⟨_,(ae (aH (i:=1) xA.nd rfl (afx rfl) ah)
  (ae (bF PassesOwn.never rfl (bw (pv 0)) (aE (i:=2) xA.nd rfl (ab_ rfl)) (aj (aH (i:=1) xA.nd rfl (afx rfl) (aL cE (aL s_ (pv 1) (aC vI hr.mo pX (au (pv 1) (au (aK (pv 2)) aa)))) (aK (pv 2))))))
  (aj (aG (aR (au (dX (tn:=["number"]) (fr:=["bottom"]) (caps:=[1]) rfl ⟨rfl,by decide+kernel,rfl,by decide+kernel,by decide+kernel,rfl,⟨(by first | exact ab_ rfl | exact afx rfl),trivial⟩,⟨(by first | exact ab_ rfl | exact afx rfl),trivial⟩⟩ (bw (pv 0)) (fun _ _ _ _=>(aE (i:=0) (show (["number","bottom"]:List Str).Nodup from by decide+kernel) rfl (ab_ rfl))) (fun _ _ _ _=>fb) (fun _ _ _ _=>(aL cE (bD (f' (K:=K) rfl) (pv 0) ah (fun _ _=>rfl)) (aL s_ (pv 1) (bD (f' (K:=K) rfl) (pv 0) ah (fun _ _=>rfl)))))) (au (pv 1) aa))))))),?_⟩
 have hlu:=hN.1
 have qat:∀{i:Nat} {u:V},us[i]? =some u→∃q,qs[i]? =some q∧kO K H u q∧Sm T B q:=fun {i u} e=>by
  have hi:i < us.length:=(be.mp e).1
  have e2:qs[i]? =some (qs[i]'(by omega)):=gE (by omega)
  exact ⟨_,e2,hN.2 i u _ e e2,sm _ (afZ _)⟩
 refine ⟨_,rfl,a,rfl,⟨_,hS⟩,bM (K:=K) (a:=a) (xs:=us) (fun i σ H' =>∃(b:Int) (o:Option V),σ=[some (.ref a),some (.int b),o]∧H' =H∧0 < b∧b.natAbs≤2^(B*i)∧∀j,j < i→∀q,qs[j]? =some q→q.2 ∣ b) ⟨1,none,rfl,rfl,by decide,by simp,fun j h=>absurd h (afW _)⟩ (fun i σ H' _ ⟨b,o,_,e,_⟩=>by rw [e];exact hS) ?_ ?_⟩
 ·rintro i u σ H' hu ⟨b,o,rfl,rfl,hb,hs,hd⟩
  obtain ⟨n,en,⟨p,rfl,hp⟩,sn⟩:=qat hu
  have hi:i < qs.length:=(be.mp en).1
  have nb:n.2.natAbs≤2^B:=sn.bot
  obtain ⟨l1,l2,l3,l4⟩:=DA hb sn.pos
  have gp:=qO (t:=b) (b:=n.2) (by have:=sn.pos;omega)
  have gl:=Qg (t:=b) (b:=n.2) (by have:=sn.pos;omega)
  have sz:(b.fdiv (gz b n.2)*n.2).natAbs≤2^(B*(i+1)):=by
   refine aaj l4 ?_
   rw [Nat.mul_succ,am8]
   exact afR hs nb
  have bi:B*i≤100000:=aaj (Nat.mul_le_mul_left B (by omega)) hB
  have g1:gz b n.2 ∣ b:=agk ..
  refine ⟨_,rfl,_,rfl,_,rfl,p,_,_,_,rfl,rfl,hp,g9,b,n.2,rfl,?_⟩
  refine ⟨_,_,rfl,rfl,⟨by omega,aaj (gZ (aaj gl nb) (afF B)) (by omega)⟩,?_⟩
  refine ⟨_,rfl,p,_,_,_,rfl,rfl,hp,g9,_,_,rfl,rfl,lM (aaj (fO (by omega) g1) hs) nb (by omega) (by omega),?_⟩
  refine ⟨_,_,rfl,rfl,l1,sz,fun j hj q' e' => ?_⟩
  rcases afK.mp hj with z | z
  ·exact Int.dvd_trans (hd j z q' e') l2
  ·subst z
   rw [en] at e'
   cases e'
   exact l3
 ·rintro σ H' ⟨b,o,rfl,rfl,hb,hs,hd⟩
  rw [hlu] at hs hd
  refine ⟨_,rfl,a,rfl,⟨_,hS⟩,fun D nD=> ?_⟩
  refine fN (cap:=[some (.int b)]) (K:=K) (a:=a) (xs:=us) (fun i v _=>∃q,qs[i]? =some q∧v=.int (q.1*b.fdiv q.2)) nD (by rw [hlu];exact afe hl (by decide)) (fun H2 s2=>s2.seq hS) (fun _ _ _ _ _ _ _ h=>h) ?_ ?_
  ·intro i u H2 R hu s2 k
   obtain ⟨n,en,⟨p,rfl,hp⟩,sn⟩:=qat hu
   have Qx:=Ty.av.cy s2 hp
   have dv:=hd i (be.mp en).1 n en
   have n0:n.2≠0:=by have:=sn.pos;omega
   refine ⟨_,rfl,p,_,_,_,rfl,rfl,Qx,iy,?_⟩
   refine ⟨_,rfl,_,rfl,p,_,_,_,rfl,rfl,Qx,g9,_,_,rfl,rfl,⟨n0,aaj (gZ sn.bot (afF B)) (by omega)⟩,?_⟩
   exact ⟨_,_,rfl,rfl,lM sn.top (aaj (fO n0 dv) hs) (by omega) (by omega),k _ _ (av.refl _) ⟨n,en,rfl⟩⟩
  ·intro ys H2 hy jS s2 hD
   have ey:ys=(qs.map fun n=>n.1*b.fdiv n.2).map V.int:=by
    refine afI fun i=> ?_
    by_cases hi:i < ys.length
    ·have e1:ys[i]? =some ys[i]:=gE hi
     obtain ⟨n,en,ev⟩:=jS i _ e1
     rw [e1,ev,Wp,Wp,en]
     rfl
    ·rw [aal (by omega),aal (by simp;omega)]
   refine ⟨_,rfl,(by show 2≤sizeLine;decide),fun p np=> ?_⟩
   have s3:=aI np (.tup [.ref D,.int b])
   refine q p D (qs.map fun n=>n.1*b.fdiv n.2) b _ (s2.trans s3) nD ak (s3 _ _ (by rw [hD,ey])) hb hs ⟨by simp,fun i t n e1 e2=> ?_⟩ (fun t ht=> ?_)
   ·rw [Wp,e2] at e1
    have xa :n.1*b.fdiv n.2=t:=aff e1
    rw [← xa]
    exact yD (sm n (ir e2)).pos (hd i (be.mp e2).1 n e2)
   ·obtain ⟨n,hn,rfl⟩:=aah.mp ht
    obtain ⟨i,hi⟩:=aak hn
    have n0:n.2≠0:=by have:=(sm n hn).pos;omega
    exact vo (sm n hn).top (aaj (fO n0 (hd i (be.mp hi).1 n hi)) hs)
structure Dv (l l' :List Int):Prop where
 len:l'.length=l.length
 WD:∃g:Int,g≠0∧∀j,g*l'.getD j 0=l.getD j 0
def ND (l:List Int):Prop:=QU l∨∀j,l.getD j 0=0
theorem ur {l:List Int}{d:Int}(h:∀j,d ∣ l.getD j 0){i:Nat}{x:Int}(e:l[i]? =some x):d ∣ x:=by
 rw [← getD_mem e]
 exact h i
inductive jT (vs:List V)(H:Hp)(Q:VK)(E_:XK):Prop where
 | mk (v:V) (l:List Int) (_:vs=[v]) (_:Ln H v l) (_:l.length≤1000) (_:∀v' l' H',av H H' →Ln H' v' l' →Dv l l' →ND l' →(v' =v∨∃p,v' =.ref p∧H p=none)→Q v' H'):jT vs H Q E_
theorem JO (l:List Int):Dv l l:=⟨rfl,1,by decide,fun j=>Int.one_mul _⟩
theorem xB:aD ["line","shared","whole"] ["line"] (ag ze):=sq
theorem Q6 (ht:P.given.tree=none)(D:Def K mg "divided" ze ["line"])(vI:Fn P w K mg base (a8 P w) 1 "greatest_shared" ["one","other"] fW):Fn P w K mg base (a8 P w) 33 "divided" ["line"] jT:=by
 refine D.ok xB (fun vs H Q E h=> ?_) (fun f bC A outer s H vs Q E hr h=> ?_)
 ·obtain ⟨v,l,rfl,_⟩:=h
  rfl
 obtain ⟨v,l,rfl,⟨a,rfl,ha⟩,hn,q⟩:=h
 have same:ND l→Q (.ref a) H:=fun pz=>q _ l H (av.refl H) ⟨a,rfl,ha⟩ (JO l) pz (.inl rfl)
 refine ⟨_,(ae (aH (i:=1) xB.nd rfl (afx rfl) ah)
  (ae (bF PassesOwn.never rfl (bw (pv 0)) (aE (i:=2) xB.nd rfl (ab_ rfl)) (ae (aH (i:=1) xB.nd rfl (afx rfl) (aC vI hr.mo pX (au (pv 2) (au (pv 1) aa))))
   (aj (bf (aQ d5 (pv 1) ah (aV _)) (aj (aG (pv 0))) aJ))))
  (aj (aG (sL (aQ wK (pv 1) ah (aV _)) (dX (tn:=["whole"]) (fr:=["shared"]) (caps:=[1]) rfl ⟨rfl,by decide+kernel,rfl,by decide+kernel,by decide+kernel,rfl,⟨(by first | exact ab_ rfl | exact afx rfl),trivial⟩,⟨(by first | exact ab_ rfl | exact afx rfl),trivial⟩⟩ (bw (pv 0)) (fun _ _ _ _=>(aE (i:=0) (show (["whole","shared"]:List Str).Nodup from by decide+kernel) rfl (ab_ rfl))) (fun _ _ _ _=>fb) (fun _ _ _ _=>(aL (fe ht (Ty.b8.py hr (by decide)) rfl rfl rfl rfl rfl) (pv 0) (pv 1)))) (pv 0)))))),?_⟩
 refine ⟨_,rfl,a,rfl,⟨_,ba.of ha⟩,bM (K:=K) (a:=a) (xs:=l.map V.int) (fun i σ H' =>∃(g:Int) (o:Option V),σ=[some (.ref a),some (.int g),o]∧H' =H∧0≤g∧(∀j,j < i→∀x,l[j]? =some x→g ∣ x)∧(∀d:Int,(∀j,j < i→∀x,l[j]? =some x→d ∣ x)→d ∣ g)∧(0 < i→g≠1)) ⟨0,none,rfl,rfl,by decide,(fun j h=>absurd h (afW _)),(fun d _=>Int.dvd_zero d),fun h=>absurd h (afQ _)⟩ (fun i σ H' _ ⟨g,o,_,e,_⟩=>by rw [e];exact ba.of ha) ?_ ?_⟩
 ·rintro i u σ H' hu ⟨g,o,rfl,rfl,g0,hg,hd,_⟩
  rw [Wp] at hu
  obtain ⟨x,ex,rfl⟩:=ae9.mp hu
  have d1:gz x g ∣ x:=agk ..
  have d2:gz x g ∣ g:=agc ..
  have p0:0≤gz x g:=Int.natCast_nonneg _
  refine ⟨_,rfl,_,rfl,x,g,rfl,?_⟩
  refine ⟨_,rfl,rfl,_,rfl,?_⟩
  refine a_ (fun z=>⟨_,rfl,same (.inl fun d yi => ?_)⟩) (fun z=> ?_)
  ·have z' :gz x g=1:=by simpa using of_decide_eq_true z
   have h1:d ∣ gz x g:=aog (ur yi ex) (hd d fun j _ y ey=>ur yi ey)
   rw [z'] at h1
   have:=ags.mpr h1
   simpa using this
  refine ⟨_,_,rfl,rfl,p0,fun j hj y ey=> ?_,fun d h=> ?_,fun _ e=>z (by rw [e];rfl)⟩
  ·rcases afK.mp hj with z | z
   ·exact Int.dvd_trans d2 (hg j z y ey)
   ·subst z
    rw [ex] at ey
    cases ey
    exact d1
  ·exact aog (h i (afF _) x ex) (hd d fun j hj y ey=>h j (af7 hj) y ey)
 ·rintro σ H' ⟨g,o,rfl,rfl,g0,hg,hd,hg1⟩
  rw [aaa] at hg hd hg1
  refine ⟨_,rfl,_,_,rfl,rfl,_,rfl,?_⟩
  refine a_ (fun c=> ?_) (fun c=>⟨_,rfl,same (.inr fun j=> ?_)⟩)
  rotate_left
  ·have c' :¬ (1:Int) < g:=fun z=>c (decide_eq_true z)
   by_cases hj:j < l.length
   ·have gz:g=0:=by
     have:=hg1 (by omega)
     omega
    have ej:l[j]? =some l[j]:=gE hj
    have:=hg j hj _ ej
    rw [gz] at this
    rw [getD_mem ej]
    exact Int.zero_dvd.mp this
   ·rw [afb,aal (by omega)]
    rfl
  have g1:(1:Int) < g:=of_decide_eq_true c
  have gn:g≠0:=by omega
  refine ⟨_,rfl,a,rfl,⟨_,ba.of ha⟩,fun D nD=> ?_⟩
  refine fN (cap:=[some (.int g)]) (K:=K) (a:=a) (xs:=l.map V.int) (fun i v _=>∃x,l[i]? =some x∧v=.int (x.fdiv g)) nD (by rw [aaa];exact afe hn (by decide)) (fun H2 s2=>ba.of (s2 _ _ ha)) (fun _ _ _ _ _ _ _ h=>h) ?_ ?_
  ·intro i u H2 R hu s2 k
   rw [Wp] at hu
   obtain ⟨x,ex,rfl⟩:=ae9.mp hu
   exact ⟨_,rfl,_,rfl,_,_,rfl,rfl,gn,k _ _ (av.refl _) ⟨x,ex,rfl⟩⟩
  ·intro ys H2 hy jS s2 hD
   rw [aaa] at hy
   have ey:ys=(l.map fun x=>x.fdiv g).map V.int:=by
    refine afI fun i=> ?_
    by_cases hi:i < ys.length
    ·have e1:ys[i]? =some ys[i]:=gE hi
     obtain ⟨x,ex,ev⟩:=jS i _ e1
     rw [e1,ev,Wp,Wp,ex]
     rfl
    ·rw [aal (by omega),aal (by simp;omega)]
   have WD:∀j,g*(l.map fun x=>x.fdiv g).getD j 0=l.getD j 0:=fun j=>by
    by_cases hj:j < l.length
    ·have ej:l[j]? =some l[j]:=gE hj
     rw [getD_mem (l:=l.map fun x=>x.fdiv g) (x:=l[j].fdiv g) (by rw [Wp,ej];rfl),getD_mem ej]
     exact (b7 gn (hg j hj _ ej)).symm
    ·rw [afb,afb,aal (by simp;omega),aal (by omega)]
     simp
   refine q _ (l.map fun x=>x.fdiv g) H2 s2 ⟨D,rfl,by rw [hD,ey]⟩ ⟨by simp,g,gn,WD⟩ (.inl fun d yi => ?_) (.inr ⟨D,rfl,nD⟩)
   have h1:d*g ∣ g:=hd (d*g) fun j hj x ex=>by
    rw [← getD_mem ex, ← WD j,agd]
    exact Int.mul_dvd_mul_left g (yi j)
   obtain ⟨k,hk⟩:=h1
   have h2:g*(d*k)=g*1:=by
    rw [Int.mul_one]
    rw [← am7,agd g d]
    exact hk.symm
   have h3:=Int.eq_of_mul_eq_mul_left gn h2
   have h4:d ∣ 1:=⟨k,h3.symm⟩
   simpa using ags.mpr h4
inductive jU (vs:List V)(H:Hp)(Q:VK)(E_:XK):Prop where
 | mk (u v:V) (l m:List Int) (c b1 b2:Nat) (_:vs=[u,v,.int (c:Int)]) (_:Ln H u l) (_:Ln H v m) (_:m.length=l.length) (_:c < l.length) (_:l.length≤1000) (_:m.getD c 0≠0) (_:Bd b1 l) (_:Bd b2 m) (_:b1≤29000000) (_:b2≤29000000) (_:∀v' l' H',av H H' →Ln H' v' l' →oq l m l' c→Bd (b1+b2+1) l' →(l' =l∨ND l')→(v' =u∨∃p,v' =.ref p∧H p=none)→Q v' H'):jU vs H Q E_
theorem JP {a b:Int}(ha:a≠0):a=gz a b*a.fdiv (gz a b)∧b=gz a b*b.fdiv (gz a b)∧gz a b≠0∧a.fdiv (gz a b)≠0∧(a.fdiv (gz a b)).natAbs≤a.natAbs∧(b.fdiv (gz a b)).natAbs≤b.natAbs:=by
 have gn:gz a b≠0:=by
  intro z
  have z' :((afE a b:Nat):Int)=0:=z
  have:afE a b=0:=by omega
  exact ha (Int.gcd_eq_zero_iff.mp this).1
 have d1:gz a b ∣ a:=agk ..
 have d2:gz a b ∣ b:=agc ..
 have e1:=b7 gn d1
 refine ⟨e1,b7 gn d2,gn,fun z=> ?_,fO gn d1,fO gn d2⟩
 rw [z,amX] at e1
 exact ha e1
theorem JQ {l m:List Int}{t u:Int}{ys:List V}(hl:m.length=l.length)(hy:ys.length=l.length)(h:∀(i:Nat) (v:V),ys[i]? =some v→∃x y,l[i]? =some x∧m[i]? =some y∧v=.int (t*x - u*y)):ys=(age (fun x y=>t*x - u*y) l m).map V.int:=by
 refine afI fun i=> ?_
 by_cases hi:i < ys.length
 ·have e1:ys[i]? =some ys[i]:=gE hi
  obtain ⟨x,y,ex,ey,ev⟩:=h i _ e1
  rw [e1,ev,Wp,agt,ex,ey]
  rfl
 ·rw [aal (by omega),aal (by simp;omega)]
theorem EH {l m:List Int}{t u:Int}(hl:m.length=l.length)(j:Nat):(age (fun x y=>t*x - u*y) l m).getD j 0=t*l.getD j 0 - u*m.getD j 0:=by
 by_cases hj:j < l.length
 ·have e1:l[j]? =some l[j]:=gE hj
  have e2:m[j]? =some (m[j]'(by omega)):=gE (by omega)
  rw [getD_mem e1,getD_mem e2]
  exact getD_mem (by rw [agt,e1,e2])
 ·rw [afb,afb,afb,aal (by simp;omega),aal (by omega),aal (by omega)]
  simp
theorem xC:aD ["line","lead","column","shared","times","less"] ["line","lead","column"] (ag zd):=sq
theorem Q7 (ht:P.given.tree=none)(D:Def K mg "cleared" zd ["line","lead","column"])(EI:mg "zip"=none)(vI:Fn P w K mg base (a8 P w) 1 "greatest_shared" ["one","other"] fW)(Yx:Fn P w K mg base (a8 P w) 33 "divided" ["line"] jT):Fn P w K mg base (a8 P w) 34 "cleared" ["line","lead","column"] jU:=by
 refine D.ok xC (fun vs H Q E h=> ?_) (fun f bC A outer s H vs Q E hr h=> ?_)
 ·obtain ⟨u,v,l,m,c,b1,b2,rfl,_⟩:=h
  rfl
 obtain ⟨u,v,l,m,c,b1,b2,rfl,⟨a,rfl,ha⟩,⟨a',rfl,WE⟩,hl,hc,hn,hm,B1,B2,Lu,hb2,q⟩:=h
 refine ⟨_,(ae (bf (aQ d5 (bD bu (pv 0) (pv 2) (fun _ _=>rfl)) ah (aV _)) (aj (aG (pv 0))) aJ)
  (ae (aH (i:=3) xC.nd rfl (ab_ rfl) (aC vI hr.mo pX (au (bD bu (pv 1) (pv 2) (fun _ _=>rfl)) (au (bD bu (pv 0) (pv 2) (fun _ _=>rfl)) aa))))
  (ae (aH (i:=4) xC.nd rfl (afx rfl) (aL (fe ht (Ty.b8.py hr (by decide)) rfl rfl rfl rfl rfl) (bD bu (pv 1) (pv 2) (fun _ _=>rfl)) (pv 3)))
  (ae (aH (i:=5) xC.nd rfl (afx rfl) (aL (fe ht (Ty.b8.py hr (by decide)) rfl rfl rfl rfl rfl) (bD bu (pv 0) (pv 2) (fun _ _=>rfl)) (pv 3)))
  (aj (aG (aC Yx hr.mo pX (au (dX (tn:=["whole","other"]) (fr:=["times","less"]) (caps:=[4,5]) rfl ⟨rfl,by decide+kernel,rfl,by decide+kernel,by decide+kernel,rfl,⟨(by first | exact ab_ rfl | exact afx rfl),⟨(by first | exact ab_ rfl | exact afx rfl),trivial⟩⟩,⟨(by first | exact ab_ rfl | exact afx rfl),⟨(by first | exact ab_ rfl | exact afx rfl),trivial⟩⟩⟩ (Na rfl EI (au (pv 0) (au (pv 1) aa))) (fun _ _ _ _=>(Jt (K:=K) (n:=2) rfl rfl (aX (aE (i:=0) (show (["whole","other","times","less"]:List Str).Nodup from by decide+kernel) rfl (ab_ rfl)) (aX (aE (i:=1) (show (["whole","other","times","less"]:List Str).Nodup from by decide+kernel) rfl (ab_ rfl)) cQ)))) (fun _ _ _ _=>fb) (fun _ _ _ _=>(aL dR (aL cE (pv 2) (pv 0)) (aL cE (pv 3) (pv 1))))) aa)))))))),?_⟩
 have ea:=uq (l:=l) hc
 have em:=uq (l:=m) (j:=c) (by omega)
 refine ⟨_,rfl,_,rfl,a,_,_,_,rfl,rfl,ba.of ha,ea,rfl,_,rfl,?_⟩
 refine a_ (fun z=> ?_) (fun z=> ?_)
 ·have z' :l.getD c 0=0:=by simpa using of_decide_eq_true z
  exact ⟨_,rfl,q _ l H (av.refl H) ⟨a,rfl,ha⟩ ⟨rfl,z',1,1,0,by decide,by decide,fun j=>by omega⟩ (B1.up (by omega)) (.inl rfl) (.inl rfl)⟩
 ·obtain ⟨f1,f2,f3,f4,f5,f6⟩:=JP (a:=m.getD c 0) (b:=l.getD c 0) hm
  refine ⟨_,rfl,_,rfl,a',_,_,_,rfl,rfl,ba.of WE,em,_,rfl,_,rfl,a,_,_,_,rfl,rfl,ba.of ha,ea,_,_,rfl,?_⟩
  refine ⟨_,rfl,_,rfl,a',_,_,_,rfl,rfl,ba.of WE,em,_,rfl,_,_,rfl,rfl,f3,?_⟩
  refine ⟨_,rfl,_,rfl,a,_,_,_,rfl,rfl,ba.of ha,ea,_,rfl,_,_,rfl,rfl,f3,?_⟩
  refine ⟨_,rfl,_,rfl,a,a',rfl,⟨_,ba.of ha⟩,⟨_,ba.of WE⟩,fun D1 n1=> ?_⟩
  have st:((m.getD c 0).fdiv (gz (m.getD c 0) (l.getD c 0))).natAbs≤2^b2:=aaj f5 (B2 c)
  have su:((l.getD c 0).fdiv (gz (m.getD c 0) (l.getD c 0))).natAbs≤2^b1:=aaj f6 (B1 c)
  refine C' (cap:=[some (.int ((m.getD c 0).fdiv (gz (m.getD c 0) (l.getD c 0)))),some (.int ((l.getD c 0).fdiv (gz (m.getD c 0) (l.getD c 0))))]) (K:=K) (xs:=l.map V.int) (ys:=m.map V.int) (fun i v _=>∃x y,l[i]? =some x∧m[i]? =some y∧v=.int ((m.getD c 0).fdiv (gz (m.getD c 0) (l.getD c 0))*x - (l.getD c 0).fdiv (gz (m.getD c 0) (l.getD c 0))*y)) n1 (by rw [aaa];exact afe hn (by decide)) (by simpa using hl) (fun H2 s2=>ba.of (s2 _ _ ha)) (fun H2 s2=>ba.of (s2 _ _ WE)) (fun _ _ _ _ _ _ _ h=>h) ?_ ?_
  ·intro i x y H2 R ex ey s2 k
   rw [Wp] at ex ey
   obtain ⟨x',Mu,rfl⟩:=ae9.mp ex
   obtain ⟨y',BB,rfl⟩:=ae9.mp ey
   refine ⟨_,rfl,_,rfl,_,_,rfl,rfl,lM st (B1.mem (ir Mu)) (by omega) (by omega),?_⟩
   exact ⟨_,rfl,_,rfl,_,_,rfl,rfl,lM su (B2.mem (ir BB)) (by omega) (by omega),_,_,rfl,rfl,k _ _ (av.refl _) ⟨x',y',Mu,BB,rfl⟩⟩
  ·intro ys H2 hy jS s2 hD
   rw [aaa] at hy
   have ey:=JQ hl hy jS
   refine ⟨_,_,rfl,⟨D1,rfl,by rw [hD,ey]⟩,by simp;omega,fun v' l' H3 s3 L3 dv pz fr=> ?_⟩
   obtain ⟨g,gn,hg⟩:=dv.WD
   have oG:∀j,g*l'.getD j 0=(m.getD c 0).fdiv (gz (m.getD c 0) (l.getD c 0))*l.getD j 0 - (l.getD c 0).fdiv (gz (m.getD c 0) (l.getD c 0))*m.getD j 0:=fun j=>by rw [hg j,EH hl]
   refine q v' l' H3 (s2.trans s3) L3 ⟨by rw [dv.len];simp [hl],?_,g,_,_,gn,f4,oG⟩ (fun j=> ?_) (.inr pz) ?_
   ·have e:=oG c
    have z2:(m.getD c 0).fdiv (gz (m.getD c 0) (l.getD c 0))*l.getD c 0 - (l.getD c 0).fdiv (gz (m.getD c 0) (l.getD c 0))*m.getD c 0=0:=by
     generalize gz (m.getD c 0) (l.getD c 0)=G at*
     generalize (m.getD c 0).fdiv G=t at*
     generalize (l.getD c 0).fdiv G=u at*
     rw [f1,f2]
     grind
    rw [z2] at e
    rcases anA.mp e with y | y
    ·exact absurd y gn
    ·exact y
   ·have b:(g*l'.getD j 0).natAbs≤2^(b1+b2+1):=by
     rw [oG j,Int.sub_eq_add_neg]
     refine Nc (Lh (vo st (B1 j)) (by omega)) ?_
     rw [anF]
     exact vo su (B2 j)
    exact aaj (dh gn) b
   ·rcases fr with z | ⟨p,e,n⟩
    ·exact .inr ⟨D1,z,n1⟩
    ·exact .inr ⟨p,e,s2.free n⟩
inductive rl (K:Frag)(vs:List V)(H:Hp)(Q:VK)(E_:XK):Prop where
 | mk (a:Addr) (us:List V) (ls:List (List Int:_)) (c:Nat) (_:vs=[.ref a,.int (c:Int)]) (_:ba K H a us) (_:qk H us ls) (_:(∀l∈ls,c < l.length)) (_:(∀(i:Nat) (l:List Int) (H' :Hp),av H H' →ls[i]? =some l→l.getD c 0≠0→Q (.int (i:Int)) H')) (_:((∀l∈ls,l.getD c 0=0)→∀H',av H H' →Q .cb H')):rl K vs H Q E_
theorem qk.at {H:Hp}{us:List V}{ls:List (List Int)}(h:qk H us ls){i:Nat}{u:V}(e:us[i]? =some u):∃l,ls[i]? =some l∧Ln H u l:=by
 have hi:i < us.length:=(be.mp e).1
 have hl:=h.1
 have e2:ls[i]? =some (ls[i]'(by omega)):=gE (by omega)
 exact ⟨_,e2,h.2 i u _ e e2⟩
theorem qk.at' {H:Hp}{us:List V}{ls:List (List Int)}(h:qk H us ls){i:Nat}{l:List Int}(e:ls[i]? =some l):∃u,us[i]? =some u∧Ln H u l:=by
 have hi:i < ls.length:=(be.mp e).1
 have hl:=h.1
 have e2:us[i]? =some (us[i]'(by omega)):=gE (by omega)
 exact ⟨_,e2,h.2 i _ l e2 e⟩
theorem EJ:aD ["lines","column","at","line"] ["lines","column"] (ag zc):=sq
theorem Q8 (D:Def K mg "first_not_nought" zc ["lines","column"])(dA:mg "enumerate"=none):Fn P w K mg base (a8 P w) 1 "first_not_nought" ["lines","column"] (rl K):=by
 refine D.ok EJ (fun vs H Q E h=> ?_) (fun f bC A outer s H vs Q E hr h=> ?_)
 ·obtain ⟨a,us,ls,c,rfl,_⟩:=h
  rfl
 obtain ⟨a,us,ls,c,rfl,hS,L,hc,q1,q2⟩:=h
 have lu:=L.1
 refine ⟨_,(ae (bF PassesOwn.never rfl (xl rfl dA (au (pv 0) aa)) (dO rfl (aX (aE (i:=2) EJ.nd rfl (ab_ rfl)) (aX (aE (i:=3) EJ.nd rfl (ab_ rfl)) cQ))) (aj (bf (aQ kh (bD bu (pv 3) (pv 1) (fun _ _=>rfl)) ah (aV _)) (aj (aG (pv 2))) aJ)))
  (aj (aG l_))),?_⟩
 refine ⟨_,rfl,a,rfl,⟨_,hS⟩,tT (K:=K) (a:=a) (xs:=us) (fun i σ H' =>∃o1 o2:Option V,σ=[some (.ref a),some (.int (c:Int)),o1,o2]∧av H H' ∧∀j,j < i→∀l,ls[j]? =some l→l.getD c 0=0) ⟨none,none,rfl,av.refl H,fun j h=>absurd h (afW _)⟩ (fun i σ H' _ ⟨o1,o2,_,s1,_⟩=>s1.seq hS) ?_ ?_⟩
 ·rintro i u σ H' p hu ⟨o1,o2,rfl,s1,z⟩ np
  obtain ⟨l,el,b,rfl,hb⟩:=L.at hu
  have s2:=s1.trans (aI np (.tup [.int (i:Int),.ref b]))
  have hcl:=hc l (ir el)
  refine ⟨p,_,rfl,bK.of ak,rfl,_,_,rfl,_,_,rfl,rfl,?_⟩
  refine ⟨_,rfl,_,rfl,b,_,_,_,rfl,rfl,ba.of (s2 _ _ hb),uq hcl,rfl,_,rfl,?_⟩
  refine a_ (fun y=> ?_) (fun y=> ?_)
  ·have y' :l.getD c 0≠0:=by simpa using y
   exact ⟨_,rfl,q1 i l _ s2 el y'⟩
  ·have y' :l.getD c 0=0:=by simpa using y
   refine ⟨_,_,rfl,s2,fun j hj l' e' => ?_⟩
   rcases afK.mp hj with w | w
   ·exact z j w l' e'
   ·subst w
    rw [el] at e'
    cases e'
    exact y'
 ·rintro σ H' ⟨o1,o2,rfl,s1,z⟩
  refine q2 (fun l hl=> ?_) H' s1
  obtain ⟨j,hj⟩:=aak hl
  exact z j (by have:=(be.mp hj).1;omega) l hj
structure Red (os:List (List Int))(L c b:Nat)(nd:List (Nat×List Int))(lv:List (List Int)):Prop where
 oH:∀x∈nd,x.2.length=L
 kR:∀l∈lv,l.length=L
 cols:∀x∈nd,x.1 < c
 asc:(nd.map (·.1)).Pairwise (· < ·)
 here:∀x∈nd,x.2.getD x.1 0≠0
 off:∀x∈nd,∀y∈nd,x.1≠y.1→x.2.getD y.1 0=0
 low:∀x∈nd,∀j,j < x.1→x.2.getD j 0=0
 zero:∀l∈lv,∀j,j < c→l.getD j 0=0
 uu:∀x∈nd,q4 os x.2
 kA:∀l∈lv,q4 os l
 sol:∀z,((∀x∈nd,ev x.2 z=0)∧(∀l∈lv,ev l z=0)) ↔ ∀o∈os,ev o z=0
 HK:∀x∈nd,Bd b x.2
 EK:∀l∈lv,Bd b l
 cnt:nd.length+lv.length=os.length
theorem Red.start {os:List (List Int)}{L b:Nat}(hL:∀o∈os,o.length=L)(hb:∀o∈os,Bd b o):Red os L 0 b [] os where
 oH:=by simp
 kR:=hL
 cols:=by simp
 asc:=by simp
 here:=by simp
 off:=by simp
 low:=by simp
 zero:=fun _ _ j h=>absurd h (afW _)
 uu:=by simp
 kA:=fun l h=>tS h
 sol:=fun z=>by simp
 HK:=by simp
 EK:=hb
 cnt:=by simp
theorem Red.skip {os:List (List Int)}{L c b:Nat}{nd:List (Nat×List Int)}{lv:List (List Int)}(h:Red os L c b nd lv)(hz:∀l∈lv,l.getD c 0=0):Red os L (c+1) b nd lv where
 oH:=h.oH
 kR:=h.kR
 cols:=fun x hx=>af7 (h.cols x hx)
 asc:=h.asc
 here:=h.here
 off:=h.off
 low:=h.low
 zero:=fun l hl j hj=>by
  rcases afK.mp hj with z | z
  ·exact h.zero l hl j z
  ·subst z
   exact hz l hl
 uu:=h.uu
 kA:=h.kA
 sol:=h.sol
 HK:=h.HK
 EK:=h.EK
 cnt:=h.cnt
structure Made (os:List (List Int))(lead:List Int)(c b:Nat)(xs ys:List (List Int)):Prop where
 len:ys.length=xs.length
 to:∀(i:Nat) (x:List Int),xs[i]? =some x→∃y,ys[i]? =some y∧oq x lead y c∧Bd b y
theorem Made.ex {os:List (List Int)}{lead:List Int}{c b:Nat}{xs ys:List (List Int)}(h:Made os lead c b xs ys){y:List Int}(hy:y∈ys):∃x∈xs,oq x lead y c∧Bd b y:=by
 obtain ⟨i,hi⟩:=aak hy
 have hl:=h.len
 have iU:i < ys.length:=(be.mp hi).1
 have e:xs[i]? =some (xs[i]'(by omega)):=gE (by omega)
 obtain ⟨y',e',r⟩:=h.to i _ e
 rw [hi] at e'
 cases e'
 exact ⟨_,ir e,r⟩
theorem Made.all {os:List (List Int)}{lead:List Int}{c b:Nat}{xs ys:List (List Int)}(h:Made os lead c b xs ys){x:List Int}(hx:x∈xs):∃y∈ys,oq x lead y c∧Bd b y:=by
 obtain ⟨i,hi⟩:=aak hx
 obtain ⟨y,e,r⟩:=h.to i x hi
 exact ⟨y,ir e,r⟩
theorem Red.step {os:List (List Int)}{L c b:Nat}{nd gP :List (Nat×List Int)}{lv vA rest:List (List Int)}{lead:List Int}(h:Red os L c b nd lv)(fg:lead∈lv)(uv:∀l∈rest,l∈lv)(CD:∀l∈lv,l=lead∨l∈rest)(hlen:rest.length+1=lv.length)
  (hc:lead.getD c 0≠0) (ML:Made os lead c (2*b+1) rest vA) (hk:gP.map (·.1)=nd.map (·.1)) (MN:Made os lead c (2*b+1) (nd.map (·.2)) (gP.map (·.2))):Red os L (c+1) (2*b+1) (gP ++[(c,lead)]) vA :=by
 have ll:=h.kR lead fg
 have lz:=h.zero lead fg
 have Yy :gP.length=nd.length:=by simpa using congrArg afH hk
 have pairs:∀x' ∈gP,∃x∈nd,x.1=x'.1∧oq x.2 lead x'.2 c∧Bd (2*b+1) x'.2:=by
  intro x' u9
  obtain ⟨i,hi⟩:=aak u9
  have iU:i < gP.length:=(be.mp hi).1
  have e:nd[i]? =some (nd[i]'(by omega)):=gE (by omega)
  have e1:(gP.map (·.1))[i]? =(nd.map (·.1))[i]? :=by rw [hk]
  rw [Wp,Wp,hi,e] at e1
  obtain ⟨y,e2,r⟩:=MN.to i (nd[i]'(by omega)).2 (by rw [Wp,e];rfl)
  rw [Wp,hi] at e2
  simp at e1 e2
  subst e2
  exact ⟨_,ir e,e1.symm,r⟩
 have back:∀x∈nd,∃x' ∈gP,x'.1=x.1∧oq x.2 lead x'.2 c:=by
  intro x hx
  obtain ⟨i,hi⟩:=aak hx
  have iU:i < nd.length:=(be.mp hi).1
  have e:gP[i]? =some (gP[i]'(by omega)):=gE (by omega)
  have e1:(gP.map (·.1))[i]? =(nd.map (·.1))[i]? :=by rw [hk]
  rw [Wp,Wp,hi,e] at e1
  obtain ⟨y,e2,r⟩:=MN.to i x.2 (by rw [Wp,hi];rfl)
  rw [Wp,e] at e2
  simp at e1 e2
  exact ⟨_,ir e,e1,by rw [e2];exact r.1⟩
 have JR:∀x∈gP ++[(c,lead)],x∈gP ∨x=(c,lead):=fun x hx=>by simpa using hx
 exact {
  oH:=fun x hx=>by
   rcases JR x hx with z | z
   ·obtain ⟨y,hy,_,k,_⟩:=pairs x z
    rw [k.len]
    exact h.oH y hy
   ·subst z
    exact ll
  kR:=fun l hl=>by
   obtain ⟨x,hx,k,_⟩:=ML.ex hl
   rw [k.len]
   exact h.kR x (uv x hx)
  cols:=fun x hx=>by
   rcases JR x hx with z | z
   ·obtain ⟨y,hy,e,_⟩:=pairs x z
    rw [← e]
    exact af7 (h.cols y hy)
   ·subst z
    exact afF _
  asc:=by
   rw [afq,hk,List.pairwise_append]
   refine ⟨h.asc,by simp,fun a ha b' gC => ?_⟩
   obtain ⟨x,hx,rfl⟩:=aah.mp ha
   have:b' =c:=by simpa using gC
   subst this
   exact h.cols x hx
  here:=fun x hx=>by
   rcases JR x hx with z | z
   ·obtain ⟨y,hy,e,k,_⟩:=pairs x z
    rw [← e]
    exact k.at (lz _ (h.cols y hy)) (h.here y hy)
   ·subst z
    exact hc
  off:=fun x hx y hy ne=>by
   rcases JR x hx with z | z <;> rcases JR y hy with u | u
   ·obtain ⟨x0,WC,e0,k0,_⟩:=pairs x z
    obtain ⟨y0,JS,e1,_⟩:=pairs y u
    rw [← e1]
    exact k0.zero (h.off x0 WC y0 JS (by rw [e0,e1];exact ne)) (lz _ (h.cols y0 JS))
   ·subst u
    obtain ⟨x0,WC,e0,k0,_⟩:=pairs x z
    exact k0.DQ
   ·subst z
    obtain ⟨y0,JS,e1,_⟩:=pairs y u
    rw [← e1]
    exact lz _ (h.cols y0 JS)
   ·subst z
    subst u
    exact absurd rfl ne
  low:=fun x hx j hj=>by
   rcases JR x hx with z | z
   ·obtain ⟨y,hy,e,k,_⟩:=pairs x z
    rw [← e] at hj
    exact k.zero (h.low y hy j hj) (lz j (Nat.lt_trans hj (h.cols y hy)))
   ·subst z
    exact lz j hj
  zero:=fun l hl j hj=>by
   obtain ⟨x,hx,k,_⟩:=ML.ex hl
   rcases afK.mp hj with z | z
   ·exact k.zero (h.zero x (uv x hx) j z) (lz j z)
   ·subst z
    exact k.DQ
  uu:=fun x hx=>by
   rcases JR x hx with z | z
   ·obtain ⟨y,hy,_,k,_⟩:=pairs x z
    exact k.comb (h.uu y hy) (h.kA lead fg)
   ·subst z
    exact h.kA lead fg
  kA:=fun l hl=>by
   obtain ⟨x,hx,k,_⟩:=ML.ex hl
   exact k.comb (h.kA x (uv x hx)) (h.kA lead fg)
  sol:=fun z=>by
   rw [← h.sol z]
   constructor
   ·rintro ⟨a1,a2⟩
    have az:ev lead z=0:=a1 (c,lead) (by simp)
    refine ⟨fun x hx=> ?_,fun l hl=> ?_⟩
    ·obtain ⟨x',u9,_,k⟩:=back x hx
     exact (k.ev (by rw [ll,h.oH x hx]) az).mp (a1 x' (by simp [u9]))
    ·rcases CD l hl with u | u
     ·rw [u]
      exact az
     ·obtain ⟨y,hy,k,_⟩:=ML.all u
      exact (k.ev (by rw [ll,h.kR l hl]) az).mp (a2 y hy)
   ·rintro ⟨a1,a2⟩
    have az:=a2 lead fg
    refine ⟨fun x hx=> ?_,fun l hl=> ?_⟩
    ·rcases JR x hx with u | u
     ·obtain ⟨y,hy,_,k,_⟩:=pairs x u
      exact (k.ev (by rw [ll,h.oH y hy]) az).mpr (a1 y hy)
     ·subst u
      exact az
    ·obtain ⟨x,hx,k,_⟩:=ML.ex hl
     exact (k.ev (by rw [ll,h.kR x (uv x hx)]) az).mpr (a2 x (uv x hx))
  HK:=fun x hx=>by
   rcases JR x hx with z | z
   ·obtain ⟨y,hy,_,_,k⟩:=pairs x z
    exact k
   ·subst z
    exact (h.EK lead fg).up (by omega)
  EK:=fun l hl=>by
   obtain ⟨x,hx,_,k⟩:=ML.ex hl
   exact k
  cnt:=by
   have a:=ML.len
   have b:=h.cnt
   rw [afi,Yy]
   simp
   omega}
def kU (H:Hp)(kvs:List (Key×V))(nd:List (Nat×List Int)):Prop:=kvs.length=nd.length∧∀(i:Nat) (kv:Key×V) (x:Nat×List Int),kvs[i]? =some kv→nd[i]? =some x→kv.1=.inl (x.1:Int)∧Ln H kv.2 x.2
theorem kU.same {H H' :Hp}{kvs:List (Key×V)}{nd:List (Nat×List Int)}(h:kU H kvs nd)(s:av H H'):kU H' kvs nd:=⟨h.1,fun i kv x e1 e2=>⟨(h.2 i kv x e1 e2).1,(h.2 i kv x e1 e2).2.same s⟩⟩
theorem Ln.put {H:Hp}{v:V}{l:List Int}{d:Addr}{kvs:List (Key×V)}{o:HO}(h:Ln H v l)(e:H d=some (.dK kvs)):Ln (upd H d o) v l:=by
 obtain ⟨p,e1,k⟩:=h
 exact ⟨p,e1,by rw [ao (fun z=>by rw [z,e] at k;cases k)];exact k⟩
theorem qk.put {H:Hp}{us:List V}{ls:List (List Int)}{d:Addr}{kvs:List (Key×V)}{o:HO}(h:qk H us ls)(e:H d=some (.dK kvs)):qk (upd H d o) us ls:=⟨h.1,fun i u l e1 e2=>(h.2 i u l e1 e2).put e⟩
theorem kU.put {H:Hp}{kvs Q9:List (Key×V)}{nd:List (Nat×List Int)}{d:Addr}{o:HO}(h:kU H kvs nd)(e:H d=some (.dK Q9)):kU (upd H d o) kvs nd:=⟨h.1,fun i kv x e1 e2=>⟨(h.2 i kv x e1 e2).1,(h.2 i kv x e1 e2).2.put e⟩⟩
theorem jn {H H' :Hp}{d:Addr}{o:HO}(s:av H H')(n:H d=none):av H (upd H' d o):=fun b o' e=>by
 rw [ao (fun z=>by rw [z,n] at e;cases e)]
 exact s _ _ e
theorem kU.at {H:Hp}{kvs:List (Key×V)}{nd:List (Nat×List Int)}(h:kU H kvs nd){i:Nat}{x:Nat×List Int}(e:nd[i]? =some x):∃v,kvs[i]? =some (.inl (x.1:Int),v)∧Ln H v x.2:=by
 have hi:i < nd.length:=(be.mp e).1
 have hl:=h.1
 have e2:kvs[i]? =some (kvs[i]'(by omega)):=gE (by omega)
 obtain ⟨a,b⟩:=h.2 i _ x e2 e
 exact ⟨(kvs[i]'(by omega)).2,by rw [e2, ← a],b⟩
theorem kU.keys {H:Hp}{kvs:List (Key×V)}{nd:List (Nat×List Int)}(h:kU H kvs nd):kvs.map (·.1)=nd.map (fun x=>(ana (x.1:Int):Key)):=by
 refine afI fun i=> ?_
 have hl:=h.1
 rw [Wp,Wp]
 by_cases hi:i < nd.length
 ·have e:nd[i]? =some nd[i]:=gE hi
  obtain ⟨v,e2,_⟩:=h.at e
  rw [e,e2]
  rfl
 ·rw [aal (by omega),aal (by omega)]
  rfl
theorem jo {k:Key}{v:V}:∀{kvs:List (Key×V)} {i:Nat},(kvs.map (·.1)).Nodup→kvs[i]? =some (k,v)→bO kvs k=some v
 | [],_,_,e=>by simp at e
 | p::r,0,_,e=>by
  cases e
  exact bH (p:=(k,v)) rfl
 | p::r,i+1,n,e=>by
  rw [ac_,afs] at n
  have e' :r[i]? =some (k,v):=by simpa using e
  have ne:¬ p.1=k:=fun z=>n.1 (by rw [z];exact aah.mpr ⟨(k,v),ir e',rfl⟩)
  rw [bo ne]
  exact jo n.2 e'
theorem lO {k:Key}:∀{kvs:List (Key×V)},k∉kvs.map (·.1)→bO kvs k=none
 | [],_=>rfl
 | p::r,h=>by
  have h' :k≠p.1∧k∉r.map (·.1):=by simpa using h
  rw [bo (fun z=>h'.1 z.symm)]
  exact lO h'.2
theorem map_put {k:Key}{v v' :V}:∀{kvs:List (Key×V)} {i:Nat},(kvs.map (·.1)).Nodup→kvs[i]? =some (k,v)→kvs.map (fun kv=>if kv.1=k then (kv.1,v') else kv)=kvs.set i (k,v')
 | [],_,_,e=>by simp at e
 | p::r,0,n,e=>by
  rw [ac_,afs] at n
  cases e
  have hr:r.map (fun kv=>if kv.1=k then (kv.1,v') else kv)=r:=by
   refine (agg (fun q hq=> ?_)).trans (List.map_id r)
   have ne:¬ q.1=k:=fun z=>n.1 (by show k∈_;rw [← z];exact aah.mpr ⟨q,hq,rfl⟩)
   rw [if_neg ne]
   rfl
  rw [ac_,hr,if_pos rfl,List.set_cons_zero]
 | p::r,i+1,n,e=>by
  rw [ac_,afs] at n
  have e' :r[i]? =some (k,v):=by simpa using e
  have ne:¬ p.1=k:=fun z=>n.1 (by rw [z];exact aah.mpr ⟨(k,v),ir e',rfl⟩)
  rw [ac_,if_neg ne,map_put n.2 e',List.set_cons_succ]
theorem JT {k:Key}{v v' :V}{kvs:List (Key×V)}{i:Nat}(n:(kvs.map (·.1)).Nodup)(e:kvs[i]? =some (k,v)):putK kvs k v' =kvs.set i (k,v'):=by
 unfold putK
 rw [fP,jo n e]
 exact map_put n e
theorem kU.set {H:Hp}{kvs:List (Key×V)}{nd:List (Nat×List Int)}(h:kU H kvs nd){i c:Nat}{v:V}{l:List Int}(hv:Ln H v l):kU H (kvs.set i (.inl (c:Int),v)) (nd.set i (c,l)):=by
 have hl:=h.1
 refine ⟨by simp [hl],fun j kv x e1 e2=> ?_⟩
 rw [afD] at e1 e2
 by_cases z:i=j
 ·subst z
  rw [if_pos rfl] at e1 e2
  by_cases hi:i < kvs.length
  ·rw [if_pos hi] at e1
   rw [if_pos (by omega)] at e2
   cases e1
   cases e2
   exact ⟨rfl,hv⟩
  ·rw [if_neg hi] at e1
   cases e1
 ·rw [if_neg z] at e1 e2
  exact h.2 j kv x e1 e2
theorem kU.snoc {H:Hp}{kvs:List (Key×V)}{nd:List (Nat×List Int)}(h:kU H kvs nd){c:Nat}{v:V}{l:List Int}(hv:Ln H v l):kU H (kvs++[(.inl (c:Int),v)]) (nd++[(c,l)]):=by
 have hl:=h.1
 refine ⟨by simp [hl],fun j kv x e1 e2=> ?_⟩
 by_cases z:j < kvs.length
 ·rw [afd z] at e1
  rw [afd (by omega)] at e2
  exact h.2 j kv x e1 e2
 ·rw [afm (by omega)] at e1 e2
  rw [← hl] at e2
  by_cases y:j - kvs.length=0
  ·rw [y] at e1 e2
   cases e1
   cases e2
   exact ⟨rfl,hv⟩
  ·rw [aal (by simp;omega)] at e1
   cases e1
theorem keys_nodup:∀{nd:List (Nat×List Int)},(nd.map (·.1)).Pairwise (· < ·)→(nd.map (fun x=>(ana (x.1:Int):Key))).Nodup
 | [],_=>by simp
 | x::r,h=>by
  rw [ac_,anO] at h
  rw [ac_,afs]
  refine ⟨fun z=> ?_,keys_nodup h.2⟩
  obtain ⟨y,hy,e⟩:=aah.mp z
  have e' :(y.1:Int)=x.1:=aj_ e
  have:=h.1 y.1 (aah.mpr ⟨y,hy,rfl⟩)
  omega
def bb (b k:Nat):Nat:=(k+1)*(b+11)
theorem rm (b k:Nat):b≤bb b k:=by
 unfold bb
 rw [ano,anJ]
 omega
theorem Red.Yz {os:List (List Int)}{L c b:Nat}{nd:List (Nat×List Int)}{lv:List (List Int)}(R:Red os L c b nd lv):A' nd:=⟨R.asc.imp fun h e=>by omega,R.here,R.off⟩
def Pr (os:List (List Int))(l:List Int):Prop:=l∈os∨ND l
theorem Red.small {os:List (List Int)}{L c b b0 k:Nat}{nd:List (Nat×List Int)}{lv ps qs:List (List Int)}(R:Red os L c b nd lv)(O:BA os nd lv ps qs)(hb:∀o∈os,Bd b0 o)(hk:nd.length≤k)(YA:k≤1000)(pN:∀x∈nd,Pr os x.2)(pL:∀l∈lv,Pr os l):Red os L c (bb b0 k) nd lv:=by
 have le:∀{n:Nat},n≤(nd.length+1)*((2*(nd.length+1)*2^b0)^nd.length*2^b0)→n≤2^bb b0 k:=fun {n} h=>aaj h (aaj (Nw (by omega)) (afp (by decide) (af4 _ (by omega))))
 have z:∀{n:Nat},n=0→n≤2^bb b0 k:=fun {n} h=>by rw [h];exact aft _
 refine {R with HK:=fun x hx j=> ?_,EK:=fun l hl j=> ?_}
 ·rcases pN x hx with h | h | h
  ·exact aaj (hb _ h j) (afp (by decide) (rm _ _))
  ·exact le (O.need R.Yz hx hb h j)
  ·exact z (by rw [h j];rfl)
 ·rcases pL l hl with h | h | h
  ·exact aaj (hb _ h j) (afp (by decide) (rm _ _))
  ·obtain ⟨i,ei⟩:=aak hl
   exact le (O.left R.Yz ei (fun x hx=>R.zero l hl x.1 (R.cols x hx)) hb h j)
  ·exact z (by rw [h j];rfl)
theorem JU {xs:List V}{i:Nat}(h:i≤xs.length):fL xs none (some (i:Int))=xs.take i:=by
 unfold fL
 rw [HT.wO,HT.sV,aoh h]
 rfl
theorem zU {xs:List V}{i:Nat}(h:i≤xs.length):fL xs (some (i:Int)) none=xs.drop i:=by
 unfold fL
 rw [HT.wO,HT.sV,aoh h]
 exact List.take_of_length_le (by simp)
theorem Red.up {os:List (List Int)}{L c b b' :Nat}{nd:List (Nat×List Int)}{lv:List (List Int)}(h:Red os L c b nd lv)(hb:b≤b'):Red os L c b' nd lv:={h with HK:=fun x hx=>(h.HK x hx).up hb,EK:=fun x hx=>(h.EK x hx).up hb}
theorem qk.erase {H:Hp}{us:List V}{ls:List (List Int)}(h:qk H us ls)(j:Nat):qk H (us.eraseIdx j) (ls.eraseIdx j):=by
 have hl:=h.1
 refine ⟨by rw [af5,af5,hl],fun i u l e1 e2=> ?_⟩
 rw [afT] at e1 e2
 by_cases z:i < j
 ·rw [if_pos z] at e1 e2
  exact h.2 _ _ _ e1 e2
 ·rw [if_neg z] at e1 e2
  exact h.2 _ _ _ e1 e2
theorem jV {α β:Type}{P:Nat→α→β→Prop}:∀(xs:List α),(∀i x,xs[i]? =some x→∃y,P i x y)→∃ys:List β,ys.length=xs.length∧∀i x y,xs[i]? =some x→ys[i]? =some y→P i x y
 | [],_=>⟨[],rfl,fun i x y e=>by simp at e⟩
 | x::xs,h=>by
  obtain ⟨y,hy⟩:=h 0 x rfl
  obtain ⟨ys,hl,hp⟩:=jV (P:=fun i=>P (i+1)) xs (fun i x e=>h (i+1) x (by simpa using e))
  refine ⟨y::ys,by simp [hl],fun i x' y' e1 e2=> ?_⟩
  cases i with
  | zero=>
   cases e1
   cases e2
   exact hy
  | succ i=>exact hp i x' y' (by simpa using e1) (by simpa using e2)
inductive jW (K:Frag)(vs:List V)(H:Hp)(Q:VK)(E_:XK):Prop where
 | mk (a:Addr) (us:List V) (os:List (List Int:_)) (L m b:Nat) (_:vs=[.ref a,.int (m:Int)]) (_:ba K H a us) (_:qk H us os) (_:(∀o∈os,o.length=L)) (_:m≤L) (_:L≤1000) (_:os.length≤1000) (_:(∀o∈os,Bd b o)) (_:bb b (min m os.length)≤29000000) (_:∀(p d a' :Addr) (kvs:List (Key×V)) (iz :List V) (nd:List (Nat×List Int)) (lv:List (List Int)) (H' :Hp),av H H' →H d=none→H p=none→H' p=some (.tup [.ref d,.ref a'])→H' d=some (.dK kvs)→ba K H' a' iz →kU H' kvs nd→qk H' iz lv→Red os L m (bb b (min m os.length)) nd lv→Q (.ref p) H'):jW K vs H Q E_
theorem kC:aD ["lines","many","needed","left","column","at","lead","place"] ["lines","many"] (ag za):=sq
theorem Q_ (D:Def K mg "reduced" za ["lines","many"])(bQ:mg "range"=none)(bL:mg "list"=none)(YB:Fn P w K mg base (a8 P w) 1 "first_not_nought" ["lines","column"] (rl K))(Ra:Fn P w K mg base (a8 P w) 34 "cleared" ["line","lead","column"] jU):Fn P w K mg base (a8 P w) 35 "reduced" ["lines","many"] (jW K):=by
 refine D.ok kC (fun vs H Q E h=> ?_) (fun f bC A outer s H vs Q E hr h=> ?_)
 ·obtain ⟨a,us,os,L,m,b,rfl,_⟩:=h
  rfl
 obtain ⟨a,us,os,L,m,b,rfl,hS,hL,hlen,hm,hL1,ho,hB,hb,q⟩:=h
 refine ⟨_,(ae (aH (i:=2) kC.nd rfl (ab_ rfl) fT)
  (ae (aH (i:=3) kC.nd rfl (ab_ rfl) (pv 0))
  (ae (bF PassesOwn.never rfl (dP rfl bQ (au (pv 1) aa)) (aE (i:=4) kC.nd rfl (afx rfl)) (ae (aH (i:=5) kC.nd rfl (ab_ rfl) (aC YB hr.mo pX (au (pv 3) (au (pv 4) aa))))
   (ae (bf (aQ vb (pv 5) l_ (aV _)) (aj sM) aJ)
   (ae (aH (i:=6) kC.nd rfl (afx rfl) (bD bu (pv 3) (pv 5) (fun _ _=>rfl)))
   (ae (xg (i:=3) kC.nd rfl (ab_ rfl) (tn:=["line"]) (fr:=["lead","column"]) (caps:=[6,4]) rfl ⟨rfl,by decide+kernel,rfl,by decide+kernel,by decide+kernel,rfl,⟨(by first | exact ab_ rfl | exact afx rfl),⟨(by first | exact ab_ rfl | exact afx rfl),trivial⟩⟩,⟨(by first | exact ab_ rfl | exact afx rfl),⟨(by first | exact ab_ rfl | exact afx rfl),trivial⟩⟩⟩ (bw (aL CC (fK wW (pv 3) lH (fk (pv 5))) (fK wW (pv 3) (fk (aL cp (pv 5) ah)) lH))) (fun _ _ _ _=>(aE (i:=0) (show (["line","lead","column"]:List Str).Nodup from by decide+kernel) rfl (ab_ rfl))) (fun _ _ _ _=>fb) (fun _ _ _ _=>(aC Ra hr.mo (tE (by first | assumption | exact a8.qS) rfl) (au (pv 0) (au (pv 1) (au (pv 2) aa))))))
   (ae (bF PassesOwn.never rfl (bw (cz (gc rfl) rfl bL iK (au (pv 2) aa))) (aE (i:=7) kC.nd rfl (ab_ rfl)) (aj (fo (bT hr) (pv 2) (pv 7) (aC Ra hr.mo pX (au (cF (bT hr) (pv 2) (pv 7) (fun _ _=>rfl)) (au (pv 6) (au (pv 4) aa)))) rfl)))
   (aj (fo (bT hr) (pv 2) (pv 4) (pv 6) rfl))))))))
  (aj (aG (aR (au (pv 2) (au (pv 3) aa)))))))),?_⟩
 refine fun d JV=> ?_
 have s0:av H (upd H d (.dK [])):=aI JV _
 refine ⟨_,rfl,_,rfl,_,rfl,by omega,by omega,?_⟩
 refine fJ (lo:=0) (n:=m) (fun i σ H' =>∃(al:Addr) (m7:List V) (kvs:List (Key×V)) (nd:List (Nat×List Int)) (lv:List (List Int)) (o4 o5 o6 o7:Option V),σ=[some (.ref a),some (.int (m:Int)),some (.ref d),some (.ref al),o4,o5,o6,o7]∧av H H' ∧H' d=some (.dK kvs)∧ba K H' al m7∧qk H' m7 lv∧kU H' kvs nd∧nd.length≤i∧Red os L i (bb b (min m os.length)) nd lv∧(∃ps qs,BA os nd lv ps qs)∧(∀x∈nd,Pr os x.2)∧∀l∈lv,Pr os l)
  ⟨a,us,[],[],os,none,none,none,none,rfl,s0,ak,s0.seq hS,hL.same s0,⟨rfl,by simp⟩,aai _,(Red.start hlen hB).up (rm _ _),⟨[],os,BA.start os⟩,(by simp),fun l hl=>.inl hl⟩ ?_ ?_
 ·rintro i σ H1 hi ⟨al,m7,kvs,nd,lv,o4,o5,o6,o7,rfl,s1,hd,O4,zV,hN,hni,R,⟨ps,qs,O⟩,pN,pL⟩
  refine ⟨_,rfl,_,rfl,al,m7,lv,i,by rw [afU];rfl,O4,zV,fun l hl=>by rw [R.kR l hl];omega,fun j lead H2 s2 ej hj=> ?_,fun hz H2 s2=> ?_⟩
  ·have hjl:j < lv.length:=(be.mp ej).1
   have hul:=zV.1
   have cnt:=R.cnt
   have WG:=hb
   have hd2:=s2 _ _ hd
   have YC:=s2.seq O4
   have hL2:=zV.same s2
   have YD:=hN.same s2
   obtain ⟨u,eu,hu⟩:=hL2.at' ej
   have fg:lead∈lv:=ir ej
   refine ⟨_,rfl,rfl,_,rfl,?_⟩
   refine a_ (fun z=>by simp at z) (fun _=> ?_)
   refine ⟨_,rfl,_,rfl,al,_,_,_,rfl,rfl,YC,dC eu,?_⟩
   refine ⟨_,rfl,_,rfl,_,rfl,al,m7,rfl,YC,fun p1 n1=> ?_⟩
   have t1:=aI n1 (.lst (fL m7 none (some (j:Int))))
   refine ⟨_,rfl,_,rfl,_,_,rfl,rfl,_,rfl,al,m7,rfl,t1.seq YC,fun p2 n2=> ?_⟩
   have t2:=aI n2 (.lst (fL m7 (some ((j:Int)+1)) none))
   have Rb:fL m7 none (some (j:Int))++fL m7 (some ((j:Int)+1)) none=m7.eraseIdx j:=by
    rw [JU (by omega),show ((j:Int)+1)=((j+1:Nat):Int) from by omega,zU (by omega),List.eraseIdx_eq_take_drop_succ]
   have YE:(fL m7 none (some (j:Int))).length+(fL m7 (some ((j:Int)+1)) none).length≤sizeLine:=by
    rw [← afi,Rb]
    exact aaj (aaj (ak_ ..) (show m7.length≤1000 by omega)) (by decide)
   refine ⟨p1,p2,_,_,rfl,rfl,t2 _ _ ak,ak,YE,fun p3 n3=> ?_⟩
   have t3:=aI n3 (.lst (fL m7 none (some (j:Int))++fL m7 (some ((j:Int)+1)) none))
   refine ⟨p3,rfl,⟨_,ba.of ak⟩,fun D nD=> ?_⟩
   have tt:=(t1.trans t2).trans t3
   have hE:=(hL2.same tt).erase j
   have WH:=hu.same tt
   have er:(m7.eraseIdx j).length≤1000:=aaj (ak_ ..) (show m7.length≤1000 by omega)
   refine mH (cap:=[some u,some (.int ((0:Int)+i))]) (K:=K) (a:=p3) (xs:=m7.eraseIdx j) (fun k v H=>∃x y p,(lv.eraseIdx j)[k]? =some x∧v=.ref p∧p≠D∧H p=some (.lst (y.map V.int))∧oq x lead y i∧Bd (2*bb b (min m os.length)+1) y∧(y=x∨ND y)) nD (afe er (by decide)) (fun H3 s3=>ba.of (s3 _ _ (by rw [ak,Rb]))) ?_ ?_ ?_
   ·rintro k v H3 H4 ys hD3 ks ⟨x,y,p,e1,e2,e3,e4,e5⟩
    exact ⟨x,y,p,e1,e2,e3,ks _ _ e3 e4,e5⟩
   ·rintro k x H3 RR ex s3 ⟨ys0,YF⟩ kk
    obtain ⟨l,el,hl⟩:=hE.at ex
    have yJ:l∈lv:=agf (ir el)
    have hll:=R.kR l yJ
    have YG:=R.kR lead fg
    refine ⟨_,rfl,_,rfl,_,rfl,x,u,l,lead,i,bb b (min m os.length),bb b (min m os.length),by rw [afU];rfl,hl.same s3,WH.same s3,by rw [hll,YG],by omega,by omega,hj,R.EK l yJ,R.EK lead fg,WG,WG,fun v' l' H4 s4 L4 cl bd pz fr=> ?_⟩
    obtain ⟨p,e1,e2⟩:=L4
    refine kk v' H4 s4 ⟨l,l',p,el,e1,?_,e2,cl,by rw [Nat.two_mul];exact bd,pz⟩
    rcases fr with z | ⟨p',z,n⟩
    ·obtain ⟨px',z1,z2⟩:=hl
     rw [z1,e1] at z
     cases z
     exact aq z2 nD
    ·rw [e1] at z
     cases z
     exact fun y=>by rw [y,YF] at n;cases n
   ·intro ys H3 hy jS s3 hD
    obtain ⟨vA,Yy,hp⟩:=jV (P:=fun k v y=>∃x p,(lv.eraseIdx j)[k]? =some x∧v=.ref p∧p≠D∧H3 p=some (.lst (y.map V.int))∧oq x lead y i∧Bd (2*bb b (min m os.length)+1) y∧(y=x∨ND y)) ys (fun k v e=>by
     obtain ⟨x,y,p,r⟩:=jS k v e
     exact ⟨y,x,p,r⟩)
    have hLn:qk H3 ys vA :=⟨Yy.symm,fun k v y e1 e2=>by
     obtain ⟨x,p,_,e,_,r,_⟩:=hp k v y e1 e2
     exact ⟨p,e,r⟩⟩
    have les:(m7.eraseIdx j).length=(lv.eraseIdx j).length:=hE.1
    have ML:Made os lead i (2*bb b (min m os.length)+1) (lv.eraseIdx j) vA :=⟨by omega,fun k x e=>by
     have hk:k < (lv.eraseIdx j).length:=(be.mp e).1
     have e1:ys[k]? =some (ys[k]'(by omega)):=gE (by omega)
     have e2:vA[k]? =some (vA[k]'(by omega)):=gE (by omega)
     obtain ⟨x',p,r1,_,_,_,r2,r3,_⟩:=hp k _ _ e1 e2
     rw [e] at r1
     cases r1
     exact ⟨_,e2,r2,r3⟩⟩
    have PL:∀l∈vA,Pr os l:=fun l hl=>by
     obtain ⟨k,ek⟩:=aak hl
     have hk:k < vA.length:=(be.mp ek).1
     have e1:ys[k]? =some (ys[k]'(by omega)):=gE (by omega)
     obtain ⟨x',p,r1,_,_,_,_,_,r4⟩:=hp k _ _ e1 ek
     rcases r4 with z | z
     ·rw [z]
      exact pL x' (agf (ir r1))
     ·exact .inr z
    have vJ:=tt.trans s3
    have YH:=vJ _ _ hd2
    have hN3:=YD.same vJ
    have hu4:=WH.same s3
    refine ⟨_,rfl,d,kvs,rfl,Rd.of YH,fun l3 n3=> ?_⟩
    have t4:=aI n3 (.lst (kvs.map fun kv=>kV kv.1))
    refine ⟨l3,rfl,⟨_,ba.of ak⟩,?_⟩
    have dl:d≠l3:=aq YH n3
    refine bM (K:=K) (a:=l3) (xs:=kvs.map fun kv=>kV kv.1) (fun t σ H' =>∃(o7:Option V) (rn :List (Key×V)) (gP :List (Nat×List Int)),σ=[some (.ref a),some (.int (m:Int)),some (.ref d),some (.ref D),some (.int ((0:Int)+i)),some (.int (j:Int)),some u,o7]∧av H H' ∧H' d=some (.dK rn)∧H' l3=some (.lst (kvs.map fun kv=>kV kv.1))∧H' D=some (.lst ys)∧qk H' ys vA ∧Ln H' u lead∧kU H' rn gP ∧gP.map (·.1)=nd.map (·.1)∧
      ∀(k:Nat) (x:Nat×List Int),nd[k]? =some x→∃y,gP[k]? =some (x.1,y)∧(t≤k→y=x.2)∧(k < t→(oq x.2 lead y i∧Bd (2*bb b (min m os.length)+1) y)∧(y=x.2∨ND y)))
     ⟨_,kvs,nd,rfl,((s1.trans s2).trans vJ).trans t4,t4 _ _ YH,ak,t4 _ _ hD,hLn.same t4,hu4.same t4,hN3.same t4,rfl,fun k x e=>⟨x.2,e,fun _=>rfl,fun z=>absurd z (afW _)⟩⟩ (fun t σ H' _ h=>by
      obtain ⟨_,_,_,_,_,_,h,_⟩:=h
      exact ba.of h) ?_ ?_
    ·rintro t u7 σ H4 hu7 ⟨o7,rn,gP,rfl,s4,HL,hl4,Rc,YI,WI,Lv,NF,O5⟩
     rw [Wp] at hu7
     obtain ⟨kv,uw,rfl⟩:=ae9.mp hu7
     have htl:t < kvs.length:=(be.mp uw).1
     have hnl:=hN.1
     have ex:nd[t]? =some (nd[t]'(by omega)):=gE (by omega)
     obtain ⟨x,hx⟩:∃x,nd[t]? =some x:=⟨_,ex⟩
     obtain ⟨kx,hxm⟩:kv.1=.inl (x.1:Int)∧x∈nd:=⟨(hN3.2 t kv x uw hx).1,ir hx⟩
     obtain ⟨y,ey,y1,_⟩:=O5 t x hx
     have y2:=y1 (aai _)
     subst y2
     obtain ⟨v,ev,hv⟩:=Lv.at ey
     have nk:(rn.map (·.1)).Nodup:=by
      rw [Lv.keys]
      exact keys_nodup (by rw [NF];exact R.asc)
     have YJ:=jo nk ev
     have hxl:=R.oH x hxm
     have YG:=R.kR lead fg
     have dg:di H4 d (kV kv.1) (some v):=by
      rw [kx, ← YJ]
      exact di.k HL
     refine ⟨_,rfl,_,rfl,d,v,rfl,dg,_,rfl,_,rfl,v,u,x.2,lead,i,bb b (min m os.length),bb b (min m os.length),by rw [afU];rfl,hv,WI,by rw [hxl,YG],by omega,by omega,hj,R.HK x hxm,R.EK lead fg,WG,WG,fun v' l' H5 s5 L5 cl bd pz fr=> ?_⟩
     have WJ:=s5 _ _ HL
     have l4' :=Lv.1
     have YK :gP.length=nd.length:=by simpa using congrArg afH NF
     refine ⟨_,rfl,_,rfl,d,_,rfl,iL.k WJ (afe (show rn.length≤1000 by omega) (by decide)),?_⟩
     rw [kx,JT nk ev]
     have dn:d≠D:=fun z=>by rw [z,Rc] at HL;cases HL
     refine ⟨_,rn.set t (.inl (x.1:Int),v'),gP.set t (x.1,l'),rfl,jn (s4.trans s5) JV,ak,by rw [ao (afk dl)];exact s5 _ _ hl4,by rw [ao (afk dn)];exact s5 _ _ Rc,(YI.same s5).put WJ,(WI.same s5).put WJ,((Lv.same s5).set L5).put WJ,?_,fun k x' ek=> ?_⟩
     ·rw [List.map_set,NF]
      refine afI fun k=> ?_
      rw [afD]
      by_cases z:t=k
      ·subst z
       rw [if_pos rfl,if_pos (by simp;omega),Wp,hx]
       rfl
      ·rw [if_neg z]
     ·obtain ⟨y',BB,a1,a2⟩:=O5 k x' ek
      by_cases z:t=k
      ·subst z
       rw [hx] at ek
       cases ek
       refine ⟨l',by rw [afD,if_pos rfl,if_pos (by omega)],fun w=>by omega,fun _=>⟨⟨cl,by rw [Nat.two_mul];exact bd⟩,pz⟩⟩
      ·exact ⟨y',by rw [afD,if_neg z];exact BB,fun w=>a1 (by omega),fun w=>a2 (by omega)⟩
    ·rintro σ H4 ⟨o7,rn,gP,rfl,s4,HL,hl4,Rc,YI,WI,Lv,NF,O5⟩
     have l4' :=Lv.1
     have YK :gP.length=nd.length:=by simpa using congrArg afH NF
     have hnl:=hN.1
     rw [aaa] at O5
     have MN:Made os lead i (2*bb b (min m os.length)+1) (nd.map (·.2)) (gP.map (·.2)):=⟨by simp [YK],fun k x e=>by
      rw [Wp] at e
      obtain ⟨x0,e0,rfl⟩:=ae9.mp e
      have hk:k < nd.length:=(be.mp e0).1
      obtain ⟨y,ey,_,a2⟩:=O5 k x0 e0
      exact ⟨y,by rw [Wp,ey];rfl,(a2 (by omega)).1⟩⟩
     have P8:bO rn (.inl ((0:Int)+i))=none:=lO (fun z=>by
      rw [Lv.keys] at z
      obtain ⟨x',u9,e⟩:=aah.mp z
      have e1:(x'.1:Int)=0+i:=aj_ e
      have:x'.1∈nd.map (·.1):=by rw [← NF];exact aah.mpr ⟨x',u9,rfl⟩
      obtain ⟨x,hx,e2⟩:=aah.mp this
      have:=R.cols x hx
      omega)
     refine ⟨_,rfl,_,rfl,_,rfl,d,_,rfl,iL.k (k:=.inl ((0:Int)+i)) HL (afe (show rn.length≤1000 by omega) (by decide)),?_⟩
     rw [dE u P8]
     have dn:d≠D:=fun z=>by rw [z,Rc] at HL;cases HL
     have YL:∀l∈lv.eraseIdx j,l∈lv:=fun l h=>agf h
     have YM:∀l∈lv,l=lead∨l∈lv.eraseIdx j:=fun l h=>by
      obtain ⟨k,ek⟩:=aak h
      rcases Nat.lt_trichotomy k j with z | z | z
      ·exact .inr (ir (i:=k) (by rw [afT,if_pos z];exact ek))
      ·subst z
       rw [ej] at ek
       cases ek
       exact .inl rfl
      ·exact .inr (ir (i:=k - 1) (by rw [afT,if_neg (by omega),show k - 1+1=k by omega];exact ek))
     have YN:(lv.eraseIdx j).length+1=lv.length:=by rw [af5,if_pos hjl];omega
     have R2:=R.step fg YL YM YN hj ML NF MN
     obtain ⟨Ys,QW,O2⟩:=O.step R.Yz ej (fun x hx=>R.zero lead fg x.1 (R.cols x hx)) hj ML.len (fun k x e=>by
      obtain ⟨y,ey,k1,_⟩:=ML.to k x e
      exact ⟨y,ey,k1⟩) YK fun k x e=>by
      obtain ⟨y,ey,k1,_⟩:=MN.to k x e
      exact ⟨y,ey,k1⟩
     have PN:∀x∈gP ++[(i,lead)],Pr os x.2:=fun x hx=>by
      rcases afg.mp hx with z | z
      ·obtain ⟨k,ek⟩:=aak z
       have hk:k < gP.length:=(be.mp ek).1
       obtain ⟨x0,e0⟩:∃x0,nd[k]? =some x0:=⟨_,gE (by omega)⟩
       obtain ⟨y,ey,_,a2⟩:=O5 k x0 e0
       rw [ek] at ey
       cases ey
       rcases (a2 (by omega)).2 with u | u
       ·show Pr os y
        rw [u]
        exact pN x0 (ir e0)
       ·exact .inr u
      ·rw [ae_.mp z]
       exact pL lead fg
     have Rf:=R2.cnt
     have R3:=R2.small O2 hB (k:=min m os.length) (by rw [afi] at Rf ⊢;simp at Rf ⊢;omega) (by omega) PN PL
     refine ⟨D,ys,_,gP ++[(i,lead)],vA,_,_,_,_,rfl,jn s4 JV,ak,ba.of (by rw [ao (afk dn)];exact Rc),YI.put HL,(by rw [afU];exact (Lv.snoc WI).put HL),by simp;omega,R3,⟨Ys,QW,O2⟩,PN,PL⟩
  ·refine ⟨_,rfl,rfl,_,rfl,?_⟩
   refine a_ (fun _=> ?_) (fun z=>by simp at z)
   exact ⟨al,m7,kvs,nd,lv,_,_,_,_,rfl,s1.trans s2,s2 _ _ hd,s2.seq O4,zV.same s2,hN.same s2,by omega,R.skip hz,⟨ps,qs,O⟩,pN,pL⟩
 ·rintro σ H1 ⟨al,m7,kvs,nd,lv,o4,o5,o6,o7,rfl,s1,hd,O4,zV,hN,hni,R,⟨ps,qs,O⟩,pN,pL⟩
  refine ⟨_,rfl,_,rfl,(by show 2≤sizeLine;decide),fun p np=> ?_⟩
  have sp:=aI np (.tup [.ref d,.ref al])
  have cnt:=R.cnt
  exact q p d al kvs m7 nd lv _ (s1.trans sp) JV (s1.free np) ak (sp _ _ hd) (sp.seq O4) (hN.same sp) (zV.same sp) R
theorem JW {t b:Int}{T B:Nat}(hb:b≠0)(h1:t.natAbs≤2^T)(h2:b.natAbs≤2^B):Sm T B (low t b):=⟨i9 hb,lJ hb,aaj (mq hb) h1,aaj (mB hb) h2⟩
theorem EL {l:List Int}{j:Nat}(h:l.length≤j):l.getD j 0=0:=by
 rw [afb,aal h]
 rfl
theorem vK {n j:Nat}(h:j < n):HH n (j:Int)=some j:=by
 unfold HH
 simp
 omega
theorem bK.putL {K:Frag}{H:Hp}{a d:Addr}{xs ys:List V}{o:HO}(h:bK K H a xs)(e:H d=some (.lst ys)):bK K (upd H d o) a xs:=by
 rcases h with (h | ⟨o',h⟩) | h
 ·exact .inl (.inl (by rw [ao (fun z=>by rw [z,e] at h;cases h)];exact h))
 ·exact .inl (.inr ⟨o',by rw [ao (fun z=>by rw [z,e] at h;cases h)];exact h⟩)
 ·exact .inr h
def EM (H:Hp)(r:Addr)(ls:List Addr)(dG:List (List V)):Prop:=H r=some (.lst (ls.map V.ref))∧ls.length=dG.length∧∀(i:Nat) (l:Addr) (vs:List V),ls[i]? =some l→dG[i]? =some vs→H l=some (.lst vs)
theorem EM.same {H H' :Hp}{r:Addr}{ls:List Addr}{dG:List (List V)}(h:EM H r ls dG)(s:av H H'):EM H' r ls dG:=⟨s _ _ h.1,h.2.1,fun i l vs e1 e2=>s _ _ (h.2.2 i l vs e1 e2)⟩
def Shape (T B m:Nat)(fq:List (List (Int×Int))):Prop:=∀qs∈fq,qs.length=m∧∀q∈qs,Sm T B q
def iN (K:Frag)(H:Hp)(dG:List (List V))(fq:List (List (Int×Int))):Prop:=dG.length=fq.length∧∀(i:Nat) (vs:List V) (qs:List (Int×Int)),dG[i]? =some vs→fq[i]? =some qs→dj K H vs qs
theorem iN.same {H H' :Hp}{dG:List (List V)}{fq:List (List (Int×Int))}(h:iN K H dG fq)(s:av H H'):iN K H' dG fq:=⟨h.1,fun i vs qs e1 e2=>(h.2 i vs qs e1 e2).same s⟩
theorem Bd.of {b:Nat}{l:List Int}(h:∀t∈l,t.natAbs≤2^b):Bd b l:=fun j=>by
 by_cases hj:j < l.length
 ·have e:l[j]? =some l[j]:=gE hj
  rw [getD_mem e]
  exact h _ (afZ hj)
 ·rw [EL (by omega)]
  exact aft _
abbrev Wl:=List Int×Int×Addr×Addr
inductive vL (K:Frag)(f:Int×Int→Int×Int→Int×Int)(vs:List V)(H:Hp)(Q:VK)(E_:XK):Prop where
 | mk (u v:V) (x y:Int×Int) (_:vs=[u,v]) (_:kO K H u x) (_:kO K H v y) (_:QY 100000 x) (_:QY 100000 y) (_:gives H Q (f x y)):vL K f vs H Q E_
theorem Rg:aD ["one","other"] ["one","other"] (ag vF):=sq
theorem Rh (hM:tu CX)(D:Def K mg "difference_of" vF ["one","other"])(NG:Fn P w K mg base CX 33 "lowest_terms" ["top","bottom"] g_):Fn P w K mg base CX 34 "difference_of" ["one","other"] (vL K subQ):=by
 refine D.ok Rg (fun vs H Q E h=> ?_) (fun f bC A outer s H vs Q E hr h=> ?_)
 ·obtain ⟨u,v,x,y,rfl,_⟩:=h
  rfl
 obtain ⟨u,v,x,y,rfl,⟨p1,rfl,h1⟩,⟨p2,rfl,h2⟩,k1,k2,q⟩:=h
 have px:=tw (X:=kK CX P w K mg base ["one","other"] "difference_of" (ag vF) f bC A outer s H E) hM
 refine ⟨_,(aj (aG (aC NG hr.mo px (au (aL dR (aL cE (aK (pv 0)) (aK (pv 1))) (aL cE (aK (pv 1)) (aK (pv 0)))) (au (aL cE (aK (pv 0)) (aK (pv 1))) aa))))),?_⟩
 have b1:=k1.top
 have b2:=k1.bot
 have b3:=k2.top
 have b4:=k2.bot
 have c:∀{i j:Int},intBits i≤100000→intBits j≤100000→wZ i j:=fun a b=>⟨aaj a (by decide),aaj b (by decide)⟩
 refine ⟨_,rfl,p1,_,_,_,rfl,rfl,h1,iy,_,rfl,p2,_,_,_,rfl,rfl,h2,g9,_,_,rfl,rfl,c b1 b4,?_⟩
 refine ⟨_,rfl,p2,_,_,_,rfl,rfl,h2,iy,_,rfl,p1,_,_,_,rfl,rfl,h1,g9,_,_,rfl,rfl,c b3 b2,?_⟩
 refine ⟨_,_,rfl,rfl,?_⟩
 refine ⟨_,rfl,p1,_,_,_,rfl,rfl,h1,g9,_,rfl,p2,_,_,_,rfl,rfl,h2,g9,_,_,rfl,rfl,c b2 b4,?_⟩
 exact ⟨_,_,rfl,JN k1 k2,q⟩
inductive vM (K:Frag)(f:Rat→Rat→Rat)(vs:List V)(H:Hp)(Q:VK)(E_:XK):Prop where
 | mk (u v:V) (x y:Rat) (_:vs=[u,v]) (_:gA K H u x) (_:gA K H v y) (_:Sz 100000 x) (_:Sz 100000 y) (_:gives H Q (qr (f x y))):vM K f vs H Q E_
theorem EN {k:Nat}{r:Rat}(h:Sz k r):QY k (qr r):=⟨c9 r,h.top,h.bot⟩
theorem NH {k:Nat}{x:Str}{ps:List Str}(F:Fn P w K mg base CX k x ps (vL K subQ)):Fn P w K mg base CX k x ps (vM K fun a b=>a - b):=by
 obtain ⟨f,fd,G,r⟩:=F.ex
 refine ⟨f,fd,G.imp fun vs H Q E h=> ?_,r⟩
 obtain ⟨u,v,a,b,e,h1,h2,k1,k2,q⟩:=h
 refine ⟨u,v,qr a,qr b,e,h1,h2,EN k1,EN k2,?_⟩
 unfold subQ
 rw [DW]
 exact q
def EO (K:Frag)(H:Hp)(Q:VK)(p:Rat×Rat):Prop:=∀(v:V) (H' :Hp),av H H' →dZ K H' v p→Q v H'
inductive vN (K:Frag)(f:Rat→Rat→Rat)(vs:List V)(H:Hp)(Q:VK)(E_:XK):Prop where
 | mk (u v:V) (x y:Rat×Rat) (_:vs=[u,v]) (_:dZ K H u x) (_:dZ K H v y) (_:Sz 100000 x.1) (_:Sz 100000 x.2) (_:Sz 100000 y.1) (_:Sz 100000 y.2) (_:EO K H Q (f x.1 y.1,f x.2 y.2)):vN K f vs H Q E_
theorem Ri:aD ["one","other"] ["one","other"] (ag vG):=sq
theorem Rj (hM:tu CX)(D:Def K mg "pair_difference" vG ["one","other"])(Rk:Fn P w K mg base CX 34 "difference_of" ["one","other"] (vM K fun a b=>a - b)):Fn P w K mg base CX 35 "pair_difference" ["one","other"] (vN K fun a b=>a - b):=by
 refine D.ok Ri (fun vs H Q E h=> ?_) (fun f bC A outer s H vs Q E hr h=> ?_)
 ·obtain ⟨u,v,x,y,rfl,_⟩:=h
  rfl
 obtain ⟨u,v,x,y,rfl,⟨p1,a1,a2,rfl,h1,n1,n2⟩,⟨p2,b1,b2,rfl,h2,m1,m2⟩,k1,k2,l1,l2,q⟩:=h
 have px:=tw (X:=(kK (a8 P w) P w K mg base ["one","other"] "pair_difference" (ag vG) f bC A outer s H E)) hM
 refine ⟨_,(aj (aG (aR (au (aC Rk hr.mo px (au (aK (pv 0)) (au (aK (pv 1)) aa))) (au (aC Rk hr.mo px (au (aK (pv 0)) (au (aK (pv 1)) aa))) aa))))),?_⟩
 refine ⟨_,rfl,p1,_,_,_,rfl,rfl,h1,iy,_,rfl,p2,_,_,_,rfl,rfl,h2,iy,a1,b1,_,_,rfl,n1,m1,k1,l1,fun c1 H1 s1 e1=> ?_⟩
 refine ⟨_,rfl,p1,_,_,_,rfl,rfl,Ty.av.cy s1 h1,g9,_,rfl,p2,_,_,_,rfl,rfl,Ty.av.cy s1 h2,g9,a2,b2,_,_,rfl,n2.same s1,m2.same s1,k2,l2,fun c2 H2 s2 e2=> ?_⟩
 refine ⟨(by show 2≤sizeLine;decide),fun c3 n3=> ?_⟩
 have s3:=aI n3 (.tup [.ref c1,.ref c2])
 exact q (.ref c3) _ (fun b o z=>s3 _ _ (s2 _ _ (s1 _ _ z))) ⟨c3,_,_,rfl,bK.of ak,⟨c1,rfl,bK.of (s3 _ _ (s2 _ _ e1))⟩,⟨c2,rfl,bK.of (s3 _ _ e2)⟩⟩
inductive rq (K:Frag)(C:Addr)(vs:List V)(H:Hp)(Q:VK)(E_:XK):Prop where
 | mk (a dx:Addr) (_:vs=[.ref a]) (_:H a=some (.ins C dx [])) (_:∀(pP pW pB:Addr) (H' :Hp),aT a H H' →H pP=none→H pW=none→H pB=none→d6 K H' C a dx pP pW pB [] [] [] [] []→Q .cb H'):rq K C vs H Q E_
theorem JX {x:V}:fw "pin_places" x []=([("pin_places",x)]:List (Str×V)):=rfl
theorem JY {x y:V}:fw "pin_ways" y [("pin_places",x)]=([("pin_places",x),("pin_ways",y)]:List (Str×V)):=by
 simp only [fw]
 rw [if_neg (by decide)]
theorem JZ {x y z:V}:fw "bar_ends" z [("pin_places",x),("pin_ways",y)]=([("pin_places",x),("pin_ways",y),("bar_ends",z)]:List (Str×V)):=by
 simp only [fw]
 rw [if_neg (by decide),if_neg (by decide)]
theorem Rm:aD ["self"] ["self"] (ag zI):=sq
theorem Rn {f:Addr}{fd:FuncData}{C:Addr}(F:mj K "__init__" "Frame.__init__" zI f fd)(fc:AZ K C):cv P w K mg base (a8 P w) 1 f fd ["self"] (rq K C):=by
 refine cS F Rm (fun vs H Q E h=> ?_) (fun bC A outer s H vs Q E hr h=> ?_)
 ·obtain ⟨a,dx,rfl,_⟩:=h
  rfl
 obtain ⟨a,dx,rfl,ha,q⟩:=h
 refine ⟨_,(ae (qH (pv 0) fT rfl)
  (ae (qH (pv 0) fT rfl)
  (aj (qH (pv 0) fT rfl)))),?_⟩
 intro pP nP
 have aP:a≠pP:=aq ha nP
 refine ⟨_,rfl,a,C,dx,_,rfl,(by rw [ao aP];exact ha),fc.cls,fc.pl,(by show 0 < 1000;decide),?_⟩
 rw [JX]
 generalize e1:upd (upd H pP (.dK [])) a (.ins C dx [("pin_places",.ref pP)])=H1
 have o1:H1 a=some (.ins C dx [("pin_places",.ref pP)]):=by rw [← e1,ak]
 have p1:H1 pP=some (.dK []):=by rw [← e1,ao (afk aP),ak]
 have k1:∀b o,b≠a→H b=some o→H1 b=some o:=fun b o n e=>by rw [← e1,ao n,ao (aq e nP)];exact e
 intro pW nW
 have aW:a≠pW:=aq o1 nW
 refine ⟨_,rfl,a,C,dx,_,rfl,(by rw [ao aW];exact o1),fc.cls,fc.wy,(by show 1 < 1000;decide),?_⟩
 rw [JY]
 generalize e2:upd (upd H1 pW (.dK [])) a (.ins C dx [("pin_places",.ref pP),("pin_ways",.ref pW)])=H2
 have PW:pP≠pW:=aq p1 nW
 have o2:H2 a=some (.ins C dx [("pin_places",.ref pP),("pin_ways",.ref pW)]):=by rw [← e2,ak]
 have w2:H2 pW=some (.dK []):=by rw [← e2,ao (afk aW),ak]
 have k2:∀b o,b≠a→H1 b=some o→H2 b=some o:=fun b o n e=>by rw [← e2,ao n,ao (aq e nW)];exact e
 intro pB nB
 have aB:a≠pB:=aq o2 nB
 have p2:=k2 _ _ (afk aP) p1
 refine ⟨_,rfl,a,C,dx,_,rfl,(by rw [ao aB];exact o2),fc.cls,fc.br,(by show 2 < 1000;decide),?_⟩
 rw [JZ]
 have PB:pP≠pB:=aq p2 nB
 have WB:pW≠pB:=aq w2 nB
 have k3:∀b o,b≠a→H2 b=some o→(upd (upd H2 pB (.dK [])) a (.ins C dx [("pin_places",.ref pP),("pin_ways",.ref pW),("bar_ends",.ref pB)])) b=some o:=fun b o n e=>by rw [ao n,ao (aq e nB)];exact e
 have f1:∀b,b≠a→H1 b=none→H b=none:=fun b n e=>by
  cases z:H b with
  | none=>rfl
  | some o=>rw [k1 b o n z] at e;cases e
 have f2:∀b,b≠a→H2 b=none→H b=none:=fun b n e=>by
  cases z:H b with
  | none=>rfl
  | some o=>rw [k2 b o n (k1 b o n z)] at e;cases e
 refine q pP pW pB _ (fun b o n e=>k3 b o n (k2 b o n (k1 b o n e))) nP (f1 _ (afk aW) nW) (f2 _ (afk aB) nB) ⟨ak,k3 _ _ (afk aP) p2,k3 _ _ (afk aW) w2,?_,PW,PB,WB,.nil,.nil⟩
 rw [ao (afk aB),ak]
inductive rA (K:Frag)(C:Addr)(vs:List V)(H:Hp)(Q:VK)(E_:XK):Prop where
 | mk (a dx pP pW pB:Addr) (ps:List (Str×Pt)) (bs:List (Str×Str×Str)) (kP kW kB:List (Key×V)) (_:vs=[.ref a]) (_:d6 K H C a dx pP pW pB ps bs kP kW kB) (_:∀(l:Addr) (H' :Hp),av H H' →H l=none→H' l=some (.lst ((bs.map (·.1)).map V.str))→Q (.ref l) H'):rA K C vs H Q E_
theorem Ro:aD ["self"] ["self"] (ag zN):=sq
theorem Rp {f:Addr}{fd:FuncData}{C:Addr}(F:mj K "bars" "Frame.bars" zN f fd)(fc:AZ K C)(bL:mg "list"=none):cv P w K mg base (a8 P w) 1 f fd ["self"] (rA K C):=by
 refine cS F Ro (fun vs H Q E h=> ?_) (fun bC A outer s H vs Q E hr h=> ?_)
 ·obtain ⟨a,dx,pP,pW,pB,ps,bs,kP,kW,kB,rfl,_⟩:=h
  rfl
 obtain ⟨a,dx,pP,pW,pB,ps,bs,kP,kW,kB,rfl,R,q⟩:=h
 refine ⟨_,(aj (aG (cz (gc rfl) rfl bL iK (au (cq (pv 0) rfl) aa)))),?_⟩
 refine ⟨_,rfl,a,C,dx,_,_,rfl,R.obj,fc.cls,fc.br,rfl,pB,kB,rfl,.inl R.br,fun l nl=> ?_⟩
 refine q l _ (aI nl _) nl ?_
 rw [ak]
 have e:kB.map (fun kv=>kV kv.1)=(bs.map (·.1)).map V.str:=by
  have z:kB.map (fun kv=>kV kv.1)=(kB.map (·.1)).map kV:=by rw [afj];rfl
  rw [z,R.qe,afj]
  rfl
 rw [e]
inductive iO (K:Frag)(C:Addr)(vs:List V)(H:Hp)(Q:VK)(E_:XK):Prop where
 | mk (a dx pP pW pB:Addr) (ps:List (Str×Pt)) (bs:List (Str×Str×Str)) (kP kW kB:List (Key×V)) (_:vs=[.ref a]) (_:d6 K H C a dx pP pW pB ps bs kP kW kB) (_:∀(l:Addr) (H' :Hp),av H H' →H l=none→H' l=some (.lst ((ps.map (·.1)).map V.str))→Q (.ref l) H'):iO K C vs H Q E_
theorem Rq:aD ["self"] ["self"] (ag zM):=sq
theorem Rr {f:Addr}{fd:FuncData}{C:Addr}(F:mj K "pins" "Frame.pins" zM f fd)(fc:AZ K C)(bL:mg "list"=none):cv P w K mg base (a8 P w) 1 f fd ["self"] (iO K C):=by
 refine cS F Rq (fun vs H Q E h=> ?_) (fun bC A outer s H vs Q E hr h=> ?_)
 ·obtain ⟨a,dx,pP,pW,pB,ps,bs,kP,kW,kB,rfl,_⟩:=h
  rfl
 obtain ⟨a,dx,pP,pW,pB,ps,bs,kP,kW,kB,rfl,R,q⟩:=h
 refine ⟨_,(aj (aG (cz (gc rfl) rfl bL iK (au (cq (pv 0) rfl) aa)))),?_⟩
 refine ⟨_,rfl,a,C,dx,_,_,rfl,R.obj,fc.cls,fc.pl,rfl,pP,kP,rfl,.inl R.pl,fun l nl=> ?_⟩
 refine q l _ (aI nl _) nl ?_
 rw [ak]
 have e:kP.map (fun kv=>kV kv.1)=(ps.map (·.1)).map V.str:=by
  have z:kP.map (fun kv=>kV kv.1)=(kP.map (·.1)).map kV:=by rw [afj];rfl
  rw [z,R.tX,afj]
  rfl
 rw [e]
inductive dw (K:Frag)(C:Addr)(vs:List V)(H:Hp)(Q:VK)(E_:XK):Prop where
 | mk (a dx pP pW pB:Addr) (ps:List (Str×Pt)) (bs:List (Str×Str×Str)) (kP kW kB:List (Key×V)) (x:Str) (_:vs=[.ref a,.str x]) (_:d6 K H C a dx pP pW pB ps bs kP kW kB) (_:x∈ps.map (·.1)) (_:Q .cb H):dw K C vs H Q E_
theorem Rt:aD ["self","pin"] ["self","pin"] (ag zL):=sq
theorem Ru {f:Addr}{fd:FuncData}{C:Addr}(F:mj K "check_pin" "Frame.check_pin" zL f fd)(fc:AZ K C):cv P w K mg base (a8 P w) 1 f fd ["self","pin"] (dw K C):=by
 refine cS F Rt (fun vs H Q E h=> ?_) (fun bC A outer s H vs Q E hr h=> ?_)
 ·obtain ⟨a,dx,pP,pW,pB,ps,bs,kP,kW,kB,x,rfl,_⟩:=h
  rfl
 obtain ⟨a,dx,pP,pW,pB,ps,bs,kP,kW,kB,x,rfl,R,hx,q⟩:=h
 refine ⟨_,(aj (bf (f9 (fS (bT hr) (pv 1) (cq (pv 0) rfl))) (aj (df)) aJ)),?_⟩
 refine ⟨_,rfl,_,rfl,a,C,dx,_,_,rfl,R.obj,fc.cls,fc.pl,rfl,pP,_,rfl,di.k (k:=.inr x) R.pl,_,rfl,?_⟩
 rw [R.pin x,decide_eq_true hx]
 exact q
inductive lQ (K:Frag)(C:Addr)(vs:List V)(H:Hp)(Q:VK)(E_:XK):Prop where
 | mk (a dx pP pW pB:Addr) (ps:List (Str×Pt)) (bs:List (Str×Str×Str)) (kP kW kB:List (Key×V)) (x:Str) (p:Pt) (_:vs=[.ref a,.str x]) (_:d6 K H C a dx pP pW pB ps bs kP kW kB) (_:(ps.map (·.1)).Nodup) (_:(x,p)∈ps) (_:∀v,Spot K H v p→Q v H):lQ K C vs H Q E_
theorem Rv:aD ["self","pin"] ["self","pin"] (ag zO):=sq
theorem Rw {f:Addr}{fd:FuncData}{C:Addr}(F:mj K "place" "Frame.place" zO f fd)(fc:AZ K C)(MC:bI P w K mg base (a8 P w) 1 C "check_pin" ["self","pin"] (dw K C)):cv P w K mg base (a8 P w) 2 f fd ["self","pin"] (lQ K C):=by
 refine cS F Rv (fun vs H Q E h=> ?_) (fun bC A outer s H vs Q E hr h=> ?_)
 ·obtain ⟨a,dx,pP,pW,pB,ps,bs,kP,kW,kB,x,p,rfl,_⟩:=h
  rfl
 obtain ⟨a,dx,pP,pW,pB,ps,bs,kP,kW,kB,x,p,rfl,R,nd,hx,q⟩:=h
 refine ⟨_,(ae (bg (c8 (k:=1) (pv 0) hr.mo (pY P w) (au (pv 1) aa)))
  (aj (aG (cF (bT hr) (cq (pv 0) rfl) (pv 1) (fun _ _=>rfl))))),?_⟩
 refine ⟨_,rfl,a,C,dx,_,_,_,rfl,R.obj,rfl,MC,_,rfl,a,dx,pP,pW,pB,ps,bs,kP,kW,kB,x,rfl,R,aah.mpr ⟨_,hx,rfl⟩,?_⟩
 obtain ⟨v,ev,hv⟩:=R.place nd hx
 exact ⟨_,rfl,a,C,dx,_,_,rfl,R.obj,fc.cls,fc.pl,rfl,_,rfl,pP,v,rfl,(by rw [← ev];exact di.k (k:=.inr x) R.pl),q v hv⟩
inductive rB (K:Frag)(C:Addr)(vs:List V)(H:Hp)(Q:VK)(E_:XK):Prop where
 | mk (a dx pP pW pB:Addr) (ps:List (Str×Pt)) (bs:List (Str×Str×Str)) (kP kW kB:List (Key×V)) (x one other:Str) (_:vs=[.ref a,.str x]) (_:d6 K H C a dx pP pW pB ps bs kP kW kB) (_:(bs.map (·.1)).Nodup) (_:(x,one,other)∈bs) (_:∀p,Rd H p (.tup [.str one,.str other])→Q (.ref p) H):rB K C vs H Q E_
theorem Rx:aD ["self","bar"] ["self","bar"] (ag zQ):=sq
theorem Ry {f:Addr}{fd:FuncData}{C:Addr}(F:mj K "ends" "Frame.ends" zQ f fd)(fc:AZ K C):cv P w K mg base (a8 P w) 1 f fd ["self","bar"] (rB K C):=by
 refine cS F Rx (fun vs H Q E h=> ?_) (fun bC A outer s H vs Q E hr h=> ?_)
 ·obtain ⟨a,dx,pP,pW,pB,ps,bs,kP,kW,kB,x,one,other,rfl,_⟩:=h
  rfl
 obtain ⟨a,dx,pP,pW,pB,ps,bs,kP,kW,kB,x,one,other,rfl,R,nd,hx,q⟩:=h
 refine ⟨_,(ae (bf (f9 (fS (bT hr) (pv 1) (cq (pv 0) rfl))) (aj (df)) aJ)
  (aj (aG (cF (bT hr) (cq (pv 0) rfl) (pv 1) (fun _ _=>rfl))))),?_⟩
 have hm:x∈bs.map (·.1):=aah.mpr ⟨_,hx,rfl⟩
 refine ⟨_,rfl,_,rfl,a,C,dx,_,_,rfl,R.obj,fc.cls,fc.br,rfl,pB,_,rfl,di.k (k:=.inr x) R.br,_,rfl,?_⟩
 rw [R.bar x,decide_eq_true hm]
 obtain ⟨p,ev,hv⟩:=R.ends nd hx
 exact ⟨_,rfl,a,C,dx,_,_,rfl,R.obj,fc.cls,fc.br,rfl,_,rfl,pB,.ref p,rfl,(by rw [← ev];exact di.k (k:=.inr x) R.br),q p hv⟩
inductive rC (K:Frag)(C:Addr)(vs:List V)(H:Hp)(Q:VK)(E_:XK):Prop where
 | mk (a dx pP pW pB:Addr) (ps:List (Str×Pt)) (bs:List (Str×Str×Str)) (kP kW kB:List (Key×V)) (pw:List (Str×List (Rat×Rat))) (x:Str) (ws:List (Rat×Rat)) (_:vs=[.ref a,.str x]) (_:d6 K H C a dx pP pW pB ps bs kP kW kB) (_:ou K H pw kW) (_:(pw.map (·.1)).Nodup) (_:(x,ws)∈pw) (_:x∈ps.map (·.1)) (_:∀(l:Addr) (us:List V) (H' :Hp),av H H' →H l=none→H' l=some (.lst us)→gB K H' us ws→Q (.ref l) H'):rC K C vs H Q E_
theorem Rz:aD ["self","pin"] ["self","pin"] (ag zP):=sq
theorem RA {f:Addr}{fd:FuncData}{C:Addr}(F:mj K "ways" "Frame.ways" zP f fd)(fc:AZ K C)(bL:mg "list"=none)(MC:bI P w K mg base (a8 P w) 1 C "check_pin" ["self","pin"] (dw K C)):cv P w K mg base (a8 P w) 2 f fd ["self","pin"] (rC K C):=by
 refine cS F Rz (fun vs H Q E h=> ?_) (fun bC A outer s H vs Q E hr h=> ?_)
 ·obtain ⟨a,dx,pP,pW,pB,ps,bs,kP,kW,kB,pw,x,ws,rfl,_⟩:=h
  rfl
 obtain ⟨a,dx,pP,pW,pB,ps,bs,kP,kW,kB,pw,x,ws,rfl,R,W,nd,hx,hp,q⟩:=h
 refine ⟨_,(ae (bg (c8 (k:=1) (pv 0) hr.mo (pY P w) (au (pv 1) aa)))
  (aj (aG (cz mG rfl bL iK (au (cF (bT hr) (cq (pv 0) rfl) (pv 1) (fun _ _=>rfl)) aa))))),?_⟩
 refine ⟨_,rfl,a,C,dx,_,_,_,rfl,R.obj,rfl,MC,_,rfl,a,dx,pP,pW,pB,ps,bs,kP,kW,kB,x,rfl,R,hp,?_⟩
 obtain ⟨v,ev,l,us,el,hl,pt⟩:=gh W nd hx
 have el' :v=.ref l:=el
 subst el'
 refine ⟨_,rfl,a,C,dx,_,_,rfl,R.obj,fc.cls,fc.wy,rfl,_,rfl,pW,.ref l,rfl,(by rw [← ev];exact di.k (k:=.inr x) R.wy),?_⟩
 exact ⟨l,us,rfl,ba.of hl,fun l2 n2=>q l2 us _ (aI n2 _) n2 ak (pt.same (aI n2 _))⟩
def NI (K:Frag)(H:Hp)(Q:VK)(ws:List (Rat×Rat)):Prop:=∀(l:Addr) (us:List V) (H' :Hp),av H H' →H l=none→H' l=some (.lst us)→gB K H' us ws→Q (.ref l) H'
theorem rD {x:Rat}(h:(qr x).1=0):x=0:=by
 have:=gx x
 unfold vl at this
 rw [h] at this
 have z:=vv (r:=x)
 have e:((0:Int):Rat)=0:=by rfl
 rw [e] at this
 grind
inductive lS (K:Frag)(C:Addr)(vs:List V)(H:Hp)(Q:VK)(E_:XK):Prop where
 | mk (a dx:Addr) (ux uy:V) (x y:Rat) (_:vs=[.ref a,ux,uy]) (_:H a=some (.ins C dx [])) (_:gA K H ux x) (_:gA K H uy y) (_:¬ (x=0∧y=0)) (_:∀p,H p=none→Q .cb (upd (upd H p (.tup [ux,uy])) a (.ins C dx [("way",.ref p)]))):lS K C vs H Q E_
theorem RB:aD ["self","x","y"] ["self","x","y"] (ag zR):=sq
theorem RC {f:Addr}{fd:FuncData}{C:Addr}(F:mj K "__init__" "Roller.__init__" zR f fd)(cl:sS K C)(nw:eY K C "way"):cv P w K mg base (a8 P w) 1 f fd ["self","x","y"] (lS K C):=by
 refine cS F RB (fun vs H Q E h=> ?_) (fun bC A outer s H vs Q E hr h=> ?_)
 ·obtain ⟨a,dx,ux,uy,x,y,rfl,_⟩:=h
  rfl
 obtain ⟨a,dx,ux,uy,x,y,rfl,ha,⟨p1,rfl,h1⟩,⟨p2,rfl,h2⟩,nz,q⟩:=h
 have sz:(2:Nat)≤sizeLine:=by decide
 refine ⟨_,(ae (bf (PW.pt (u5 (aQ d5 (aK (pv 1)) ah (aV _)) (qD (aQ d5 (aK (pv 2)) ah (aV _))))) (aj (df)) aJ)
  (aj (qH (pv 0) (aR (au (pv 1) (au (pv 2) aa))) rfl))),?_⟩
 refine ⟨_,rfl,p1,_,_,_,rfl,rfl,h1,iy,rfl,_,rfl,?_⟩
 refine a_ (fun c1=> ?_) (fun c1=> ?_)
 ·have e1:(qr x).1=0:=by simpa using of_decide_eq_true c1
  refine ⟨_,rfl,p2,_,_,_,rfl,rfl,h2,iy,rfl,_,rfl,?_⟩
  refine a_ (fun c2=> ?_) (fun c2=> ?_)
  ·have e2:(qr y).1=0:=by simpa using of_decide_eq_true c2
   exact absurd ⟨rD e1,rD e2⟩ nz
  ·exact ⟨_,rfl,_,rfl,sz,fun p hp=>⟨_,rfl,a,C,dx,[],rfl,(by rw [ao (aq ha hp)];exact ha),cl,nw,(by show 0 < 1000;decide),q p hp⟩⟩
 ·refine M0 ?_
  exact ⟨_,rfl,_,rfl,sz,fun p hp=>⟨_,rfl,a,C,dx,[],rfl,(by rw [ao (aq ha hp)];exact ha),cl,nw,(by show 0 < 1000;decide),q p hp⟩⟩
inductive gi (K:Frag)(C:Addr)(vs:List V)(H:Hp)(Q:VK)(E_:XK):Prop where
 | mk (a dx p:Addr) (w:Rat×Rat) (_:vs=[.ref a]) (_:H a=some (.ins C dx [("way",.ref p)])) (_:dZ K H (.ref p) w) (_:NI K H Q [w]):gi K C vs H Q E_
theorem RD:aD ["self"] ["self"] (ag zS):=sq
theorem RE {f:Addr}{fd:FuncData}{C:Addr}(F:mj K "ways" "Roller.ways" zS f fd)(cl:sS K C)(nw:eY K C "way"):cv P w K mg base (a8 P w) 1 f fd ["self"] (gi K C):=by
 refine cS F RD (fun vs H Q E h=> ?_) (fun bC A outer s H vs Q E hr h=> ?_)
 ·obtain ⟨a,dx,p,w,rfl,_⟩:=h
  rfl
 obtain ⟨a,dx,p,w,rfl,ha,hw,q⟩:=h
 refine ⟨_,(aj (aG (cu (au (cq (pv 0) rfl) aa)))),?_⟩
 refine ⟨_,rfl,a,C,dx,_,.ref p,rfl,ha,cl,nw,(by simp),(by show 1≤sizeLine;decide),fun l hl=> ?_⟩
 exact q l [.ref p] _ (aI hl _) hl ak (.cons (hw.same (aI hl _)) .nil)
inductive gj (K:Frag)(vs:List V)(H:Hp)(Q:VK)(E_:XK):Prop where
 | mk (a:Addr) (_:vs=[.ref a]) (_:NI K H Q [(1,0),(0,1)]):gj K vs H Q E_
theorem m8:qr 1=(1,1):=by
 have:=mU 1
 simpa using this
theorem cC:qr 0=(0,1):=by
 have:=mU 0
 simpa using this
theorem xD {H:Hp}{p p1 p2:Addr}{a b:Rat}{x y:Int×Int}(ea:qr a=x)(eb:qr b=y)(h:H p=some (.tup [.ref p1,.ref p2]))(h1:H p1=some (.tup [.int x.1,.int x.2]))(h2:H p2=some (.tup [.int y.1,.int y.2])):dZ K H (.ref p) (a,b):=
 ⟨p,.ref p1,.ref p2,rfl,bK.of h,⟨p1,rfl,by rw [ea];exact bK.of h1⟩,⟨p2,rfl,by rw [eb];exact bK.of h2⟩⟩
theorem RF:aD ["self"] ["self"] (ag zT):=sq
theorem RG {f:Addr}{fd:FuncData}(F:mj K "ways" "Fixed.ways" zT f fd):cv P w K mg base (a8 P w) 1 f fd ["self"] (gj K):=by
 refine cS F RF (fun vs H Q E h=> ?_) (fun bC A outer s H vs Q E hr h=> ?_)
 ·obtain ⟨a,rfl,_⟩:=h
  rfl
 obtain ⟨a,rfl,q⟩:=h
 have sz:(2:Nat)≤sizeLine:=by decide
 refine ⟨_,(aj (aG (cu (au (aR (au (aR (au ah (au ah aa))) (au (aR (au ah (au ah aa))) aa))) (au (aR (au (aR (au ah (au ah aa))) (au (aR (au ah (au ah aa))) aa))) aa))))),?_⟩
 refine ⟨sz,fun p1 n1=> ?_⟩
 have s1:=aI n1 (.tup [.int 1,.int 1])
 have e1:upd H p1 (.tup [.int 1,.int 1]) p1=some (.tup [.int 1,.int 1]):=ak
 generalize upd H p1 (.tup [.int 1,.int 1])=H1 at s1 e1 ⊢
 refine ⟨sz,fun p2 n2=> ?_⟩
 have s2:=aI n2 (.tup [.int 0,.int 1])
 have e2:upd H1 p2 (.tup [.int 0,.int 1]) p2=some (.tup [.int 0,.int 1]):=ak
 generalize upd H1 p2 (.tup [.int 0,.int 1])=H2 at s2 e2 ⊢
 refine ⟨sz,fun p3 n3=> ?_⟩
 have s3:=aI n3 (.tup [.ref p1,.ref p2])
 have e3:upd H2 p3 (.tup [.ref p1,.ref p2]) p3=some (.tup [.ref p1,.ref p2]):=ak
 generalize upd H2 p3 (.tup [.ref p1,.ref p2])=H3 at s3 e3 ⊢
 refine ⟨sz,fun p4 n4=> ?_⟩
 have s4:=aI n4 (.tup [.int 0,.int 1])
 have e4:upd H3 p4 (.tup [.int 0,.int 1]) p4=some (.tup [.int 0,.int 1]):=ak
 generalize upd H3 p4 (.tup [.int 0,.int 1])=H4 at s4 e4 ⊢
 refine ⟨sz,fun p5 n5=> ?_⟩
 have s5:=aI n5 (.tup [.int 1,.int 1])
 have e5:upd H4 p5 (.tup [.int 1,.int 1]) p5=some (.tup [.int 1,.int 1]):=ak
 generalize upd H4 p5 (.tup [.int 1,.int 1])=H5 at s5 e5 ⊢
 refine ⟨sz,fun p6 n6=> ?_⟩
 have s6:=aI n6 (.tup [.ref p4,.ref p5])
 have e6:upd H5 p6 (.tup [.ref p4,.ref p5]) p6=some (.tup [.ref p4,.ref p5]):=ak
 generalize upd H5 p6 (.tup [.ref p4,.ref p5])=H6 at s6 e6 ⊢
 refine ⟨sz,fun l nl=> ?_⟩
 have s7:=aI nl (.lst [.ref p3,.ref p6])
 have e7:upd H6 l (.lst [.ref p3,.ref p6]) l=some (.lst [.ref p3,.ref p6]):=ak
 generalize upd H6 l (.lst [.ref p3,.ref p6])=H7 at s7 e7 ⊢
 have RH:=s1.trans (s2.trans (s3.trans (s4.trans (s5.trans s6))))
 have w1:dZ K H7 (.ref p3) (1,0):=xD m8 cC (s7 _ _ (s6 _ _ (s5 _ _ (s4 _ _ e3)))) (s7 _ _ (s6 _ _ (s5 _ _ (s4 _ _ (s3 _ _ (s2 _ _ e1)))))) (s7 _ _ (s6 _ _ (s5 _ _ (s4 _ _ (s3 _ _ e2)))))
 have w2:dZ K H7 (.ref p6) (0,1):=xD cC m8 (s7 _ _ e6) (s7 _ _ (s6 _ _ (s5 _ _ e4))) (s7 _ _ (s6 _ _ e5))
 exact q l [.ref p3,.ref p6] H7 (RH.trans s7) (RH.free nl) e7 (.cons w1 (.cons w2 .nil))
def ER (P:Program)(w:World)(K:Frag)(mg:Str→Option Value)(base:Heap)(H:Hp)(hv:V)(ws:List (Rat×Rat)):Prop:=(hv=.cb∧ws=[])∨∃(h Ch RI:Addr) (O6:List (Str×V)) (YO:List Str) (WK:Sp),hv=.ref h∧H h=some (.ins Ch RI O6)∧O6.lookup ("ways":Str)=none∧bI P w K mg base (a8 P w) 2 Ch "ways" YO WK∧(∀H1,H1 h=some (.ins Ch RI O6)→bh H H1→∀Q',NI K H1 Q' ws→WK [.ref h] H1 Q' E0)
inductive b9 (P:Program)(w:World)(K:Frag)(mg:Str→Option Value)(base:Heap)(C:Addr)(vs:List V)(H:Hp)(Q:VK)(E_:XK):Prop where
 | mk (a dx pP pW pB:Addr) (ps:List (Str×Pt)) (bs:List (Str×Str×Str)) (kP kW kB:List (Key×V)) (pw:List (Str×List (Rat×Rat))) (x:Str) (u v hv:V) (p:Pt) (ws:List (Rat×Rat)) (_:vs=[.ref a,.str x,u,v,hv]) (_:d6 K H C a dx pP pW pB ps bs kP kW kB) (_:ou K H pw kW) (_:pw.map (·.1)=ps.map (·.1)) (_:kO K H u p.1) (_:kO K H v p.2) (_:x∉ps.map (·.1)) (_:(∀z∈ps,z.2≠p)) (_:ps.length < 24) (_:ER P w K mg base H hv ws) (_:∀(H' :Hp) (uz jG :List (Key×V)),(∀b o,b≠pP→b≠pW→H b=some o→H' b=some o)→d6 K H' C a dx pP pW pB (ps++[(x,p)]) bs uz jG kB→ou K H' (pw++[(x,ws)]) jG →(∃l,jG =kW++[(.inr x,.ref l)]∧H l=none)→Q .cb H'):b9 P w K mg base C vs H Q E_
theorem ES:aD ["self","name","x","y","hold","pin","spot"] ["self","name","x","y","hold"] (ag kQ):=sq
theorem RJ {f:Addr}{fd:FuncData}{C:Addr}(F:Np K "put_pin" "Frame.put_pin" kQ f fd)(fc:AZ K C){tkP:Tok}(NJ:mg "MOST_PINS"=some (.int 24 tkP))(bE:mg "len"=none)(bL:mg "list"=none):cv P w K mg base (a8 P w) 3 f fd ["self","name","x","y","hold"] (b9 P w K mg base C):=by
 refine DU F ES (fun vs H Q E h=> ?_) (fun bC A outer s H vs Q E hr h=> ?_)
 ·obtain ⟨a,dx,pP,pW,pB,ps,bs,kP,kW,kB,pw,x,u,v,hv,p,ws,rfl,_⟩:=h
  rfl
 obtain ⟨a,dx,pP,pW,pB,ps,bs,kP,kW,kB,pw,x,u,v,hvv,p,ws,rfl,R,W,ew,hu,hv,hx,hs,hl,hH,q⟩:=h
 refine ⟨_,(ae (bf (f9 (qX (bT hr) (pv 1) (cq (pv 0) rfl))) (aj (df)) aJ)
  (ae (q5 (bF PassesOwn.never rfl (mO (cq (pv 0) rfl)) (dO rfl (aX (aE (i:=5) ES.nd rfl (ab_ rfl)) (aX (aE (i:=6) ES.nd rfl (ab_ rfl)) cQ))) (aj (bf (aQ (i_ hr.units) (pv 6) (aR (au (pv 2) (au (pv 3) aa))) (aV _)) (aj (df)) aJ))))
  (ae (bf (aQ K3 (aU qc rfl bE dD (au (cq (pv 0) rfl) aa)) (iZ (v:=.int 24) rfl NJ ⟨_,rfl⟩) (aV _)) (aj (df)) aJ)
  (ae (fo (bT hr) (cq (pv 0) rfl) (pv 1) (aR (au (pv 2) (au (pv 3) aa))) rfl)
  (aj (fo (bT hr) (cq (pv 0) rfl) (pv 1) (sL (aQ vb (pv 4) l_ (aV _)) (cu aa) (cz mG rfl bL iK (au (gY (k:=2) (pv 4) hr.mo (pY P w)) aa))) rfl)))))),?_⟩
 refine ⟨_,rfl,_,rfl,a,C,dx,_,_,rfl,R.obj,fc.cls,fc.pl,rfl,pP,_,rfl,di.k (k:=.inr x) R.pl,_,rfl,?_⟩
 rw [R.pin x,decide_eq_false hx]
 have lk:kP.length=ps.length:=(Paired.length R.rp).symm
 refine ⟨_,rfl,a,C,dx,_,_,rfl,R.obj,fc.cls,fc.pl,rfl,pP,kP,rfl,R.pl,fun o=> ?_⟩
 have k0:aT pP H (upd H pP (.cf o (.dK kP))):=fun b o' n e=>by rw [ao n];exact e
 refine g6 (d:=pP) (o:=o) (kvs:=kP) (fun t σ H' =>∃(o2 o3:Option V),σ=[some (.ref a),some (.str x),some u,some v,some hvv,o2,o3]∧aT pP H H' ∧H' pP=some (.cf o (.dK kP))) ⟨none,none,rfl,k0,ak⟩ (fun t σ H' _ h=>by
   obtain ⟨_,_,_,_,h⟩:=h
   exact h) ?_ ?_
 ·rintro t k y σ H6 p7 uw ⟨o2,o3,rfl,k6,J0⟩ n7
  obtain ⟨z,ez,YQ,YR⟩:=aA (cN R.rp) uw
  have NK :k=.inr z.1:=YQ
  subst NK
  have s6:bh H H6:=fun b xs r=>by
   rcases r with r | ⟨o',r⟩
   ·exact .inl (k6 _ _ (fun e=>by rw [e,R.pl] at r;cases r) r)
   ·exact .inr ⟨o',k6 _ _ (fun e=>by rw [e,R.pl] at r;cases r) r⟩
  have s7:=aI n7 (.tup [kV (.inr z.1),y])
  have YS:bh H (upd H6 p7 (.tup [kV (.inr z.1),y])):=s6.trans (.of s7)
  refine ⟨p7,_,rfl,bK.of ak,rfl,_,_,rfl,_,_,rfl,rfl,?_⟩
  refine ⟨_,rfl,_,rfl,_,rfl,(by show 2≤sizeLine;decide),fun t8 n8=> ?_⟩
  have s8:=aI n8 (.tup [u,v])
  have J1:bh H (upd (upd H6 p7 (.tup [kV (.inr z.1),y])) t8 (.tup [u,v])):=YS.trans (.of s8)
  refine ⟨cG z.2,cG p,.inl ⟨(Spot.aS YR J1).is,(Spot.is (p:=p) ⟨t8,u,v,rfl,bK.of ak,hu.aS J1,hv.aS J1⟩)⟩,ky _ _,qd _,?_⟩
  rw [tW]
  refine ⟨_,rfl,?_⟩
  refine a_ (fun c=>absurd (of_decide_eq_true c) (hs z (ir ez))) (fun _=> ?_)
  exact ⟨_,_,rfl,fun b o' n e=>s8 _ _ (s7 _ _ (k6 b o' n e)),s8 _ _ (s7 _ _ J0)⟩
 ·rintro σ H1 ⟨o2,o3,rfl,k1,YT⟩
  refine ⟨pP,o,kP,YT,fun o' u' z=>(by have z' :H pP=some (.cf o' u'):=z;rw [R.pl] at z';cases z'),?_⟩
  have s2:av H (upd H1 pP (.dK kP)):=fun b o' e=>by
   by_cases n:b=pP
   ·subst n
    rw [R.pl] at e
    rw [ak]
    exact e
   ·rw [ao n]
    exact k1 b o' n e
  generalize upd H1 pP (.dK kP)=H2 at s2 ⊢
  have R2:=R.same s2
  refine ⟨_,rfl,a,C,dx,_,_,rfl,R2.obj,fc.cls,fc.pl,rfl,pP,kP,rfl,.inl R2.pl,_,_,rfl,rfl,_,rfl,?_⟩
  refine a_ (fun c=> ?_) (fun _=> ?_)
  ·have c' :(24:Int)≤(kP.length:Int):=of_decide_eq_true c
   omega
  refine ⟨_,rfl,_,rfl,(by show 2≤sizeLine;decide),fun t nt=> ?_⟩
  have s3:=aI nt (.tup [u,v])
  have R3:=R2.same s3
  have WH:=(hu.same s2).same s3
  have hv3:=(hv.same s2).same s3
  refine ⟨_,rfl,a,C,dx,_,_,rfl,R3.obj,fc.cls,fc.pl,rfl,_,rfl,pP,_,rfl,iL.k (k:=.inr x) R3.pl (afe (show kP.length≤1000 by omega) (by decide)),?_⟩
  have e:putK kP (.inr x) (.ref t)=kP++[(.inr x,.ref t)]:=dE _ (cT (by rw [R.tX];exact fun z=>hx (dY.mp z)))
  rw [e]
  have R4:=R3.Nt (x:=x) (p:=p) (t:=t) ⟨t,u,v,rfl,bK.of ak,WH,hv3⟩
  have k4:∀b o,b≠pP→H b=some o→(upd (upd H2 t (.tup [u,v])) pP (.dK (kP++[(.inr x,.ref t)]))) b=some o:=fun b o n e=>by rw [ao n];exact s3 _ _ (s2 _ _ e)
  generalize upd (upd H2 t (.tup [u,v])) pP (.dK (kP++[(.inr x,.ref t)]))=H4 at R4 k4 ⊢
  have lw:kW.length=ps.length:=by
   have e1:kW.length=pw.length:=(Paired.length W).symm
   have e2:=congrArg afH ew
   rw [aaa,aaa] at e2
   omega
  have t4:bh H H4:=fun b xs r=>by
   rcases r with r | ⟨o',r⟩
   ·exact .inl (k4 _ _ (fun e=>by rw [e,R.pl] at r;cases r) r)
   ·exact .inr ⟨o',k4 _ _ (fun e=>by rw [e,R.pl] at r;cases r) r⟩
  have W4:ou K H4 pw kW:=Paired.bq W fun _ _ z=>⟨z.1,by
   obtain ⟨l,us,e1,e2,e3⟩:=z.2
   exact ⟨l,us,e1,k4 _ _ (fun e=>by rw [e,R.pl] at e2;cases e2) e2,e3.aS t4⟩⟩
  have nb:∀l2,H4 l2=none→H l2=none:=fun l2 n=>by
   cases hq:H l2 with
   | none=>rfl
   | some o=>
    have:=k4 l2 o (fun z=>by have h:=R4.pl;rw [← z,n] at h;cases h) hq
    rw [n] at this
    cases this
  refine ⟨_,rfl,rfl,_,rfl,?_⟩
  rcases hH with ⟨rfl,rfl⟩ | ⟨h,Ch,RI,O6,YO,WK,rfl,hh,hlk,MH,oB⟩
  ·refine a_ (fun _=> ?_) (fun c=>absurd (by decide) c)
   refine ⟨by show 0≤sizeLine;decide,fun l2 n6=> ?_⟩
   have s6:=aI n6 (.lst [])
   have R6:=R4.same s6
   have W6:=W4.same s6
   refine ⟨_,rfl,a,C,dx,_,_,rfl,R6.obj,fc.cls,fc.wy,rfl,_,rfl,pW,_,rfl,iL.k (k:=.inr x) R6.wy (afe (show kW.length≤1000 by omega) (by decide)),?_⟩
   have ek:putK kW (.inr x) (.ref l2)=kW++[(.inr x,.ref l2)]:=dE _ (cT (by rw [W.keys,ew];exact fun z=>hx (dY.mp z)))
   rw [ek]
   have YU:l2≠pW:=fun z=>by have h:=R6.wy;rw [← z,ak] at h;cases h
   exact q _ _ _ (fun b o n1 n2 e=>by rw [ao n2];exact s6 _ _ (k4 b o n1 e)) (R6.ra _) (Paired.snoc (W6.dict R6.wy) ⟨rfl,l2,[],rfl,by rw [ao YU,ak],.nil⟩) ⟨l2,rfl,nb l2 n6⟩
  have h4:H4 h=some (.ins Ch RI O6):=k4 _ _ (fun e=>by rw [e,R.pl] at hh;cases hh) hh
  refine a_ (fun c=>absurd (of_decide_eq_true c) (fun z=>nomatch z)) (fun _=> ?_)
  refine ⟨_,rfl,h,Ch,RI,O6,YO,WK,rfl,h4,hlk,MH,oB H4 h4 t4 _ fun l1 us H5 s5 n5 e5 p5=> ?_⟩
  refine ⟨l1,us,rfl,ba.of e5,fun l2 n6=> ?_⟩
  have s6:=aI n6 (.lst us)
  have R6:=(R4.same s5).same s6
  have W6:=(W4.same s5).same s6
  refine ⟨_,rfl,a,C,dx,_,_,rfl,R6.obj,fc.cls,fc.wy,rfl,_,rfl,pW,_,rfl,iL.k (k:=.inr x) R6.wy (afe (show kW.length≤1000 by omega) (by decide)),?_⟩
  have ek:putK kW (.inr x) (.ref l2)=kW++[(.inr x,.ref l2)]:=dE _ (cT (by rw [W.keys,ew];exact fun z=>hx (dY.mp z)))
  rw [ek]
  have O7:av H4 (upd H5 l2 (.lst us)):=fun b o z=>s6 _ _ (s5 _ _ z)
  refine q _ _ _ (fun b o n1 n2 e=>by rw [ao n2];exact O7 _ _ (k4 b o n1 e)) (R6.ra _) ?_ ⟨l2,rfl,nb l2 (s5.free n6)⟩
  have YU:l2≠pW:=fun z=>by have h:=R6.wy;rw [← z,ak] at h;cases h
  exact Paired.snoc (W6.dict R6.wy) ⟨rfl,l2,us,rfl,by rw [ao YU,ak],(p5.same s6).aS (.dict R6.wy)⟩
inductive gk (K:Frag)(C:Addr)(vs:List V)(H:Hp)(Q:VK)(E_:XK):Prop where
 | mk (a dx pP pW pB:Addr) (ps:List (Str×Pt)) (bs:List (Str×Str×Str)) (kP kW kB:List (Key×V)) (x one other:Str) (_:vs=[.ref a,.str x,.str one,.str other]) (_:d6 K H C a dx pP pW pB ps bs kP kW kB) (_:x∉bs.map (·.1)) (_:one∈ps.map (·.1)) (_:other∈ps.map (·.1)) (_:one≠other) (_:bs.length < 60) (_:Q .cb H):gk K C vs H Q E_
theorem RK:aD ["self","name","one","other"] ["self","name","one","other"] (ag zK):=sq
theorem RL {f:Addr}{fd:FuncData}{C:Addr}(F:mj K "check_bar" "Frame.check_bar" zK f fd)(fc:AZ K C){tkB:Tok}(NL:mg "MOST_BARS"=some (.int 60 tkB))(bE:mg "len"=none)
  (MC:bI P w K mg base (a8 P w) 1 C "check_pin" ["self","pin"] (dw K C)):cv P w K mg base (a8 P w) 2 f fd ["self","name","one","other"] (gk K C):=by
 refine cS F RK (fun vs H Q E h=> ?_) (fun bC A outer s H vs Q E hr h=> ?_)
 ·obtain ⟨a,dx,pP,pW,pB,ps,bs,kP,kW,kB,x,one,other,rfl,_⟩:=h
  rfl
 obtain ⟨a,dx,pP,pW,pB,ps,bs,kP,kW,kB,x,one,other,rfl,R,hx,h1,h2,ne,hl,q⟩:=h
 refine ⟨_,(ae (bf (f9 (qX (bT hr) (pv 1) (cq (pv 0) rfl))) (aj (df)) aJ)
  (ae (bg (c8 (k:=1) (pv 0) hr.mo (pY P w) (au (pv 2) aa)))
  (ae (bg (c8 (k:=1) (pv 0) hr.mo (pY P w) (au (pv 3) aa)))
  (ae (bf (aQ d5 (pv 2) (pv 3) (aV _)) (aj (df)) aJ)
  (aj (bf (aQ K3 (aU qc rfl bE dD (au (cq (pv 0) rfl) aa)) (iZ (v:=.int 60) rfl NL ⟨_,rfl⟩) (aV _)) (aj (df)) aJ)))))),?_⟩
 refine ⟨_,rfl,_,rfl,a,C,dx,_,_,rfl,R.obj,fc.cls,fc.br,rfl,pB,_,rfl,di.k (k:=.inr x) R.br,_,rfl,?_⟩
 rw [R.bar x,decide_eq_false hx]
 refine ⟨_,rfl,a,C,dx,_,_,_,rfl,R.obj,rfl,MC,_,rfl,a,dx,pP,pW,pB,ps,bs,kP,kW,kB,one,rfl,R,h1,?_⟩
 refine ⟨_,rfl,a,C,dx,_,_,_,rfl,R.obj,rfl,MC,_,rfl,a,dx,pP,pW,pB,ps,bs,kP,kW,kB,other,rfl,R,h2,?_⟩
 refine ⟨_,rfl,_,rfl,rfl,_,rfl,?_⟩
 refine a_ (fun c=>absurd (by simpa [om] using c) ne) (fun _=> ?_)
 have lk:kB.length=bs.length:=(Paired.length R.rb).symm
 refine ⟨_,rfl,a,C,dx,_,_,rfl,R.obj,fc.cls,fc.br,rfl,pB,kB,rfl,.inl R.br,_,_,rfl,rfl,_,rfl,?_⟩
 refine a_ (fun c=> ?_) (fun _=>q)
 have c' :(60:Int)≤(kB.length:Int):=of_decide_eq_true c
 omega
inductive jq (K:Frag)(C:Addr)(vs:List V)(H:Hp)(Q:VK)(E_:XK):Prop where
 | mk (a dx pP pW pB:Addr) (ps:List (Str×Pt)) (bs:List (Str×Str×Str)) (kP kW kB:List (Key×V)) (x one other:Str) (_:vs=[.ref a,.str x,.str one,.str other]) (_:d6 K H C a dx pP pW pB ps bs kP kW kB) (_:x∉bs.map (·.1)) (_:one∈ps.map (·.1)) (_:other∈ps.map (·.1)) (_:one≠other) (_:bs.length < 60) (_:∀(H' :Hp) (YV :List (Key×V)),aT pB H H' →d6 K H' C a dx pP pW pB ps (bs++[(x,one,other)]) kP kW YV →Q .cb H'):jq K C vs H Q E_
theorem RM:aD ["self","name","one","other"] ["self","name","one","other"] (ag zJ):=sq
theorem RO {f:Addr}{fd:FuncData}{C:Addr}(F:mj K "put_bar" "Frame.put_bar" zJ f fd)(fc:AZ K C)
  (MC:bI P w K mg base (a8 P w) 2 C "check_bar" ["self","name","one","other"] (gk K C)):cv P w K mg base (a8 P w) 3 f fd ["self","name","one","other"] (jq K C):=by
 refine cS F RM (fun vs H Q E h=> ?_) (fun bC A outer s H vs Q E hr h=> ?_)
 ·obtain ⟨a,dx,pP,pW,pB,ps,bs,kP,kW,kB,x,one,other,rfl,_⟩:=h
  rfl
 obtain ⟨a,dx,pP,pW,pB,ps,bs,kP,kW,kB,x,one,other,rfl,R,hx,h1,h2,ne,hl,q⟩:=h
 refine ⟨_,(ae (bg (c8 (k:=2) (pv 0) hr.mo (pY P w) (au (pv 1) (au (pv 2) (au (pv 3) aa)))))
  (aj (fo (bT hr) (cq (pv 0) rfl) (pv 1) (aR (au (pv 2) (au (pv 3) aa))) rfl))),?_⟩
 refine ⟨_,rfl,a,C,dx,_,_,_,rfl,R.obj,rfl,MC,_,rfl,_,rfl,_,rfl,a,dx,pP,pW,pB,ps,bs,kP,kW,kB,x,one,other,rfl,R,hx,h1,h2,ne,hl,?_⟩
 refine ⟨_,rfl,_,rfl,(by show 2≤sizeLine;decide),fun t nt=> ?_⟩
 have s:=aI nt (.tup [.str one,.str other])
 have R' :=R.same s
 have lk:kB.length=bs.length:=(Paired.length R.rb).symm
 refine ⟨_,rfl,a,C,dx,_,_,rfl,R'.obj,fc.cls,fc.br,rfl,_,rfl,pB,_,rfl,iL.k (k:=.inr x) R'.br (afe (show kB.length≤1000 by omega) (by decide)),?_⟩
 have e:putK kB (.inr x) (.ref t)=kB++[(.inr x,.ref t)]:=dE _ (cT (by rw [R.qe];exact fun z=>hx (dY.mp z)))
 rw [e]
 refine q _ _ (fun b o n z=> ?_) (R'.Nr (.inl ak))
 rw [ao n]
 exact s _ _ z
theorem zW {K:Frag}{H:Hp}{C a dx pP pW pB:Addr}{ps:List (Str×Pt)}{bs:List (Str×Str×Str)}{kP kW kB:List (Key×V)}(R:d6 K H C a dx pP pW pB ps bs kP kW kB)(x:Str):
  d6 K (upd H pP (.dK (eL kP (.inr x)))) C a dx pP pW pB (ps.filter fun b=>decide (b.1≠x)) bs (eL kP (.inr x)) kW kB:=by
 have s:bh H (upd H pP (.dK (eL kP (.inr x)))):=.dict R.pl
 exact ⟨by rw [ao R.ab.1];exact R.obj,ak,by rw [ao (afk R.ne1)];exact R.wy,by rw [ao (afk R.ne2)];exact R.br,R.ne1,R.ne2,R.ne3,gO x (Paired.bq R.rp fun _ _ h=>⟨h.1,h.2.aS s⟩),
  Paired.bq R.rb fun _ _ h=>⟨h.1,by obtain ⟨p,e,k⟩:=h.2;exact ⟨p,e,s _ _ k⟩⟩⟩
inductive gm (K:Frag)(C:Addr)(vs:List V)(H:Hp)(Q:VK)(E:XK):Prop where
 | mk (a dx pP pW pB:Addr) (ps:List (Str×Pt)) (bs:List (Str×Str×Str)) (kP kW kB:List (Key×V)) (pw:List (Str×List (Rat×Rat))) (x:Str) (_:vs=[.ref a,.str x]) (_:d6 K H C a dx pP pW pB ps bs kP kW kB) (_:ou K H pw kW) (_:pw.map (·.1)=ps.map (·.1)) (_:x∈ps.map (·.1)) (_:(∀b∈bs,x≠b.2.1∧x≠b.2.2)) (_:∀(H' :Hp) (uz jG :List (Key×V)),(∀b o,b≠pP→b≠pW→H b=some o→H' b=some o)→d6 K H' C a dx pP pW pB (ps.filter fun b=>decide (b.1≠x)) bs uz jG kB→ou K H' (pw.filter fun b=>decide (b.1≠x)) jG →(∀kv∈jG,kv∈kW)→Q .cb H'):gm K C vs H Q E
theorem dH:aD ["self","name","bar","two"] ["self","name"] (ag bU):=sq
theorem jr {f:Addr}{fd:FuncData}{C:Addr}(F:mj K "take_pin" "Frame.take_pin" bU f fd)(fc:AZ K C)(MC:bI P w K mg base (a8 P w) 1 C "check_pin" ["self","pin"] (dw K C)):cv P w K mg base (a8 P w) 2 f fd ["self","name"] (gm K C):=by
 refine cS F dH (fun vs H Q E h=> ?_) (fun bC A outer s H vs Q E hr h=> ?_)
 ·obtain ⟨a,dx,pP,pW,pB,ps,bs,kP,kW,kB,pw,x,rfl,_⟩:=h
  rfl
 obtain ⟨a,dx,pP,pW,pB,ps,bs,kP,kW,kB,pw,x,rfl,R,W,ew,hx,hb,q⟩:=h
 refine ⟨_,(ae (bg (c8 (k:=1) (pv 0) hr.mo (pY P w) (au (pv 1) aa)))
  (ae (q5 (bF PassesOwn.never rfl (mO (cq (pv 0) rfl)) (dO rfl (aX (aE (i:=2) dH.nd rfl (ab_ rfl)) (aX (aE (i:=3) dH.nd rfl (ab_ rfl)) cQ))) (aj (bf (aQ pJ (pv 1) (pv 3) rfl) (aj (df)) aJ))))
  (ae (bg (tO (cq (pv 0) rfl) (pv 1) ⟨rfl,rfl,rfl,rfl⟩))
  (aj (bg (tO (cq (pv 0) rfl) (pv 1) ⟨rfl,rfl,rfl,rfl⟩)))))),?_⟩
 refine ⟨_,rfl,a,C,dx,_,_,_,rfl,R.obj,rfl,MC,_,rfl,a,dx,pP,pW,pB,ps,bs,kP,kW,kB,x,rfl,R,hx,?_⟩
 have lk:kB.length=bs.length:=(Paired.length R.rb).symm
 refine ⟨_,rfl,a,C,dx,_,_,rfl,R.obj,fc.cls,fc.br,rfl,pB,kB,rfl,R.br,fun o=> ?_⟩
 have k0:aT pB H (upd H pB (.cf o (.dK kB))):=fun b o' n e=>by rw [ao n];exact e
 refine g6 (d:=pB) (o:=o) (kvs:=kB) (fun t σ H' =>∃(o2 o3:Option V),σ=[some (.ref a),some (.str x),o2,o3]∧aT pB H H' ∧H' pB=some (.cf o (.dK kB))) ⟨none,none,rfl,k0,ak⟩ (fun t σ H' _ h=>by
   obtain ⟨_,_,_,_,h⟩:=h
   exact h) ?_ ?_
 ·rintro t k y σ H6 p7 uw ⟨o2,o3,rfl,k6,J0⟩ n7
  obtain ⟨z,ez,YQ,p,ep,YR⟩:=aA (cN R.rb) uw
  have NK :k=.inr z.1:=YQ
  subst NK
  have sJ :y=.ref p:=ep
  subst sJ
  have s6:bh H H6:=fun b xs r=>by
   rcases r with r | ⟨o',r⟩
   ·exact .inl (k6 _ _ (fun e=>by rw [e,R.br] at r;cases r) r)
   ·exact .inr ⟨o',k6 _ _ (fun e=>by rw [e,R.br] at r;cases r) r⟩
  have s7:=aI n7 (.tup [kV (.inr z.1),.ref p])
  have YS:bh H (upd H6 p7 (.tup [kV (.inr z.1),.ref p])):=s6.trans (.of s7)
  obtain ⟨n1,n2⟩:=hb z (ir ez)
  refine ⟨p7,_,rfl,bK.of ak,rfl,_,_,rfl,_,_,rfl,rfl,?_⟩
  refine ⟨_,rfl,_,rfl,p,[.str z.2.1,.str z.2.2],rfl,.inr (YS.cy (.inl YR)),rfl,rfl,_,rfl,?_⟩
  refine a_ (fun c=> ?_) (fun _=>⟨_,_,rfl,fun b o' n e=>s7 _ _ (k6 b o' n e),s7 _ _ J0⟩)
  exfalso
  have c' :OX (.str x) [.str z.2.1,.str z.2.2]=true:=c
  simp [OX,om] at c'
  rcases c' with c' | c'
  ·exact n1 c'.symm
  ·exact n2 c'.symm
 ·rintro σ H1 ⟨o2,o3,rfl,k1,YT⟩
  refine ⟨pB,o,kB,YT,fun o' u' z=>(by have z' :H pB=some (.cf o' u'):=z;rw [R.br] at z';cases z'),?_⟩
  have s2:av H (upd H1 pB (.dK kB)):=fun b o' e=>by
   by_cases n:b=pB
   ·subst n
    rw [R.br] at e
    rw [ak]
    exact e
   ·rw [ao n]
    exact k1 b o' n e
  generalize upd H1 pB (.dK kB)=H2 at s2 ⊢
  have R2:=R.same s2
  obtain ⟨v,ev⟩:=eS (kvs:=kP) (k:=.inr x) (by rw [R.tX];exact dY.mpr hx)
  have kk:kW.map (·.1)=(ps.map (·.1)).map (fun b=>(af1 b:Key)):=by rw [d_ W, ← ew,afj];rfl
  obtain ⟨v2,ev2⟩:=eS (kvs:=kW) (k:=.inr x) (by rw [kk];exact dY.mpr hx)
  refine ⟨_,rfl,a,C,dx,_,_,rfl,R2.obj,fc.cls,fc.pl,rfl,pP,rfl,.inl ⟨_,.inl R2.pl⟩,_,rfl,kP,.inr x,v,R2.pl,rfl,ev,?_⟩
  have R3:=zW R2 x
  have k3:∀b o,b≠pP→H b=some o→(upd H2 pP (.dK (eL kP (.inr x)))) b=some o:=fun b o n e=>by rw [ao n];exact s2 _ _ e
  have k2:aT pP H2 (upd H2 pP (.dK (eL kP (.inr x)))):=fun b o n e=>by rw [ao n];exact e
  generalize upd H2 pP (.dK (eL kP (.inr x)))=H3 at R3 k3 k2 ⊢
  refine ⟨_,rfl,a,C,dx,_,_,rfl,R3.obj,fc.cls,fc.wy,rfl,pW,rfl,.inl ⟨_,.inl R3.wy⟩,_,rfl,kW,.inr x,v2,R3.wy,rfl,ev2,?_⟩
  have t3:bh H2 H3:=fun b xs r=>by
   rcases r with r | ⟨o',r⟩
   ·exact .inl (k2 _ _ (fun e=>by rw [e,R2.pl] at r;cases r) r)
   ·exact .inr ⟨o',k2 _ _ (fun e=>by rw [e,R2.pl] at r;cases r) r⟩
  have t4:bh H3 (upd H3 pW (.dK (eL kW (.inr x)))):=.dict R3.wy
  refine q _ _ _ (fun b o n1 n2 e=>by rw [ao n2];exact k3 b o n1 e) (R3.ra _) (gO x (Paired.bq (W.same s2) fun _ _ z=>⟨z.1,?_⟩)) (fun kv h=>by unfold eL at h;exact (afG.mp h).1)
  obtain ⟨l,us,z1,z2,z3⟩:=z.2
  exact ⟨l,us,z1,by rw [ao (fun e=>by rw [e,R2.wy] at z2;cases z2)];exact k2 _ _ (fun e=>by rw [e,R2.pl] at z2;cases z2) z2,(z3.aS t3).aS t4⟩
def jX (p q:aF):Rat×Rat:=(q.sp.1 - p.sp.1,q.sp.2 - p.sp.2)
inductive ET (K:Frag)(C:Addr)(vs:List V)(H:Hp)(Q:VK)(E_:XK):Prop where
 | mk (a:Addr) (pins:List aF) (ar:List bB) (p q:aF) (_:vs=[.ref a,.str p.nm,.str q.nm]) (_:DY K H C a pins ar) (_:fU pins ar) (_:p∈pins) (_:q∈pins) (_:EO K H Q (jX p q)):ET K C vs H Q E_
theorem Lw {pins:List aF}(h:(pins.map (·.nm)).Nodup):((pins.map fun p=>(p.nm,iW p.sp)).map (·.1)).Nodup:=by
 rw [afj]
 exact h
theorem RP {pins:List aF}(h:(pins.map (·.nm)).Nodup):((pins.map fun p=>(p.nm,p.ws)).map (·.1)).Nodup:=by
 rw [afj]
 exact h
theorem RQ {ar:List bB}(h:(ar.map (·.nm)).Nodup):((ar.map fun b=>(b.nm,b.one.nm,b.other.nm)).map (·.1)).Nodup:=by
 rw [afj]
 exact h
theorem RS:aD ["F","one","other"] ["F","one","other"] (ag yY):=sq
theorem RT {C:Addr}(D:Def K mg "arm_between" yY ["F","one","other"])(MP:bI P w K mg base (a8 P w) 2 C "place" ["self","pin"] (lQ K C))(YW:Fn P w K mg base (a8 P w) 35 "pair_difference" ["one","other"] (vN K fun a b=>a - b)):Fn P w K mg base (a8 P w) 36 "arm_between" ["F","one","other"] (ET K C):=by
 refine D.ok RS (fun vs H Q E h=> ?_) (fun f bC A outer s H vs Q E hr h=> ?_)
 ·obtain ⟨a,pins,ar,p,q,rfl,_⟩:=h
  rfl
 obtain ⟨a,pins,ar,p,q,rfl,R,g,hp,hq,k⟩:=h
 obtain ⟨dx,pP,pW,pB,kP,kW,kB,R,W⟩:=R.ex
 refine ⟨_,(aj (aG (aC YW hr.mo (pY P w) (au (c8 (k:=2) (pv 0) hr.mo (pY P w) (au (pv 2) aa)) (au (c8 (k:=2) (pv 0) hr.mo (pY P w) (au (pv 1) aa)) aa))))),?_⟩
 refine ⟨_,rfl,a,C,dx,_,_,_,rfl,R.obj,rfl,MP,_,rfl,a,dx,pP,pW,pB,_,_,kP,kW,kB,q.nm,iW q.sp,rfl,R,Lw g.np,aah.mpr ⟨q,hq,rfl⟩,fun v1 h1=> ?_⟩
 refine ⟨_,rfl,a,C,dx,_,_,_,rfl,R.obj,rfl,MP,_,rfl,a,dx,pP,pW,pB,_,_,kP,kW,kB,p.nm,iW p.sp,rfl,R,Lw g.np,aah.mpr ⟨p,hp,rfl⟩,fun v2 h2=> ?_⟩
 have z1:=g.sz q hq
 have z2:=g.sz p hp
 exact ⟨v1,v2,q.sp,p.sp,rfl,h1,h2,z1.1.up (by decide),z1.2.1.up (by decide),z2.1.up (by decide),z2.2.1.up (by decide),k⟩
def mv (M:Str→Option (Rat×Rat))(x:Str):Rat×Rat:=(M x).getD (0,0)
def fh (F:Str→Option (Rat×Rat))(pins:List aF):List (Int×Int):=pins.flatMap fun p=>[qr (mv F p.nm).1,qr (mv F p.nm).2]
theorem fX (F:Str→Option (Rat×Rat)):∀pins:List aF,(fh F pins).length=2*pins.length
 | []=>rfl
 | p::ps=>by
  have:=fX F ps
  unfold fh at this ⊢
  rw [afy,afi,this]
  simp
  omega
theorem zX (F:Str→Option (Rat×Rat))(ps:List aF)(p:aF):fh F (ps++[p])=fh F ps++[qr (mv F p.nm).1,qr (mv F p.nm).2]:=by
 unfold fh
 rw [agh]
 simp
def gQ (x:Str)(w:Rat×Rat):Str→Option (Rat×Rat):=fun y=>if y=x then some w else none
def ib (b:bB):Str→Option (Rat×Rat):=fun y=>if y=b.one.nm then some (jX b.one b.other) else if y=b.other.nm then some (jX b.other b.one) else none
def oI (pins:List aF)(p:aF):List (List (Int×Int)):=p.ws.map fun w=>fh (gQ p.nm w) pins
def dI (pins:List aF)(ar:List bB):List (List (Int×Int)):=(pins.flatMap fun p=>oI pins p)++ar.map fun b=>fh (ib b) pins
structure gR (K:Frag)(H:Hp)(r:Addr)(ls:List Addr)(dG:List (List V))(fq:List (List (Int×Int))):Prop where
 uA:EM H r ls dG
 num:iN K H dG fq
 nr:r∉ls
theorem gR.same {H H' :Hp}{r:Addr}{ls:List Addr}{dG:List (List V)}{fq:List (List (Int×Int))}(h:gR K H r ls dG fq)(s:av H H'):gR K H' r ls dG fq:=⟨h.uA.same s,h.num.same s,h.nr⟩
theorem vO {H:Hp}{dG:List (List V)}{fq:List (List (Int×Int))}{us:List V}{qs:List (Int×Int)}(h:iN K H dG fq)(n:dj K H us qs):iN K H (dG++[us]) (fq++[qs]):=by
 refine ⟨by simp [h.1],fun i u q' e1 e2=> ?_⟩
 have l:=h.1
 by_cases c:i < dG.length
 ·rw [afd c] at e1
  rw [afd (by omega)] at e2
  exact h.2 i u q' e1 e2
 ·rw [afm (by omega)] at e1 e2
  by_cases z:i - dG.length=0
  ·rw [z] at e1
   rw [show i - fq.length=0 by omega] at e2
   cases e1
   cases e2
   exact n
  ·rw [aal (by simp;omega)] at e1
   cases e1
theorem J2 {H:Hp}{ls:List Addr}{dG:List (List V)}{l:Addr}{us:List V}(hl:ls.length=dG.length)(h:∀(i:Nat) (l:Addr) (vs:List V),ls[i]? =some l→dG[i]? =some vs→H l=some (.lst vs))(e:H l=some (.lst us)):
  ∀(i:Nat) (l' :Addr) (vs:List V),(ls++[l])[i]? =some l' →(dG++[us])[i]? =some vs→H l' =some (.lst vs):=fun i l' vs e1 e2=>by
 by_cases c:i < ls.length
 ·rw [afd c] at e1
  rw [afd (by omega)] at e2
  exact h i l' vs e1 e2
 ·rw [afm (by omega)] at e1 e2
  by_cases z:i - ls.length=0
  ·rw [z] at e1
   rw [show i - dG.length=0 by omega] at e2
   cases e1
   cases e2
   exact e
  ·rw [aal (by simp;omega)] at e1
   cases e1
theorem gR.push {H:Hp}{r l:Addr}{ls:List Addr}{dG:List (List V)}{fq:List (List (Int×Int))}{us:List V}{qs:List (Int×Int)}(h:gR K H r ls dG fq)(e:H l=some (.lst us))(ne:l≠r)(n:dj K H us qs):
  gR K (upd H r (.lst (ls.map V.ref++[.ref l]))) r (ls++[l]) (dG++[us]) (fq++[qs]):=by
 have st:bh H (upd H r (.lst (ls.map V.ref++[.ref l]))):=.list h.uA.1
 have hm:∀(i:Nat) (l' :Addr) (vs:List V),ls[i]? =some l' →dG[i]? =some vs→(upd H r (.lst (ls.map V.ref++[.ref l]))) l' =some (.lst vs):=fun i l' vs e1 e2=>by
  rw [ao (fun z:l' =r=>h.nr (by rw [← z];exact ir e1))]
  exact h.uA.2.2 i l' vs e1 e2
 refine ⟨⟨by rw [ak,afq];rfl,by simp [h.uA.2.1],J2 h.uA.2.1 hm (by rw [ao ne];exact e)⟩,?_,?_⟩
 ·exact vO ⟨h.num.1,fun i vs qs e1 e2=>(h.num.2 i vs qs e1 e2).aS st⟩ (n.aS st)
 ·intro z
  rcases afg.mp z with z | z
  ·exact h.nr z
  ·exact ne (ae_.mp z).symm
inductive hJ (K:Frag)(C:Addr)(vs:List V)(H:Hp)(Q:VK)(E_:XK):Prop where
 | mk (a d:Addr) (pins:List aF) (ar:List bB) (kvs:List (Key×V)) (F:Str→Option (Rat×Rat)) (_:vs=[.ref a,.ref d]) (_:DY K H C a pins ar) (_:pins.length≤100) (_:H d=some (.dK kvs)) (_:O3 K H kvs F) (_:∀(l:Addr) (us:List V) (H' :Hp),av H H' →H l=none→H' l=some (.lst us)→dj K H' us (fh F pins)→Q (.ref l) H'):hJ K C vs H Q E_
theorem js (pins:List aF):((pins.map fun p=>(p.nm,iW p.sp)).map (·.1))=pins.map (·.nm):=by rw [afj];rfl
theorem EU:aD ["F","draws","row","pin"] ["F","draws"] (ag yZ):=sq
theorem RU {C aM:Addr}(hM:∀H:Hp,dZ K H (.ref aM) (0,0))(NM:mg "NO_MOVE"=some (.ref aM))(D:Def K mg "pair_row" yZ ["F","draws"])(MP:bI P w K mg base (a8 P w) 1 C "pins" ["self"] (iO K C)):Fn P w K mg base (a8 P w) 2 "pair_row" ["F","draws"] (hJ K C):=by
 refine D.ok EU (fun vs H Q E h=> ?_) (fun f bC A outer s H vs Q E hr h=> ?_)
 ·obtain ⟨a,d,pins,ar,kvs,F,rfl,_⟩:=h
  rfl
 obtain ⟨a,d,pins,ar,kvs,F,rfl,R,lp,hd,hP,q⟩:=h
 refine ⟨_,(ae (aH (i:=2) EU.nd rfl (ab_ rfl) (cu aa))
  (ae (bF PassesOwn.never rfl (bw (gY (k:=1) (pv 0) hr.mo (pY P w))) (aE (i:=3) EU.nd rfl (ab_ rfl)) (aj (bg (i7 PySem.F.plainAttrs_list PySem.F.slot_list_extend PySem.F.type_list_extend JG (pv 2) (au (DJ (bT hr) (pv 1) (pv 3) (iZ (v:=.ref aM) rfl NM rfl) ⟨rfl,rfl,rfl,rfl⟩) aa)))))
  (aj (aG (pv 2))))),?_⟩
 refine ⟨(by show 0≤sizeLine;decide),?_⟩
 intro l nl;generalize eX:upd _ l _=H1;have ⟨s1,el⟩:=nw nl eX;clear eX
 have R1:=R.same s1
 obtain ⟨dx,pP,pW,pB,kP,kW,kB,F1,W1⟩:=R1.ex
 refine ⟨_,rfl,a,C,dx,_,_,_,rfl,F1.obj,rfl,MP,a,dx,pP,pW,pB,_,_,kP,kW,kB,rfl,F1,fun lp H2 s2 xE vP=> ?_⟩
 rw [js] at vP
 have xF:=s1.trans s2
 have NO:lp≠l:=fun z=>by rw [z,el] at xE;cases xE
 refine ⟨lp,rfl,⟨_,ba.of vP⟩,bM (K:=K) (a:=lp) (xs:=(pins.map (·.nm)).map V.str) (fun i σ H' =>∃(o3:Option V) (us:List V),σ=[some (.ref a),some (.ref d),some (.ref l),o3]∧av H H' ∧H' lp=some (.lst ((pins.map (·.nm)).map V.str))∧H' l=some (.lst us)∧dj K H' us (fh F (pins.take i))) ⟨none,[],rfl,xF,vP,s2 _ _ el,⟨rfl,fun i u q e=>by simp at e⟩⟩ (fun i σ H' _ h=>by
   obtain ⟨_,_,_,_,h,_⟩:=h
   exact ba.of h) ?_ ?_⟩
 ·rintro i z σ H4 hi ⟨o3,us,rfl,s4,l4,e4,n4⟩
  rw [Wp,Wp] at hi
  obtain ⟨x,hx,rfl⟩:=ae9.mp hi
  obtain ⟨p,hp,rfl⟩:=ae9.mp hx
  have il:i < pins.length:=(be.mp hp).1
  have d4:=s4 _ _ hd
  have g1:dZ K H4 ((bO kvs (.inr p.nm)).getD (.ref aM)) (mv F p.nm):=(hP.same s4).Yq (hM H4)
  obtain ⟨b,u1,u2,eb,hb,h1,h2⟩:=g1
  have lu:us.length≤200:=by
   have:=n4.1
   rw [fX,afv] at this
   omega
  refine ⟨_,rfl,.inl ⟨rfl,_,ba.of e4⟩,_,rfl,d,rfl,.inl ⟨_,.inl d4⟩,_,rfl,_,di.k (k:=.inr p.nm) d4,l,b,us,[u1,u2],rfl,by rw [eb],e4,hb,by simp;omega,?_⟩
  have st:bh H4 (upd H4 l (.lst (us++[u1,u2]))):=.list e4
  refine ⟨_,us++[u1,u2],rfl,fun c o z=> ?_,?_,ak,?_⟩
  ·rw [ao (aq z nl)]
   exact s4 _ _ z
  ·rw [ao NO]
   exact l4
  ·rw [take_snoc hp,zX]
   have a1:=dj.snoc (K:=K) (n4.aS st) (gA.aS h1 st)
   have a2:=dj.snoc (K:=K) a1 (gA.aS h2 st)
   simpa using a2
 ·rintro σ H4 ⟨o3,us,rfl,s4,l4,e4,n4⟩
  rw [aaa,aaa,afC] at n4
  exact ⟨_,rfl,q l us H4 s4 nl e4 n4⟩
inductive m9 (K:Frag)(C:Addr)(vs:List V)(H:Hp)(Q:VK)(E_:XK):Prop where
 | mk (a:Addr) (pins:List aF) (ar:List bB) (b:bB) (_:vs=[.ref a,.str b.one.nm,.str b.other.nm]) (_:DY K H C a pins ar) (_:fU pins ar) (_:b.one∈pins) (_:b.other∈pins) (_:b.one.nm≠b.other.nm) (_:∀(l:Addr) (us:List V) (H' :Hp),av H H' →H l=none→H' l=some (.lst us)→dj K H' us (fh (ib b) pins)→Q (.ref l) H'):m9 K C vs H Q E_
theorem NP (k:Key)(v:V):iM [] [(k,v)]=[(k,v)]:=rfl
theorem NQ {k j:Key}(v u:V)(h:k≠j):iM [] [(k,v),(j,u)]=[(k,v),(j,u)]:=by
 show putK [(k,v)] j u=_
 rw [dE]
 ·rfl
 ·rw [bo h]
  rfl
theorem RV:aD ["F","one","other"] ["F","one","other"] (ag y4):=sq
theorem RW {C:Addr}(D:Def K mg "bar_row" y4 ["F","one","other"])(RX:Fn P w K mg base (a8 P w) 36 "arm_between" ["F","one","other"] (ET K C))(NR:Fn P w K mg base (a8 P w) 2 "pair_row" ["F","draws"] (hJ K C)):Fn P w K mg base (a8 P w) 37 "bar_row" ["F","one","other"] (m9 K C):=by
 refine D.ok RV (fun vs H Q E h=> ?_) (fun f bC A outer s H vs Q E hr h=> ?_)
 ·obtain ⟨a,pins,ar,b,rfl,_⟩:=h
  rfl
 obtain ⟨a,pins,ar,b,rfl,R,g,m1,m2,ne,q⟩:=h
 refine ⟨_,(aj (aG (aC NR hr.mo pX (au (pv 0) (au (xj (mI (pv 1) (aC RX hr.mo pX (au (pv 0) (au (pv 1) (au (pv 2) aa)))) (mI (pv 2) (aC RX hr.mo pX (au (pv 0) (au (pv 2) (au (pv 1) aa)))) xi)) rfl rfl (an7 _ _) (by decide)) aa))))),?_⟩
 refine ⟨_,rfl,fun d nd=> ?_⟩
 have s1:=aI nd (.dK [])
 have e1:(upd H d (.dK [])) d=some (.dK []):=ak
 generalize upd H d (.dK [])=H1 at s1 e1 ⊢
 refine ⟨_,rfl,_,rfl,_,rfl,_,rfl,a,pins,ar,b.one,b.other,rfl,R.same s1,g,m1,m2,fun v1 H2 s2 h2=> ?_⟩
 refine ⟨_,rfl,_,rfl,_,rfl,_,rfl,a,pins,ar,b.other,b.one,rfl,(R.same s1).same s2,g,m2,m1,fun v2 H3 s3 h3=> ?_⟩
 have e3:=s3 _ _ (s2 _ _ e1)
 refine ⟨e3,[(.inr b.one.nm,v1),(.inr b.other.nm,v2)],rfl,(by show 2≤15;decide),?_⟩
 rw [NQ _ _ (fun z=>ne (afV z))]
 have st:bh H3 (upd H3 d (.dK [(.inr b.one.nm,v1),(.inr b.other.nm,v2)])):=.dict e3
 have e4:(upd H3 d (.dK [(.inr b.one.nm,v1),(.inr b.other.nm,v2)])) d=some (.dK [(.inr b.one.nm,v1),(.inr b.other.nm,v2)]):=ak
 have s4:av H (upd H3 d (.dK [(.inr b.one.nm,v1),(.inr b.other.nm,v2)])):=fun c o z=>by
  rw [ao (aq z nd)]
  exact s3 _ _ (s2 _ _ (s1 _ _ z))
 generalize upd H3 d (.dK [(.inr b.one.nm,v1),(.inr b.other.nm,v2)])=H4 at st e4 s4 ⊢
 refine ⟨a,d,pins,ar,_,ib b,rfl,R.same s4,aaj g.lp (by decide),e4,fun x=> ?_,fun l us H5 s5 n5 e5 nm=>q l us H5 (s4.trans s5) (s4.free n5) e5 nm⟩
 by_cases c1:x=b.one.nm
 ·subst c1
  exact .inr ⟨v1,jX b.one b.other,bH rfl,by unfold ib;rw [if_pos rfl],(h2.same s3).aS st⟩
 ·by_cases c2:x=b.other.nm
  ·subst c2
   exact .inr ⟨v2,jX b.other b.one,by rw [bo (fun z=>c1 (afV z).symm),bH rfl],by unfold ib;rw [if_neg c1,if_pos rfl],h3.aS st⟩
  ·exact .inl ⟨by rw [bo (fun z=>c1 (afV z).symm),bo (fun z=>c2 (afV z).symm)];rfl,by unfold ib;rw [if_neg c1,if_neg c2]⟩
inductive iP (K:Frag)(C:Addr)(vs:List V)(H:Hp)(Q:VK)(E_:XK):Prop where
 | mk (a:Addr) (pins:List aF) (ar:List bB) (_:vs=[.ref a]) (_:DY K H C a pins ar) (_:fU pins ar) (_:∀(r:Addr) (ls:List Addr) (dG:List (List V)) (H' :Hp),av H H' →H r=none→gR K H' r ls dG (dI pins ar)→Q (.ref r) H'):iP K C vs H Q E_
theorem J3 (ar:List bB):((ar.map fun b=>(b.nm,b.one.nm,b.other.nm)).map (·.1))=ar.map (·.nm):=by rw [afj];rfl
theorem uB (pins:List aF)(h:∀p∈pins,p.ws.length≤2):(pins.flatMap fun p=>p.ws).length≤2*pins.length:=by
 induction pins with
 | nil=>simp
 | cons p ps ih=>
  have h1:=h p ae'
  have h2:=ih fun q hq=>h q (aa_ _ hq)
  rw [afy,afi,afu]
  omega
theorem m_ (all pins:List aF):(pins.flatMap fun p=>oI all p).length=(pins.flatMap fun p=>p.ws).length:=by
 induction pins with
 | nil=>rfl
 | cons p ps ih=>
  rw [afy,afy,afi,afi,ih]
  unfold oI
  rw [aaa]
theorem zY (pins:List aF)(ar:List bB):(dI pins ar).length=(pins.flatMap fun p=>p.ws).length+ar.length:=by
 unfold dI
 rw [afi,m_,aaa]
theorem qp:aD ["F","rows","pin","way","bar","two"] ["F"] (ag y6):=sq
theorem RY {C:Addr}(D:Def K mg "draw_rows" y6 ["F"])(MP:bI P w K mg base (a8 P w) 1 C "pins" ["self"] (iO K C))(MW:bI P w K mg base (a8 P w) 2 C "ways" ["self","pin"] (rC K C))(MB:bI P w K mg base (a8 P w) 1 C "bars" ["self"] (rA K C))(ME:bI P w K mg base (a8 P w) 1 C "ends" ["self","bar"] (rB K C))
  (NR:Fn P w K mg base (a8 P w) 2 "pair_row" ["F","draws"] (hJ K C)) (YX:Fn P w K mg base (a8 P w) 37 "bar_row" ["F","one","other"] (m9 K C)):Fn P w K mg base (a8 P w) 38 "draw_rows" ["F"] (iP K C):=by
 refine D.ok qp (fun vs H Q E h=> ?_) (fun f bC A outer s H vs Q E hr h=> ?_)
 ·obtain ⟨a,pins,ar,rfl,_⟩:=h
  rfl
 obtain ⟨a,pins,ar,rfl,R,g,q⟩:=h
 refine ⟨_,(ae (aH (i:=1) qp.nd rfl (ab_ rfl) (cu aa))
  (ae (bF PassesOwn.never rfl (bw (gY (k:=1) (pv 0) hr.mo (pY P w))) (aE (i:=2) qp.nd rfl (ab_ rfl)) (aj (bF PassesOwn.never rfl (bw (c8 (k:=2) (pv 0) hr.mo (pY P w) (au (pv 2) aa))) (aE (i:=3) qp.nd rfl (ab_ rfl)) (aj (bg (i7 PySem.F.plainAttrs_list PySem.F.slot_list_append PySem.F.type_list_append dz (pv 1) (au (aC NR hr.mo (pY P w) (au (pv 0) (au (xj (mI (pv 2) (pv 3) xi) rfl rfl (an7 _ _) (by decide)) aa))) aa)))))))
  (ae (bF PassesOwn.never rfl (bw (gY (k:=1) (pv 0) hr.mo (pY P w))) (aE (i:=4) qp.nd rfl (ab_ rfl)) (ae (aH (i:=5) qp.nd rfl (ab_ rfl) (c8 (k:=1) (pv 0) hr.mo (pY P w) (au (pv 4) aa)))
   (aj (bg (i7 PySem.F.plainAttrs_list PySem.F.slot_list_append PySem.F.type_list_append dz (pv 1) (au (aC YX hr.mo (pY P w) (au (pv 0) (au (aK (pv 5)) (au (aK (pv 5)) aa)))) aa))))))
  (aj (aG (pv 1)))))),?_⟩
 refine ⟨(by show 0≤sizeLine;decide),?_⟩
 intro r nr;generalize eX:upd _ r _=H1;have ⟨s1,er⟩:=nw nr eX;clear eX
 have big:(40:Nat)≤sizeLine:=by decide
 have wl:=uB pins g.lw
 have gl:=g.lp
 have R0:gR K H1 r [] [] []:=⟨⟨er,rfl,fun i l vs e=>by simp at e⟩,⟨rfl,fun i vs qs e=>by simp at e⟩,by simp⟩
 have R1:=R.same s1
 obtain ⟨dx,pP,pW,pB,kP,kW,kB,F1,W1⟩:=R1.ex
 refine ⟨_,rfl,a,C,dx,_,_,_,rfl,F1.obj,rfl,MP,a,dx,pP,pW,pB,_,_,kP,kW,kB,rfl,F1,fun lp H2 s2 xE vP=> ?_⟩
 rw [js] at vP
 have xF:=s1.trans s2
 have NO:lp≠r:=fun z=>by rw [z,er] at xE;cases xE
 refine ⟨lp,rfl,⟨_,ba.of vP⟩,bM (K:=K) (a:=lp) (xs:=(pins.map (·.nm)).map V.str) (fun i σ H' =>∃(o2 o3:Option V) (ls:List Addr) (dG:List (List V)),σ=[some (.ref a),some (.ref r),o2,o3,none,none]∧av H H' ∧H' lp=some (.lst ((pins.map (·.nm)).map V.str))∧gR K H' r ls dG ((pins.take i).flatMap fun p=>oI pins p)) ⟨none,none,[],[],rfl,xF,vP,R0.same s2⟩ (fun i σ H' _ h=>by
   obtain ⟨_,_,_,_,_,_,h,_⟩:=h
   exact ba.of h) ?_ ?_⟩
 ·rintro i z σ H4 hi ⟨o2,o3,ls,dG,rfl,s4,l4,RR⟩
  rw [Wp,Wp] at hi
  obtain ⟨x,hx,rfl⟩:=ae9.mp hi
  obtain ⟨p,hp,rfl⟩:=ae9.mp hx
  have mp:p∈pins:=ir hp
  have R4:=R.same s4
  obtain ⟨dx,pP,pW,pB,kP,kW,kB,F4,W4⟩:=R4.ex
  have mpn:p.nm∈(pins.map fun p=>(p.nm,iW p.sp)).map (·.1):=by rw [js];exact aah.mpr ⟨p,mp,rfl⟩
  refine ⟨_,rfl,a,C,dx,_,_,_,rfl,F4.obj,rfl,MW,_,rfl,a,dx,pP,pW,pB,_,_,kP,kW,kB,_,p.nm,p.ws,rfl,F4,W4,RP g.np,aah.mpr ⟨p,mp,rfl⟩,mpn,fun m us H5 s5 n5 e5 p5=> ?_⟩
  have lu:us.length=p.ws.length:=Paired.length p5
  have EV:=s4.trans s5
  have mr:m≠r:=fun z=>by rw [z,RR.uA.1] at n5;cases n5
  refine ⟨m,rfl,⟨_,ba.of e5⟩,bM (K:=K) (a:=m) (xs:=us) (fun j σ H' =>∃(o3:Option V) (ls:List Addr) (dG:List (List V)),σ=[some (.ref a),some (.ref r),some (.str p.nm),o3,none,none]∧av H H' ∧H' lp=some (.lst ((pins.map (·.nm)).map V.str))∧H' m=some (.lst us)∧gB K H' us p.ws∧gR K H' r ls dG (((pins.take i).flatMap fun p=>oI pins p)++(p.ws.take j).map fun w=>fh (gQ p.nm w) pins)) ⟨o3,ls,dG,rfl,EV,s5 _ _ l4,e5,p5,by simpa using RR.same s5⟩ (fun j σ H' _ h=>by
    obtain ⟨_,_,_,_,_,_,h,_⟩:=h
    exact ba.of h) ?_ ?_⟩
  ·rintro j u σ H6 hu ⟨o3,ls,dG,rfl,s6,l6,e6,p6,uC⟩
   obtain ⟨w,ew,hw⟩:=aA p6 hu
   have jl:=(be.mp hu).1
   refine ⟨_,rfl,.inl ⟨rfl,_,ba.of uC.uA.1⟩,_,rfl,fun d nd=> ?_⟩
   have t1:=aI nd (.dK [])
   have d1:(upd H6 d (.dK [])) d=some (.dK []):=ak
   generalize upd H6 d (.dK [])=H7 at t1 d1 ⊢
   refine ⟨_,rfl,_,rfl,d1,[(.inr p.nm,u)],rfl,(by show 1≤15;decide),?_⟩
   rw [NP]
   have st:bh H7 (upd H7 d (.dK [(.inr p.nm,u)])):=.dict d1
   have d8:(upd H7 d (.dK [(.inr p.nm,u)])) d=some (.dK [(.inr p.nm,u)]):=ak
   have t8:av H6 (upd H7 d (.dK [(.inr p.nm,u)])):=fun c o z=>by
    rw [ao (aq z nd)]
    exact t1 _ _ z
   have hw8:=(hw.same t1).aS st
   generalize upd H7 d (.dK [(.inr p.nm,u)])=H8 at d8 t8 hw8 ⊢
   have s8:=s6.trans t8
   refine ⟨a,d,pins,ar,_,gQ p.nm w,rfl,R.same s8,aaj g.lp (by decide),d8,fun x=> ?_,fun l iz H9 t9 n9 e9 nm=> ?_⟩
   ·by_cases c1:x=p.nm
    ·subst c1
     exact .inr ⟨u,w,bH rfl,by unfold gQ;rw [if_pos rfl],hw8⟩
    ·exact .inl ⟨by rw [bo (fun z=>c1 (afV z).symm)];rfl,by unfold gQ;rw [if_neg c1]⟩
   have YY:=t8.trans t9
   have O8:=uC.same YY
   have lr:l≠r:=fun z=>by rw [z,t8 _ _ uC.uA.1] at n9;cases n9
   have YZ:ls.length≤18:=by
    have h1:=uC.uA.2.1
    have h2:=uC.num.1
    rw [afi,aaa,afv,m_] at h2
    have h3:((pins.take i).flatMap fun p=>p.ws).length+p.ws.length≤(pins.flatMap fun p=>p.ws).length:=by
     have e:pins=pins.take i++p::pins.drop (i+1):=by
      have lt:=(be.mp hp).1
      have e2:=(be.mp hp).2
      rw [← e2,List.getElem_cons_drop,List.take_append_drop]
     have e3:=congrArg (fun l:List aF=>(l.flatMap fun p=>p.ws).length) e
     simp only [agh,afy,afi] at e3
     omega
    omega
   refine ⟨r,_,_,rfl,rfl,O8.uA.1,(by rw [aaa];omega),?_⟩
   have RN:=O8.push e9 lr nm
   have tr:bh H9 (upd H9 r (.lst (ls.map V.ref++[.ref l]))):=.list O8.uA.1
   have kk:∀b o,b≠r→H6 b=some o→(upd H9 r (.lst (ls.map V.ref++[.ref l]))) b=some o:=fun b o n e=>by rw [ao n];exact YY _ _ e
   refine ⟨_,ls++[l],dG++[iz],rfl,fun b o e=> ?_,kk _ _ NO l6,kk _ _ mr e6,(p6.same YY).aS tr,?_⟩
   ·exact kk _ _ (aq e nr) (s6 _ _ e)
   ·rw [take_snoc ew,afq, ← af6]
    exact RN
  ·rintro σ H6 ⟨o3,ls,dG,rfl,s6,l6,e6,p6,uC⟩
   refine ⟨_,_,ls,dG,rfl,s6,l6,?_⟩
   rw [lu,afC] at uC
   rw [take_snoc hp,agh]
   simpa [oI] using uC
 ·rintro σ H4 ⟨o2,o3,ls,dG,rfl,s4,l4,RR⟩
  rw [aaa,aaa,afC] at RR
  have R4:=R.same s4
  obtain ⟨dx,pP,pW,pB,kP,kW,kB,F4,W4⟩:=R4.ex
  refine ⟨_,rfl,a,C,dx,_,_,_,rfl,F4.obj,rfl,MB,a,dx,pP,pW,pB,_,_,kP,kW,kB,rfl,F4,fun lb H5 s5 nlb Y0=> ?_⟩
  rw [J3] at Y0
  have bne:lb≠r:=fun z=>by rw [z,RR.uA.1] at nlb;cases nlb
  refine ⟨lb,rfl,⟨_,ba.of Y0⟩,bM (K:=K) (a:=lb) (xs:=(ar.map (·.nm)).map V.str) (fun i σ H' =>∃(o4 o5:Option V) (ls:List Addr) (dG:List (List V)),σ=[some (.ref a),some (.ref r),o2,o3,o4,o5]∧av H H' ∧H' lb=some (.lst ((ar.map (·.nm)).map V.str))∧gR K H' r ls dG ((pins.flatMap fun p=>oI pins p)++(ar.take i).map fun b=>fh (ib b) pins)) ⟨none,none,ls,dG,rfl,s4.trans s5,Y0,by simpa using RR.same s5⟩ (fun i σ H' _ h=>by
    obtain ⟨_,_,_,_,_,_,h,_⟩:=h
    exact ba.of h) ?_ ?_⟩
  ·rintro i z σ H6 hi ⟨o4,o5,ls,dG,rfl,s6,l6,uC⟩
   rw [Wp,Wp] at hi
   obtain ⟨x,hx,rfl⟩:=ae9.mp hi
   obtain ⟨b,hb,rfl⟩:=ae9.mp hx
   have mb:b∈ar:=ir hb
   have il:=(be.mp hb).1
   have R6:=R.same s6
   obtain ⟨dx,pP,pW,pB,kP,kW,kB,F6,W6⟩:=R6.ex
   refine ⟨_,rfl,a,C,dx,_,_,_,rfl,F6.obj,rfl,ME,_,rfl,a,dx,pP,pW,pB,_,_,kP,kW,kB,b.nm,b.one.nm,b.other.nm,rfl,F6,RQ g.nb,aah.mpr ⟨b,mb,rfl⟩,fun p rd=> ?_⟩
   have tp:bK K H6 p [.str b.one.nm,.str b.other.nm]:=.inl rd
   obtain ⟨m1,m2,m3⟩:=g.ends b mb
   refine ⟨_,rfl,.inl ⟨rfl,_,ba.of uC.uA.1⟩,_,rfl,_,rfl,p,_,_,_,rfl,rfl,tp,iy,_,rfl,p,_,_,_,rfl,rfl,tp,g9,?_⟩
   refine ⟨a,pins,ar,b,rfl,R6,g,m1,m2,m3,fun l iz H9 t9 n9 e9 nm=> ?_⟩
   have O8:=uC.same t9
   have lr:l≠r:=fun z=>by rw [z,uC.uA.1] at n9;cases n9
   have YZ:ls.length≤32:=by
    have h1:=uC.uA.2.1
    have h2:=uC.num.1
    rw [afi,aaa,afv,m_] at h2
    have:=g.lb
    omega
   refine ⟨r,_,_,rfl,rfl,O8.uA.1,(by rw [aaa];omega),?_⟩
   have RN:=O8.push e9 lr nm
   have kk:∀c o,c≠r→H6 c=some o→(upd H9 r (.lst (ls.map V.ref++[.ref l]))) c=some o:=fun c o n e=>by rw [ao n];exact t9 _ _ e
   refine ⟨_,_,ls++[l],dG++[iz],rfl,fun c o e=>kk _ _ (aq e nr) (s6 _ _ e),kk _ _ bne l6,?_⟩
   rw [take_snoc hb,afq, ← af6]
   exact RN
  ·rintro σ H6 ⟨o4,o5,ls,dG,rfl,s6,l6,uC⟩
   rw [aaa,aaa,afC] at uC
   exact ⟨_,rfl,q r ls dG H6 s6 nr uC⟩
inductive ng (K:Frag)(C:Addr)(vs:List V)(H:Hp)(Q:VK)(E_:XK):Prop where
 | mk (a nl:Addr) (pins:List aF) (ar:List bB) (us:List V) (rs:List Rat) (_:vs=[.ref a,.ref nl]) (_:DY K H C a pins ar) (_:fU pins ar) (_:H nl=some (.lst us)) (_:Paired (gA K H) us rs) (_:rs.length=2*pins.length) (_:∀(M:Str→Rat×Rat) (d:Addr) (kM:List (Key×V)) (H' :Hp),av H H' →rs=(pins.flatMap fun p=>[(M p.nm).1,(M p.nm).2])→H d=none→H' d=some (.dK kM)→kM.map (·.1)=pins.map (fun p=>(af1 p.nm:Key))→(∀p∈pins,∃t v1 v2,bO kM (.inr p.nm)=some (.ref t)∧H' t=some (.tup [v1,v2])∧gA K H' v1 (M p.nm).1∧gA K H' v2 (M p.nm).2)→Q (.ref d) H'):ng K C vs H Q E_
theorem uD {ps:List aF}{U W:Str→Rat×Rat}(h:∀p∈ps,U p.nm=W p.nm):(ps.flatMap fun p=>[(U p.nm).1,(U p.nm).2])=ps.flatMap fun p=>[(W p.nm).1,(W p.nm).2]:=by
 induction ps with
 | nil=>rfl
 | cons p ps ih=>
  rw [afy,afy,h p ae',ih fun q hq=>h q (aa_ _ hq)]
theorem xG:aD ["F","numbers","motion","at","pin"] ["F","numbers"] (ag y8):=sq
theorem R7 {C:Addr}(D:Def K mg "motion_from" y8 ["F","numbers"])(dA:mg "enumerate"=none)(MP:bI P w K mg base (a8 P w) 1 C "pins" ["self"] (iO K C)):
  Fn P w K mg base (a8 P w) 2 "motion_from" ["F","numbers"] (ng K C):=by
 refine D.ok xG (fun vs H Q E h=> ?_) (fun f bC A outer s H vs Q E hr h=> ?_)
 ·obtain ⟨a,nl,pins,ar,us,rs,rfl,_⟩:=h
  rfl
 obtain ⟨a,nl,pins,ar,us,rs,rfl,R,g,hn,hu,hl,q⟩:=h
 have lu:us.length=rs.length:=Paired.length hu
 have gl:=g.lp
 refine ⟨_,(ae (aH (i:=2) xG.nd rfl (ab_ rfl) fT)
  (ae (bF PassesOwn.never rfl (xl rfl dA (au (gY (k:=1) (pv 0) hr.mo (pY P w)) aa)) (dO rfl (aX (aE (i:=3) xG.nd rfl (ab_ rfl)) (aX (aE (i:=4) xG.nd rfl (ab_ rfl)) cQ))) (aj (fo (bT hr) (pv 2) (pv 4) (aR (au (bD bu (pv 1) (aL cE ah (pv 3)) (fun _ _=>rfl)) (au (bD bu (pv 1) (aL cp (aL cE ah (pv 3)) ah) (fun _ _=>rfl)) aa))) rfl)))
  (aj (aG (pv 2))))),?_⟩
 intro d nd
 have s1:=aI nd (.dK [])
 have e1:(upd H d (.dK [])) d=some (.dK []):=ak
 generalize upd H d (.dK [])=H1 at s1 e1 ⊢
 have R1:=R.same s1
 obtain ⟨dx,pP,pW,pB,kP,kW,kB,F1,W1⟩:=R1.ex
 refine ⟨_,rfl,a,C,dx,_,_,_,rfl,F1.obj,rfl,MP,a,dx,pP,pW,pB,_,_,kP,kW,kB,rfl,F1,fun lp H2 s2 xE vP=> ?_⟩
 rw [js] at vP
 have xF:=s1.trans s2
 have NO:lp≠d:=fun z=>by rw [z,e1] at xE;cases xE
 refine ⟨lp,rfl,⟨_,ba.of vP⟩,tT (K:=K) (a:=lp) (xs:=(pins.map (·.nm)).map V.str) (fun i σ H' =>∃(o3 o4:Option V) (kM:List (Key×V)) (M:Str→Rat×Rat),σ=[some (.ref a),some (.ref nl),some (.ref d),o3,o4]∧av H H' ∧H' lp=some (.lst ((pins.map (·.nm)).map V.str))∧H' d=some (.dK kM)∧kM.map (·.1)=(pins.take i).map (fun p=>(af1 p.nm:Key))∧((pins.take i).flatMap fun p=>[(M p.nm).1,(M p.nm).2])=rs.take (2*i)∧
   (∀p∈pins.take i,∃t v1 v2,bO kM (.inr p.nm)=some (.ref t)∧H' t=some (.tup [v1,v2])∧gA K H' v1 (M p.nm).1∧gA K H' v2 (M p.nm).2))
   ⟨none,none,[],fun _=>(0,0),rfl,xF,vP,s2 _ _ e1,rfl,rfl,by simp⟩ (fun i σ H' _ h=>by
   obtain ⟨_,_,_,_,_,_,h,_⟩:=h
   exact ba.of h) ?_ ?_⟩
 ·rintro i z σ H4 p9 hi ⟨o3,o4,kM,M,rfl,s4,l4,e4,ks,fl,tM⟩ n9
  rw [Wp,Wp] at hi
  obtain ⟨x,hx,rfl⟩:=ae9.mp hi
  obtain ⟨p,hp,rfl⟩:=ae9.mp hx
  have il:i < pins.length:=(be.mp hp).1
  have t9:=aI n9 (.tup [.int (i:Int),.str p.nm])
  have e9:(upd H4 p9 (.tup [.int (i:Int),.str p.nm])) p9=some (.tup [.int (i:Int),.str p.nm]):=ak
  generalize upd H4 p9 (.tup [.int (i:Int),.str p.nm])=H5 at t9 e9 ⊢
  refine ⟨p9,_,rfl,bK.of e9,rfl,_,_,rfl,_,_,rfl,rfl,?_⟩
  have Y1:=s4.trans t9
  have hn5:=Y1 _ _ hn
  have l1:2*i < us.length:=by omega
  have l2:2*i+1 < us.length:=by omega
  have c2:wZ 2 (i:Int):=⟨by decide+kernel,aaj (intBits_le_64 (by omega) (by omega)) (by decide)⟩
  have a1:i6 us (2*(i:Int))=some us[2*i]:=by
   have:=dC (xs:=us) (j:=2*i) (gE l1)
   rw [show ((2*i:Nat):Int)=2*(i:Int) by omega] at this
   exact this
  have a2:i6 us (2*(i:Int)+1)=some us[2*i+1]:=by
   have:=dC (xs:=us) (j:=2*i+1) (gE l2)
   rw [show ((2*i+1:Nat):Int)=2*(i:Int)+1 by omega] at this
   exact this
  refine ⟨_,rfl,_,rfl,_,_,rfl,rfl,c2,nl,_,_,_,rfl,rfl,ba.of hn5,a1,?_⟩
  refine ⟨_,rfl,_,rfl,_,_,rfl,rfl,c2,_,_,rfl,rfl,nl,_,_,_,rfl,rfl,ba.of hn5,a2,(by show 2≤sizeLine;decide),?_⟩
  intro t n6;generalize eX:upd _ t _=H6;have ⟨s6,e6⟩:=nw n6 eX;clear eX
  have e46:=s6 _ _ (t9 _ _ e4)
  have lk:kM.length≤9:=by
   have z:=congrArg afH ks
   rw [aaa,aaa,afv] at z
   omega
  refine ⟨_,rfl,_,rfl,d,_,rfl,iL.k (k:=.inr p.nm) e46 (afe (show kM.length≤1000 by omega) (by decide)),?_⟩
  have fresh:(af1 p.nm:Key)∉kM.map (·.1):=by
   rw [ks]
   intro z
   obtain ⟨b',gC,HM⟩:=aah.mp z
   exact jh (nm:=aF.nm) g.np hp gC (afV HM)
  have pk:putK kM (.inr p.nm) (.ref t)=kM++[(.inr p.nm,.ref t)]:=dE _ (cT fresh)
  have t6:bh H6 (upd H6 d (.dK (putK kM (.inr p.nm) (.ref t)))):=.dict e46
  have O7:=t9.trans s6
  have td:t≠d:=fun z=>by rw [z,t9 _ _ e4] at n6;cases n6
  have kk:∀b o,b≠d→H4 b=some o→(upd H6 d (.dK (putK kM (.inr p.nm) (.ref t)))) b=some o:=fun b o n e=>by rw [ao n];exact O7 _ _ e
  have ne:∀p' ∈pins.take i,p'.nm≠p.nm:=fun p' nh =>jh (nm:=aF.nm) g.np hp nh
  have tk:=take_snoc hp
  obtain ⟨r1,er1,hr1⟩:=aA hu (gE l1)
  obtain ⟨r2,er2,hr2⟩:=aA hu (gE l2)
  obtain ⟨M',R8,hM2⟩:∃M' :Str→Rat×Rat,M' p.nm=(r1,r2)∧∀x,x≠p.nm→M' x=M x:=⟨fun x=>if x=p.nm then (r1,r2) else M x,if_pos rfl,fun x h=>if_neg h⟩
  refine ⟨_,_,putK kM (.inr p.nm) (.ref t),M',rfl,fun b o e=> ?_,kk _ _ NO l4,ak,?_,?_,fun p' nh => ?_⟩
  ·rw [ao (aq e nd)]
   exact O7 _ _ (s4 _ _ e)
  ·rw [pk,afq,ks,tk,afq]
   rfl
  ·rw [tk,agh,uD (U:=M') (W:=M) fun p' nh =>hM2 _ (ne p' nh),fl]
   simp only [afy,List.flatMap_nil,ai_,R8]
   rw [show 2*(i+1)=2*i+1+1 by omega,anm,anm,er1,er2]
   simp
  ·rw [DC]
   rw [tk] at nh
   rcases afg.mp nh with h | h
   ·rw [if_neg (fun z=>ne p' h (afV z)),hM2 _ (ne p' h)]
    obtain ⟨t',v1,v2,h1,h2,h3,h4⟩:=tM p' h
    exact ⟨t',v1,v2,h1,kk _ _ (fun z=>by rw [z,e4] at h2;cases h2) h2,(h3.same O7).aS t6,(h4.same O7).aS t6⟩
   ·rw [ae_.mp h,if_pos rfl,R8]
    exact ⟨t,_,_,rfl,by rw [ao td];exact e6,((hr1.same Y1).same s6).aS t6,((hr2.same Y1).same s6).aS t6⟩
 ·rintro σ H4 ⟨o3,o4,kM,M,rfl,s4,l4,e4,ks,fl,tM⟩
  rw [aaa,aaa] at ks fl tM
  rw [afC] at ks fl tM
  rw [← hl,afC] at fl
  exact ⟨_,rfl,q M d kM H4 s4 fl.symm nd e4 ks tM⟩
def dt (a b:Rat×Rat):Rat:=a.1*b.1+a.2*b.2
def sP (as bs:List Rat):Rat:=(age (·*·) as bs).sum
theorem EW (bs:List Rat):sP [] bs=0:=by simp [sP]
theorem hU (a b:Rat)(as bs:List Rat):sP (a::as) (b::bs)=a*b+sP as bs:=by simp [sP]
theorem EX:∀{a c:List Rat} (b d:List Rat),a.length=c.length→sP (a++b) (c++d)=sP a c+sP b d
 | [],[],b,d,_=>by
  rw [anz,anz,EW]
  grind
 | x::a,y::c,b,d,h=>by
  rw [am4,am4,hU,hU,EX b d (by simpa using h)]
  grind
 | [],_::_,_,_,h=>by simp at h
 | _::_,[],_,_,h=>by simp at h
theorem xH (F:Str→Option (Rat×Rat))(M:Str→Rat×Rat):∀pins:List aF,sP ((fh F pins).map vl) (pins.flatMap fun p=>[(M p.nm).1,(M p.nm).2])=(pins.map fun p=>dt (mv F p.nm) (M p.nm)).sum
 | []=>by simp [fh,sP]
 | p::ps=>by
  have ih:=xH F M ps
  unfold fh at ih ⊢
  rw [afy,afy,afq,EX _ _ (by simp),ih]
  simp only [ac_,anc,gx,hU,EW,aga]
  unfold dt
  grind
theorem J4 {pins:List aF}(nd:(pins.map (·.nm)).Nodup){p:aF}(hp:p∈pins){f:Str→Rat}(h:∀q∈pins,q.nm≠p.nm→f q.nm=0):(pins.map fun q=>f q.nm).sum=f p.nm:=by
 induction pins with
 | nil=>simp at hp
 | cons q ps ih=>
  rw [ac_,afs] at nd
  rw [ac_,aga]
  have zero:∀(l:List aF),(∀r∈l,f r.nm=0)→(l.map fun q=>f q.nm).sum=0:=fun l hl=>by
   induction l with
   | nil=>simp
   | cons r l ihl=>
    rw [ac_,aga,hl r ae',ihl fun s hs=>hl s (aa_ _ hs)]
    grind
  by_cases e:q.nm=p.nm
  ·rw [e,zero ps fun r hr=>h r (aa_ _ hr) fun z=>nd.1 (by rw [e, ← z];exact aah.mpr ⟨r,hr,rfl⟩)]
   grind
  ·rw [h q ae' e]
   have nh :p∈ps:=by
    rcases afo.mp hp with z | z
    ·exact absurd (by rw [z]) e
    ·exact z
   rw [ih nd.2 nh fun r hr=>h r (aa_ _ hr)]
   grind
theorem nj (x:Str)(w:Rat×Rat)(y:Str):mv (gQ x w) y=if y=x then w else (0,0):=by
 unfold mv gQ
 by_cases e:y=x
 ·rw [if_pos e,if_pos e]
  rfl
 ·rw [if_neg e,if_neg e]
  rfl
theorem jt (m:Rat×Rat):dt (0,0) m=0:=by
 unfold dt
 grind
theorem lT {pins:List aF}(nd:(pins.map (·.nm)).Nodup){p:aF}(hp:p∈pins)(w:Rat×Rat)(M:Str→Rat×Rat):(pins.map fun q=>dt (mv (gQ p.nm w) q.nm) (M q.nm)).sum=dt w (M p.nm):=by
 rw [J4 nd hp (f:=fun x=>dt (mv (gQ p.nm w) x) (M x)) fun q _ e=>by rw [nj,if_neg e];exact jt _]
 rw [nj,if_pos rfl]
theorem sum_add (f g:aF→Rat):∀l:List aF,(l.map fun q=>f q+g q).sum=(l.map f).sum+(l.map g).sum
 | []=>by
  simp only [anc,List.sum_nil]
  grind
 | p::l=>by
  rw [ac_,aga,sum_add f g l,ac_,ac_,aga,aga]
  grind
def EY (M:Str→Rat×Rat)(b:bB):Rat:=dt (jX b.one b.other) ((M b.other.nm).1 - (M b.one.nm).1,(M b.other.nm).2 - (M b.one.nm).2)
theorem NS (b:bB)(h:b.one.nm≠b.other.nm)(x:Str)(m:Rat×Rat):dt (mv (ib b) x) m=dt (mv (gQ b.one.nm (jX b.one b.other)) x) m+dt (mv (gQ b.other.nm (jX b.other b.one)) x) m:=by
 rw [nj,nj]
 unfold mv ib
 by_cases c1:x=b.one.nm
 ·rw [if_pos c1,if_pos c1,if_neg (fun z=>h (c1.symm.trans z)),jt]
  show dt (jX b.one b.other) m=_
  grind
 ·rw [if_neg c1,if_neg c1,jt]
  by_cases c2:x=b.other.nm
  ·rw [if_pos c2,if_pos c2]
   show dt (jX b.other b.one) m=_
   grind
  ·rw [if_neg c2,if_neg c2,jt]
   show dt (0,0) m=_
   rw [jt]
   grind
theorem xI {pins:List aF}(nd:(pins.map (·.nm)).Nodup)(b:bB)(h1:b.one∈pins)(h2:b.other∈pins)(h:b.one.nm≠b.other.nm)(M:Str→Rat×Rat):(pins.map fun q=>dt (mv (ib b) q.nm) (M q.nm)).sum= -(EY M b):=by
 have e:(pins.map fun q=>dt (mv (ib b) q.nm) (M q.nm))=pins.map fun q=>dt (mv (gQ b.one.nm (jX b.one b.other)) q.nm) (M q.nm)+dt (mv (gQ b.other.nm (jX b.other b.one)) q.nm) (M q.nm):=agg fun q _=>NS b h _ _
 rw [e,sum_add,lT nd h1,lT nd h2]
 unfold EY dt jX
 grind
structure jY (pins:List aF)(ar:List bB)(M:Str→Rat×Rat):Prop where
 R9:∀p∈pins,∀w∈p.ws,dt w (M p.nm)=0
 ar:∀b∈ar,EY M b=0
theorem ju {k:Nat}(h:1≤k):Sz k 0:=by
 have:=gf (i:=0) (k:=k) (by simpa using aoe k) h
 simpa using this
structure Zb (n:Nat)(r:Rat):Prop where
 top:(qr r).1.natAbs≤2^n
 bot:(qr r).2.natAbs≤2^n
theorem Lx {T B:Nat}{q:Int×Int}(h:Sm T B q):q=qr (vl q):=qf h.pos h.low
theorem Ly {k:Nat}{r:Rat}(h:Sz k r)(h2:k≤90):Sm 90 90 (qr r):=
 ⟨c9 r,mT r,af2 (afc (intBits_le_iff.mp h.top) (afp (by decide) h2)),af2 (afc (intBits_le_iff.mp h.bot) (afp (by decide) h2))⟩
theorem xJ {F:Str→Option (Rat×Rat)}(h:∀x,Sz 90 (mv F x).1∧Sz 90 (mv F x).2)(pins:List aF):∀q∈fh F pins,Sm 90 90 q:=fun q hq=>by
 unfold fh at hq
 obtain ⟨p,_,hq⟩:=af0.mp hq
 have z:=h p.nm
 rcases afo.mp hq with e | hq
 ·rw [e]
  exact Ly z.1 (aai _)
 ·rw [ae_.mp hq]
  exact Ly z.2 (aai _)
theorem NT {x:Str}{w:Rat×Rat}(h:Sz 90 w.1∧Sz 90 w.2)(y:Str):Sz 90 (mv (gQ x w) y).1∧Sz 90 (mv (gQ x w) y).2:=by
 rw [nj]
 by_cases c:y=x
 ·rw [if_pos c]
  exact h
 ·rw [if_neg c]
  exact ⟨ju (by decide),ju (by decide)⟩
theorem NU {pins:List aF}{ar:List bB}(g:fU pins ar){b:bB}(hb:b∈ar)(y:Str):Sz 90 (mv (ib b) y).1∧Sz 90 (mv (ib b) y).2:=by
 obtain ⟨m1,m2,_⟩:=g.ends b hb
 have z1:=g.sz _ m1
 have z2:=g.sz _ m2
 unfold mv ib
 by_cases c1:y=b.one.nm
 ·rw [if_pos c1]
  exact ⟨(z2.1.sub z1.1).up (by decide),(z2.2.1.sub z1.2.1).up (by decide)⟩
 ·rw [if_neg c1]
  by_cases c2:y=b.other.nm
  ·rw [if_pos c2]
   exact ⟨(z1.1.sub z2.1).up (by decide),(z1.2.1.sub z2.2.1).up (by decide)⟩
  ·rw [if_neg c2]
   exact ⟨ju (by decide),ju (by decide)⟩
theorem iQ {pins:List aF}{ar:List bB}(g:fU pins ar):∀qs∈dI pins ar,qs.length=2*pins.length∧∀q∈qs,Sm 90 90 q:=fun qs hq=>by
 unfold dI at hq
 rcases afg.mp hq with h | h
 ·obtain ⟨p,hp,h⟩:=af0.mp h
  unfold oI at h
  obtain ⟨w,hw,rfl⟩:=aah.mp h
  have z:=(g.sz p hp).2.2 w hw
  exact ⟨fX _ _,xJ (NT ⟨z.1.up (by decide),z.2.up (by decide)⟩) pins⟩
 ·obtain ⟨b,hb,rfl⟩:=aah.mp h
  exact ⟨fX _ _,xJ (NU g hb) pins⟩
theorem uE {H:Hp}{T B:Nat}:∀{us:List V} {qs:List (Int×Int)},dj K H us qs→(∀q∈qs,Sm T B q)→Paired (gA K H) us (qs.map vl)
 | [],[],_,_=>.nil
 | u::us,q::qs,h,hs=>by
  refine .cons ?_ (uE ⟨by simpa using h.1,fun i u q e1 e2=>h.2 (i+1) u q (by simpa using e1) (by simpa using e2)⟩ fun r hr=>hs r (aa_ _ hr))
  have n:=h.2 0 u q rfl rfl
  show kO K H u (qr (vl q))
  rw [← Lx (hs q ae')]
  exact n
 | [],_::_,h,_=>(nomatch h.1)
 | _::_,[],h,_=>(nomatch h.1)
theorem R_ {m n:Nat}{q:Int×Int}{T B:Nat}(h:Sm T B q)(h1:T≤n)(h2:B≤n):Zb n (vl q):=by
 have e:=Lx h
 refine ⟨?_,?_⟩
 ·rw [← e]
  exact aaj h.top (afp (by decide) h1)
 ·rw [← e]
  exact aaj h.bot (afp (by decide) h2)
theorem cH {α:Type}{l:List α}(h:l.Nodup){i j:Nat}{x:α}(hi:l[i]? =some x)(hj:l[j]? =some x):i=j:=by
 obtain ⟨i1,i2⟩:=be.mp hi
 obtain ⟨j1,j2⟩:=be.mp hj
 exact (an3 h).mp (i2.trans j2.symm)
def dJ (c m t:Nat)(nd:List (Nat×List Int))(qs:List (Int×Int)):Prop:=qs.length=m∧qs[c]? =some (1,1)∧(∀i,i < t→∀x,nd[i]? =some x→qs[x.1]? =some (low (-(x.2.getD c 0)) (x.2.getD x.1 0)))∧∀j,j < m→j≠c→(∀i,i < t→∀x,nd[i]? =some x→x.1≠j)→qs[j]? =some (0,1)
theorem dJ.put {L c m t b:Nat}{os:List (List Int)}{nd:List (Nat×List Int)}{lv:List (List Int)}{qs:List (Int×Int)}{x:Nat×List Int}(R:Red os L m b nd lv)(F:dJ c m t nd qs)(hc:∀y∈nd,y.1≠c)(e:nd[t]? =some x):dJ c m (t+1) nd (qs.set x.1 (low (-(x.2.getD c 0)) (x.2.getD x.1 0))):=by
 have ql:=F.1
 have hx:=R.cols x (ir e)
 have xc:=hc x (ir e)
 have dis:∀i y,i < t→nd[i]? =some y→y.1≠x.1:=fun i y hi ey=>by
  have a:=List.pairwise_iff_getElem.mp R.asc i t (by rw [aaa];exact (be.mp ey).1) (by rw [aaa];exact (be.mp e).1) hi
  simp only [List.getElem_map] at a
  have e1:=(be.mp ey).2
  have e2:=(be.mp e).2
  rw [e1,e2] at a
  omega
 refine ⟨by simp [ql],by rw [afD,if_neg xc];exact F.2.1,fun i hi y ey=> ?_,fun j hj jc h=> ?_⟩
 ·rcases afK.mp hi with z | z
  ·rw [afD,if_neg (afk (dis i y z ey))]
   exact F.2.2.1 i z y ey
  ·subst z
   rw [e] at ey
   cases ey
   rw [afD,if_pos rfl,if_pos (by omega)]
 ·rw [afD,if_neg (h t (afF _) x e)]
  exact F.2.2.2 j hj jc (fun i hi y ey=>h i (af7 hi) y ey)
theorem Ln.ks {H H' :Hp}{v:V}{l:List Int}{d:Addr}{kvs:List (Key×V)}(h:Ln H v l)(r:Rd H d (.dK kvs))(k:aT d H H'):Ln H' v l:=by
 obtain ⟨p,e,z⟩:=h
 refine ⟨p,e,k p _ (fun y=> ?_) z⟩
 rw [y] at z
 rcases r with r | ⟨o,r⟩ <;> (rw [r] at z;cases z)
theorem kU.ks {H H' :Hp}{kvs Q9:List (Key×V)}{nd:List (Nat×List Int)}{d:Addr}(h:kU H kvs nd)(r:Rd H d (.dK Q9))(k:aT d H H'):kU H' kvs nd:=⟨h.1,fun i kv x e1 e2=>⟨(h.2 i kv x e1 e2).1,(h.2 i kv x e1 e2).2.ks r k⟩⟩
theorem aT.step {d:Addr}{H H' H2:Hp}(k:aT d H H')(s:av H' H2):aT d H H2:=fun b o n e=>s _ _ (k b o n e)
theorem aT.put {d x:Addr}{H H' :Hp}{o:HO}(k:aT d H H')(n:H x=none):aT d H (upd H' x o):=fun b o' nb e=>by
 rw [ao (fun z=>by rw [z,n] at e;cases e)]
 exact k b o' nb e
inductive rE (K:Frag)(vs:List V)(H:Hp)(Q:VK)(E_:XK):Prop where
 | mk (d:Addr) (c m L b:Nat) (kvs:List (Key×V)) (nd:List (Nat×List Int)) (os lv:List (List Int:_)) (_:vs=[.ref d,.int (c:Int),.int (m:Int)]) (_:Rd H d (.dK kvs)) (_:kU H kvs nd) (_:Red os L m b nd lv) (_:m≤L) (_:m≤900) (_:c < m) (_:(∀y∈nd,y.1≠c)) (_:∀(x:Addr) (us:List V) (qs:List (Int×Int)) (o:Obj) (H' :Hp),aT d H H' →H' d=some (.cf o (.dK kvs))→H x=none→H' x=some (.lst us)→dj K H' us qs→dJ c m nd.length nd qs→Q (.ref x) H'):rE K vs H Q E_
theorem d0:aD ["needed","column","many","numbers","place","line"] ["needed","column","many"] (ag cU):=sq
theorem oJ {aN aO:Addr}(hN:∀H:Hp,bK K H aN [.int 0,.int 1])(NV:mg "NOUGHT"=some (.ref aN))(hO:∀H:Hp,bK K H aO [.int 1,.int 1])(NW:mg "ONE"=some (.ref aO))(D:Def K mg "spare_list" cU ["needed","column","many"])(NG:Fn P w K mg base (a8 P w) 33 "lowest_terms" ["top","bottom"] g_):Fn P w K mg base (a8 P w) 34 "spare_list" ["needed","column","many"] (rE K):=by
 refine D.ok d0 (fun vs H Q E h=> ?_) (fun f bC A outer s H vs Q E hr h=> ?_)
 ·obtain ⟨d,c,m,L,b,kvs,nd,os,lv,rfl,_⟩:=h
  rfl
 obtain ⟨d,c,m,L,b,kvs,nd,os,lv,rfl,rd,WL,R,hmL,hm,hc,hnc,q⟩:=h
 refine ⟨_,(ae (aH (i:=3) d0.nd rfl (ab_ rfl) (aL MZ (cu (au (iZ (v:=.ref aN) rfl NV rfl) aa)) (pv 2)))
  (ae (qE (iZ (v:=.ref aO) rfl NW rfl) (u6 (pv 3) (pv 1) set_list))
  (ae (bF PassesOwn.never rfl (yM (pv 0)) (dO rfl (aX (aE (i:=4) d0.nd rfl (ab_ rfl)) (aX (aE (i:=5) d0.nd rfl (ab_ rfl)) cQ))) (aj (qE (aC NG hr.mo pX (au (K2 BQ (bD bu (pv 5) (pv 1) (fun _ _=>rfl))) (au (bD bu (pv 5) (pv 4) (fun _ _=>rfl)) aa))) (u6 (pv 3) (pv 4) set_list))))
  (aj (aG (pv 3)))))),?_⟩
 refine ⟨(by show 1≤sizeLine;decide),fun p3 n3=> ?_⟩
 have s3:=aI n3 (.lst [V.ref aN])
 refine ⟨_,rfl,p3,_,_,rfl,rfl,ak,by omega,by omega,aaj (show 1*(m:Int).toNat≤1000 by omega) (by decide),fun x n4=> ?_⟩
 have er:(afh (m:Int).toNat [V.ref aN]).flatten=afh m (V.ref aN):=by simp
 rw [er]
 have s4:=aI n4 (.lst (afh m (V.ref aN)))
 have nx:H x=none:=s3.free n4
 have xd:d≠x:=by
  rcases rd with r | ⟨o,r⟩
  ·exact aq r nx
  ·exact aq r nx
 refine ⟨_,rfl,_,rfl,x,_,_,c,rfl,rfl,ak,by rw [am2];exact vK hc,?_⟩
 have s5:av H (upd (upd (upd H p3 (.lst [V.ref aN])) x (.lst (afh m (V.ref aN)))) x (.lst ((afh m (V.ref aN)).set c (V.ref aO)))):=jn (s3.trans s4) nx
 have HN:Rd (upd (upd (upd H p3 (.lst [V.ref aN])) x (.lst (afh m (V.ref aN)))) x (.lst ((afh m (V.ref aN)).set c (V.ref aO)))) d (.dK kvs):=by
  rcases rd with r | ⟨o,r⟩
  ·exact .inl (s5 _ _ r)
  ·exact .inr ⟨o,s5 _ _ r⟩
 have x5:upd (upd (upd H p3 (.lst [V.ref aN])) x (.lst (afh m (V.ref aN)))) x (.lst ((afh m (V.ref aN)).set c (V.ref aO))) x=some (.lst ((afh m (V.ref aN)).set c (V.ref aO))):=ak
 generalize upd (upd (upd H p3 (.lst [V.ref aN])) x (.lst (afh m (V.ref aN)))) x (.lst ((afh m (V.ref aN)).set c (V.ref aO)))=H5 at*
 have J5:=WL.same s5
 refine ⟨_,rfl,d,kvs,rfl,HN,fun o=> ?_⟩
 have k5:aT d H (upd H5 d (.cf o (.dK kvs))):=fun b o' n e=>by rw [ao n];exact s5 _ _ e
 have k55:aT d H5 (upd H5 d (.cf o (.dK kvs))):=fun b o' n e=>by rw [ao n];exact e
 refine g6 (d:=d) (o:=o) (kvs:=kvs) (fun t σ H' =>∃(o4 o5:Option V) (Lz:List V) (qs:List (Int×Int)),σ=[some (.ref d),some (.int (c:Int)),some (.int (m:Int)),some (.ref x),o4,o5]∧aT d H H' ∧H' d=some (.cf o (.dK kvs))∧H' x=some (.lst Lz)∧dj K H' Lz qs∧kU H' kvs nd∧dJ c m t nd qs)
  ⟨none,none,(afh m (V.ref aN)).set c (V.ref aO),(afh m (0,1)).set c (1,1),rfl,k5,ak,by rw [ao (afk xd)];exact x5,dj.set ⟨by simp,fun i u q' e1 e2=> ?_⟩ ⟨aO,rfl,hO _⟩,J5.ks HN k55,⟨by simp,by rw [afD,if_pos rfl,if_pos (by simpa using hc)],fun i hi=>absurd hi (afW _),fun j hj jc _=>by rw [afD,if_neg (afk jc),agi,if_pos hj]⟩⟩ (fun t σ H' _ h=>by
   obtain ⟨_,_,_,_,_,_,h,_⟩:=h
   exact h) ?_ ?_
 ·rw [agi] at e1 e2
  by_cases z:i < m
  ·rw [if_pos z] at e1 e2
   cases e1
   cases e2
   exact ⟨aN,rfl,hN _⟩
  ·rw [if_neg z] at e1
   cases e1
 ·rintro t k v σ H6 p7 uw ⟨o4,o5,Lz,qs,rfl,k6,J0,Sa,O9,Sb,F⟩ n7
  have ht:t < kvs.length:=(be.mp uw).1
  have hl6:=Sb.1
  obtain ⟨y,ey⟩:∃y,nd[t]? =some y:=⟨_,gE (by omega)⟩
  obtain ⟨k1,k2⟩:=Sb.2 t _ y uw ey
  have k1' :k=.inl (y.1:Int):=k1
  subst k1'
  obtain ⟨b',eb,gC⟩:=k2
  have HM :v=.ref b' :=eb
  subst HM
  have Y2:=ir ey
  have hyl:=R.oH y Y2
  have hyc:=R.cols y Y2
  have s7:=aI n7 (.tup [kV (.inl (y.1:Int)),.ref b'])
  have Sd:=s7 _ _ gC
  refine ⟨p7,_,rfl,bK.of ak,rfl,_,_,rfl,_,_,rfl,rfl,?_⟩
  refine ⟨_,rfl,_,rfl,b',_,_,_,rfl,rfl,ba.of Sd,uq (by omega),_,rfl,_,rfl,_,rfl,b',_,_,_,rfl,rfl,ba.of Sd,uq (by omega),?_⟩
  refine ⟨_,_,rfl,R.here y Y2,fun p8 H8 s8 e8=> ?_⟩
  have J1:=s7.trans s8
  have hx8:=J1 _ _ Sa
  have l2:=O9.1
  have dx8:=J1 _ _ J0
  refine ⟨_,rfl,_,rfl,x,Lz,_,y.1,rfl,rfl,hx8,vK (by rw [l2,F.1];exact hyc),?_⟩
  refine ⟨_,_,Lz.set y.1 (.ref p8),qs.set y.1 (low (-(y.2.getD c 0)) (y.2.getD y.1 0)),rfl,aT.put (aT.step k6 J1) nx,by rw [ao xd];exact dx8,ak,?_,?_,F.put R hnc ey⟩
  ·have base:dj K H8 (Lz.set y.1 (.ref p8)) (qs.set y.1 (low (-(y.2.getD c 0)) (y.2.getD y.1 0))):=(O9.same J1).set ⟨p8,rfl,bK.of e8⟩
   refine ⟨base.1,fun i u q' e1 e2=> ?_⟩
   obtain ⟨p9,e9,h9⟩:=base.2 i u q' e1 e2
   exact ⟨p9,e9,bK.putL h9 hx8⟩
  ·have base:=Sb.same J1
   refine ⟨base.1,fun i kv y' e1 e2=>⟨(base.2 i kv y' e1 e2).1,?_⟩⟩
   obtain ⟨p9,e9,h9⟩:=(WL.2 i kv y' e1 e2).2
   refine ⟨p9,e9,?_⟩
   rw [ao (fun z=>by rw [z,nx] at h9;cases h9)]
   obtain ⟨p10,e10,h10⟩:=(base.2 i kv y' e1 e2).2
   rw [e9] at e10
   cases e10
   exact h10
 ·rintro σ H6 ⟨o4,o5,Lz,qs,rfl,k6,J0,Sa,O9,Sb,F⟩
  have hl6:=Sb.1
  rw [hl6] at F
  exact ⟨_,rfl,q x Lz qs o H6 k6 J0 nx Sa O9 F⟩
theorem bK.ks {K:Frag}{H H' :Hp}{a d:Addr}{xs:List V}{kvs:List (Key×V)}(h:bK K H a xs)(r:Rd H d (.dK kvs))(k:aT d H H'):bK K H' a xs:=by
 have ne:∀{u:HO},H a=some u→(∀o,u≠.cf o (.dK kvs))→u≠.dK kvs→a≠d:=fun {u} e n1 n2 z=>by
  rw [z] at e
  rcases r with r | ⟨o,r⟩
  ·rw [r] at e
   cases e
   exact n2 rfl
  ·rw [r] at e
   cases e
   exact n1 o rfl
 rcases h with (h | ⟨o,h⟩) | h
 ·exact .inl (.inl (k _ _ (ne h (fun o z=>nomatch z) (fun z=>nomatch z)) h))
 ·exact .inl (.inr ⟨o,k _ _ (ne h (fun o z=>by cases z) (fun z=>nomatch z)) h⟩)
 ·exact .inr h
theorem dj.ks {K:Frag}{H H' :Hp}{us:List V}{qs:List (Int×Int)}{d:Addr}{kvs:List (Key×V)}(h:dj K H us qs)(r:Rd H d (.dK kvs))(k:aT d H H'):dj K H' us qs:=⟨h.1,fun i u q e1 e2=>by
 obtain ⟨p,e,z⟩:=h.2 i u q e1 e2
 exact ⟨p,e,bK.ks z r k⟩⟩
def EZ (K:Frag)(H:Hp)(kvs:List (Key×V))(ss:List (Nat×List (Int×Int))):Prop:=kvs.length=ss.length∧∀(i:Nat) (kv:Key×V) (x:Nat×List (Int×Int)),kvs[i]? =some kv→ss[i]? =some x→kv.1=.inl (x.1:Int)∧∃p us,kv.2=.ref p∧H p=some (.lst us)∧dj K H us x.2
theorem EZ.ks {H H' :Hp}{kvs Q9:List (Key×V)}{ss:List (Nat×List (Int×Int))}{d:Addr}(h:EZ K H kvs ss)(r:Rd H d (.dK Q9))(k:aT d H H'):EZ K H' kvs ss:=⟨h.1,fun i kv x e1 e2=>by
 obtain ⟨a,p,us,b,c,d'⟩:=h.2 i kv x e1 e2
 refine ⟨a,p,us,b,k _ _ (fun z=> ?_) c,dj.ks d' r k⟩
 rw [z] at c
 rcases r with r | ⟨o,r⟩ <;> (rw [r] at c;cases c)⟩
theorem EZ.snoc {H:Hp}{kvs:List (Key×V)}{ss:List (Nat×List (Int×Int))}(h:EZ K H kvs ss){c:Nat}{p:Addr}{us:List V}{qs:List (Int×Int)}(hp:H p=some (.lst us))(hn:dj K H us qs):EZ K H (kvs++[(.inl (c:Int),.ref p)]) (ss++[(c,qs)]):=by
 have hl:=h.1
 refine ⟨by simp [hl],fun j kv x e1 e2=> ?_⟩
 by_cases z:j < kvs.length
 ·rw [afd z] at e1
  rw [afd (by omega)] at e2
  exact h.2 j kv x e1 e2
 ·rw [afm (by omega)] at e1 e2
  rw [← hl] at e2
  by_cases y:j - kvs.length=0
  ·rw [y] at e1 e2
   cases e1
   cases e2
   exact ⟨rfl,p,us,rfl,hp,hn⟩
  ·rw [aal (by simp;omega)] at e1
   cases e1
theorem EZ.keys {H:Hp}{kvs:List (Key×V)}{ss:List (Nat×List (Int×Int))}(h:EZ K H kvs ss):kvs.map (·.1)=ss.map (fun x=>(ana (x.1:Int):Key)):=by
 refine afI fun i=> ?_
 have hl:=h.1
 rw [Wp,Wp]
 by_cases hi:i < ss.length
 ·have e:ss[i]? =some ss[i]:=gE hi
  have e2:kvs[i]? =some (kvs[i]'(by omega)):=gE (by omega)
  rw [e,e2]
  simp only [af8]
  rw [(h.2 i _ _ e2 e).1]
 ·rw [aal (by omega),aal (by omega)]
  rfl
def Y3 (T B m:Nat)(qs:List (Int×Int))(w:Wl):Prop:=tH w.1 qs w.2.1∧0 < w.2.1∧w.2.1.natAbs≤2^(B*m)∧∀t∈w.1,t.natAbs≤2^(T+B*m)
def uF (T B m:Nat)(fq:List (List (Int×Int)))(os:List (List Int)):Prop:=os.length=fq.length∧∀(i:Nat) (o:List Int) (qs:List (Int×Int)),os[i]? =some o→fq[i]? =some qs→∃b:Int,0 < b∧tH o qs b
def free (nd:List (Nat×List Int))(j:Nat):Bool:=nd.all fun y=>decide (y.1≠j)
theorem fj {nd:List (Nat×List Int)}{j:Nat}:free nd j=true ↔ ∀y∈nd,y.1≠j:=by
 unfold free
 rw [an8]
 exact ⟨fun h y hy=>of_decide_eq_true (h y hy),fun h y hy=>decide_eq_true (h y hy)⟩
inductive nq (K:Frag)(vs:List V)(H:Hp)(Q:VK)(E_:XK):Prop where
 | mk (r:Addr) (m:Nat) (ls:List Addr) (dG:List (List V:_)) (fq:List (List (Int×Int))) (T B Z:Nat) (_:vs=[.ref r,.int (m:Int)]) (_:EM H r ls dG) (_:iN K H dG fq) (_:Shape T B m fq) (_:m≤100) (_:fq.length≤100) (_:T≤20000) (_:B*m≤8000) (_:B≤8000) (_:bb (T+B*m) (min m fq.length)≤Z) (_:Z≤29000000) (_:∀(sd:Addr) (kvs:List (Key×V)) (ss:List (Nat×List (Int×Int))) (os lv:List (List Int)) (nd:List (Nat×List Int)) (H' :Hp),av H H' →H sd=none→H' sd=some (.dK kvs)→EZ K H' kvs ss→uF T B m fq os→Red os m m Z nd lv→ss.map (·.1)=(afz m).filter (free nd)→(∀x∈ss,dJ x.1 m nd.length nd x.2)→Q (.ref sd) H'):nq K vs H Q E_
theorem cX:aD ["rows","many","needed","spare","column"] ["rows","many"] (ag bY):=sq
theorem jZ (D:Def K mg "spare_columns" bY ["rows","many"])(bQ:mg "range"=none)(Y4:Fn P w K mg base (a8 P w) 2 "whole_row" ["row"] (NC K))(Y5:Fn P w K mg base (a8 P w) 35 "reduced" ["lines","many"] (jW K))(rF:Fn P w K mg base (a8 P w) 34 "spare_list" ["needed","column","many"] (rE K)):Fn P w K mg base (a8 P w) 36 "spare_columns" ["rows","many"] (nq K):=by
 refine D.ok cX (fun vs H Q E h=> ?_) (fun f bC A outer s H vs Q E hr h=> ?_)
 ·obtain ⟨r,m,ls,dG,fq,T,B,Z,rfl,_⟩:=h
  rfl
 obtain ⟨r,m,ls,dG,fq,T,B,Z,rfl,M,NN,sh,hm,hn,hT,hB,hB1,hZ,hZ1,q⟩:=h
 refine ⟨_,(ae (aH (i:=2) cX.nd rfl (ab_ rfl) (aK (aC Y5 hr.mo pX (au (dX (tn:=["row"]) (fr:=[]) (caps:=[]) rfl ⟨rfl,by decide+kernel,rfl,by decide+kernel,by decide+kernel,rfl,trivial,trivial⟩ (bw (pv 0)) (fun _ _ _ _=>(aE (i:=0) (show (["row"]:List Str).Nodup from by decide+kernel) rfl (ab_ rfl))) (fun _ _ _ _=>fb) (fun _ _ _ _=>(bD (f' (K:=K) rfl) (aC Y4 hr.mo (tE (by first | assumption | exact a8.qS) rfl) (au (pv 0) aa)) ah (fun _ _=>rfl)))) (au (pv 1) aa)))))
  (ae (aH (i:=3) cX.nd rfl (ab_ rfl) fT)
  (ae (bF PassesOwn.never rfl (dP rfl bQ (au (pv 1) aa)) (aE (i:=4) cX.nd rfl (ab_ rfl)) (aj (bf (f9 (fS (bT hr) (pv 4) (pv 2))) (aj (fo (bT hr) (pv 3) (pv 4) (aC rF hr.mo pX (au (pv 2) (au (pv 4) (au (pv 1) aa)))) rfl)) aJ)))
  (aj (aG (pv 3)))))),?_⟩
 have l1:=M.2.1
 have l2:=NN.1
 refine ⟨_,rfl,r,rfl,⟨_,ba.of M.1⟩,fun D1 n1=> ?_⟩
 refine mH (cap:=[]) (K:=K) (a:=r) (xs:=ls.map V.ref) (fun i v H=>∃w:Wl,v=.ref w.2.2.1∧w.2.2.1≠D1∧H w.2.2.1=some (.lst (w.1.map V.int))∧∀qs,fq[i]? =some qs→Y3 T B m qs w) n1 (by rw [aaa];exact afe (show ls.length≤1000 by omega) (by decide)) (fun H2 s2=>ba.of (s2 _ _ M.1)) ?_ ?_ ?_
 ·rintro i v H2 H3 ys hD ks ⟨w,e1,e2,e3,e4⟩
  exact ⟨w,e1,e2,ks _ _ e2 e3,e4⟩
 ·rintro i x H2 RR ex s2 ⟨ys0,hD0⟩ kk
  rw [Wp] at ex
  obtain ⟨l,el,rfl⟩:=ae9.mp ex
  have hi:i < ls.length:=(be.mp el).1
  obtain ⟨qs,eq⟩:∃qs,fq[i]? =some qs:=⟨_,gE (by omega)⟩
  obtain ⟨vs,ev⟩:∃vs,dG[i]? =some vs:=⟨_,gE (by omega)⟩
  have hl:=M.2.2 i l vs el ev
  have hq:=NN.2 i vs qs ev eq
  obtain ⟨lq,sq⟩:=sh qs (ir eq)
  refine ⟨_,rfl,l,qs,T,B,rfl,⟨_,ba.of (s2 _ _ hl),hq.same s2⟩,sq,hT,by rw [lq];omega,hB1,by omega,fun p3 l3' ts b H3 s3 nl hp3 hl3 hb hbs wh hts=> ?_⟩
  rw [lq] at hbs hts
  refine ⟨p3,_,_,_,rfl,rfl,bK.of hp3,iy,kk _ _ s3 ⟨(ts,b,l3',p3),rfl,fun z=> ?_,hl3,fun QW e1=> ?_⟩⟩
  ·rw [show l3' =D1 from z,hD0] at nl
   cases nl
  ·rw [eq] at e1
   cases e1
   exact ⟨wh,hb,hbs,hts⟩
 intro zs H2 hz jS s2 Y6
 rw [aaa] at hz
 obtain ⟨ws,lw,hw⟩:=jV (P:=fun i v (w:Wl)=>v=.ref w.2.2.1∧w.2.2.1≠D1∧H2 w.2.2.1=some (.lst (w.1.map V.int))∧∀qs,fq[i]? =some qs→Y3 T B m qs w) zs jS
 have wp:∀(i:Nat) (w:Wl),ws[i]? =some w→∃v qs,zs[i]? =some v∧fq[i]? =some qs∧v=.ref w.2.2.1∧H2 w.2.2.1=some (.lst (w.1.map V.int))∧Y3 T B m qs w:=fun i w e=>by
  have hi:i < ws.length:=(be.mp e).1
  obtain ⟨v,ev⟩:∃v,zs[i]? =some v:=⟨_,gE (by omega)⟩
  obtain ⟨qs,eq⟩:∃qs,fq[i]? =some qs:=⟨_,gE (by omega)⟩
  obtain ⟨h1,_,h3,h4⟩:=hw i v w ev e
  exact ⟨v,qs,ev,eq,h1,h3,h4 qs eq⟩
 have hLl:qk H2 zs (ws.map (·.1)):=⟨by simp [lw],fun i u l e1 e2=>by
  rw [Wp] at e2
  obtain ⟨w,ew,rfl⟩:=ae9.mp e2
  obtain ⟨v,qs,ev,_,e,h,_⟩:=wp i w ew
  rw [e1] at ev
  cases ev
  exact ⟨_,e,h⟩⟩
 have Y7:∀l∈ws.map (·.1),l.length=m:=fun l hl=>by
  obtain ⟨w,O_,rfl⟩:=aah.mp hl
  obtain ⟨i,e⟩:=aak O_
  obtain ⟨v,qs,_,eq,_,_,wh,_⟩:=wp i w e
  rw [wh.1,(sh qs (ir eq)).1]
 have wbd:∀l∈ws.map (·.1),Bd (T+B*m) l:=fun l hl=>by
  obtain ⟨w,O_,rfl⟩:=aah.mp hl
  obtain ⟨i,e⟩:=aak O_
  obtain ⟨v,qs,_,eq,_,_,_,_,_,h⟩:=wp i w e
  exact Bd.of h
 have Y8:(ws.map (·.1)).length=fq.length:=by rw [aaa];omega
 have Y9:uF T B m fq (ws.map (·.1)):=⟨Y8,fun i o qs e1 e2=>by
  rw [Wp] at e1
  obtain ⟨w,ew,rfl⟩:=ae9.mp e1
  obtain ⟨v,QW,_,eq,_,_,wh,wb,_⟩:=wp i w ew
  rw [e2] at eq
  cases eq
  exact ⟨_,wb,wh⟩⟩
 refine ⟨_,rfl,D1,zs,ws.map (·.1),m,m,T+B*m,rfl,ba.of Y6,hLl,Y7,aai _,by omega,by omega,wbd,by rw [Y8];omega,fun p d a' kvs iz nd lv H3 s3 JV np hp hd O4 WL hL1 R=> ?_⟩
 rw [Y8] at R
 have RZ:=R.up hZ
 refine ⟨p,_,_,_,rfl,rfl,bK.of hp,iy,?_⟩
 refine fun sd Pa=> ?_
 have t4:=aI Pa (.dK [])
 have BD:=(s2.trans s3).trans t4
 have Hd:H d=none:=s2.free JV
 have Pb:H sd=none:=(s2.trans s3).free Pa
 have ds:d≠sd:=aq hd Pa
 refine ⟨_,rfl,_,rfl,by omega,by omega,?_⟩
 refine fJ (lo:=0) (n:=m) (fun i σ H' =>∃(o4:Option V) (rG:List (Key×V)) (ss:List (Nat×List (Int×Int))),σ=[some (.ref r),some (.int (m:Int)),some (.ref d),some (.ref sd),o4]∧av H H' ∧Rd H' d (.dK kvs)∧H' sd=some (.dK rG)∧kU H' kvs nd∧EZ K H' rG ss∧ss.map (·.1)=(afz i).filter (free nd)∧∀x∈ss,dJ x.1 m nd.length nd x.2)
  ⟨none,[],[],rfl,BD,.inl (t4 _ _ hd),ak,WL.same t4,⟨rfl,fun i kv x e=>by simp at e⟩,by simp,fun x h=>nomatch h⟩ ?_ ?_
 ·rintro i σ H5 hi ⟨o4,rG,ss,rfl,s5,HN,J7,J5,Pc,Pd,WM⟩
  have nk:(kvs.map (·.1)).Nodup:=by
   rw [J5.keys]
   exact keys_nodup R.asc
  by_cases fr:free nd i=true
  ·have WN :=fj.mp fr
   have P8:bO kvs (.inl ((0:Int)+i))=none:=lO (fun z=>by
    rw [J5.keys] at z
    obtain ⟨x',u9,e⟩:=aah.mp z
    have e1:(x'.1:Int)=0+i:=aj_ e
    exact WN x' u9 (by omega))
   refine ⟨_,rfl,_,rfl,d,none,rfl,.inl ⟨kvs,.inl ((0:Int)+i),HN,rfl,P8.symm⟩,_,rfl,?_⟩
   refine a_ (fun _=> ?_) (fun c=>absurd rfl c)
   refine ⟨_,rfl,_,rfl,_,rfl,d,i,m,m,Z,kvs,nd,ws.map (·.1),lv,by rw [afU];rfl,HN,J5,RZ,aai _,by omega,hi,WN,fun x us qs o H6 k6 J0 nx Sa O9 F=> ?_⟩
   have NX:H6 sd=some (.dK rG):=k6 _ _ (afk ds) J7
   have lsk:=Pc.1
   have YZ:ss.length≤m:=by
    have:=congrArg afH Pd
    rw [aaa] at this
    have h2:=afX (free nd) (afz i)
    rw [agy] at h2
    omega
   refine ⟨_,rfl,_,rfl,sd,_,rfl,iL.k (k:=.inl ((0:Int)+i)) NX (afe (show rG.length≤1000 by omega) (by decide)),?_⟩
   have Y_:bO rG (.inl ((0:Int)+i))=none:=lO (fun z=>by
    rw [Pc.keys] at z
    obtain ⟨x',u9,e⟩:=aah.mp z
    have e1:(x'.1:Int)=0+i:=aj_ e
    have:x'.1∈(afz i).filter (free nd):=by rw [← Pd];exact aah.mpr ⟨x',u9,rfl⟩
    have:=afJ.mp (afG.mp this).1
    omega)
   rw [dE _ Y_,afU]
   have s6:av H H6:=fun b o' e=>k6 _ _ (aq e Hd) (s5 _ _ e)
   have ksd:aT sd H6 (upd H6 sd (.dK (rG++[(.inl (i:Int),.ref x)]))):=fun b o' n e=>by rw [ao n];exact e
   refine ⟨_,_,ss++[(i,qs)],rfl,jn s6 Pb,.inr ⟨o,by rw [ao ds];exact J0⟩,ak,(J5.ks HN k6).ks (.inl NX) ksd,((Pc.ks HN k6).snoc Sa O9).ks (.inl NX) ksd,?_,fun x' u9 => ?_⟩
   ·rw [afq,Pd,am_,agn]
    simp [fr]
   ·rcases afg.mp u9 with z | z
    ·exact WM x' z
    ·rw [ae_.mp z]
     exact F
  ·have nf:∃y∈nd,y.1=i:=by
    apply afw
    intro z
    exact fr (fj.mpr fun y hy e=>z ⟨y,hy,e⟩)
   obtain ⟨y,hy,ey⟩:=nf
   obtain ⟨t,et⟩:=aak hy
   obtain ⟨v,ev,_⟩:=J5.at et
   have YJ:=jo nk ev
   refine ⟨_,rfl,_,rfl,d,some v,rfl,.inl ⟨kvs,.inl ((0:Int)+i),HN,rfl,by rw [afU, ← ey];exact YJ.symm⟩,_,rfl,?_⟩
   refine a_ (fun c=>nomatch c) (fun _=> ?_)
   refine ⟨_,_,ss,rfl,s5,HN,J7,J5,Pc,?_,WM⟩
   rw [Pd,am_,agn]
   simp [fr]
 ·rintro σ H5 ⟨o4,rG,ss,rfl,s5,HN,J7,J5,Pc,Pd,WM⟩
  exact ⟨_,rfl,q sd rG ss _ lv nd H5 s5 Pb J7 Pc Y9 RZ Pd WM⟩
def fsum (l:List Nat)(f:Nat→Rat):Rat:=(l.map f).sum
theorem bZ (a:Nat)(l:List Nat)(f:Nat→Rat):fsum (a::l) f=f a+fsum l f:=by simp [fsum]
theorem kD (p:Nat→Bool)(f:Nat→Rat):∀l:List Nat,fsum l f=fsum (l.filter p) f+fsum (l.filter fun i=> !p i) f
 | []=>by simp [fsum];grind
 | a::l=>by
  have ih:=kD p f l
  cases h:p a
  ·rw [afP (by simp [h]),afO (by simp [h]),bZ,bZ,ih]
   grind
  ·rw [afO h,afP (by simp [h]),bZ,bZ,ih]
   grind
theorem qt (f:Nat→Rat):∀l:List Nat,(∀i∈l,f i=0)→fsum l f=0
 | [],_=>rfl
 | a::l,h=>by
  rw [bZ,h a ae',qt f l (fun i hi=>h i (aa_ _ hi))]
  grind
theorem nu (f:Nat→Rat)(j:Nat):∀l:List Nat,l.Nodup→j∈l→(∀i∈l,i≠j→f i=0)→fsum l f=f j
 | [],_,h,_=>nomatch h
 | a::l,n,h,z=>by
  rw [afs] at n
  rw [bZ]
  by_cases e:a=j
  ·subst e
   rw [qt f l (fun i hi=>z i (aa_ _ hi) (fun y=>n.1 (by rw [← y];exact hi)))]
   grind
  ·have hj:j∈l:=by
    rcases afo.mp h with y | y
    ·exact absurd y.symm e
    ·exact y
   rw [z a ae' e,nu f j l n.2 hj (fun i hi=>z i (aa_ _ hi))]
   grind
theorem nv {f g:Nat→Rat}:∀l:List Nat,(∀i∈l,f i=g i)→fsum l f=fsum l g
 | [],_=>rfl
 | a::l,h=>by rw [bZ,bZ,h a ae',nv l (fun i hi=>h i (aa_ _ hi))]
theorem uG (c:Rat)(f:Nat→Rat):∀l:List Nat,fsum l (fun i=>c*f i)=c*fsum l f
 | []=>by simp [fsum]
 | a::l=>by
  rw [bZ,bZ,uG c f l]
  grind
theorem FA (g:Nat→Nat)(f:Nat→Rat)(l:List Nat):fsum (l.map g) f=fsum l (fun i=>f (g i)):=by
 unfold fsum
 rw [afj]
 rfl
theorem nA:∀(n:Nat) (f:Nat→Rat),sumTo n f=fsum (afz n) f
 | 0,_=>rfl
 | n+1,f=>by
  rw [amY,bZ,FA, ← nA n]
  rfl
theorem nE :vl (0,1)=0:=by
 unfold vl
 simp
 grind
theorem vQ :vl (1,1)=1:=by
 unfold vl
 simp
 grind
theorem zZ {os lv:List (List Int)}{m b j:Nat}{nd:List (Nat×List Int)}{ss:List (Nat×List (Int×Int))}{D:Nat→Rat}(R:Red os m m b nd lv)(hc:ss.map (·.1)=(afz m).filter (free nd))(hF:∀x∈ss,dJ x.1 m nd.length nd x.2)(hz:∀o∈os,ev o D=0)(hj:j < m){g:Nat→Rat}(hg:∀x∈ss,∀q,x.2[j]? =some q→g x.1=vl q):fsum (ss.map (·.1)) (fun c=>D c*g c)=D j:=by
 have sol:=((R.sol D).mpr hz).1
 have mem:∀c,c∈ss.map (·.1)→c < m∧(∀y∈nd,y.1≠c)∧∃x∈ss,x.1=c:=fun c h=>by
  have h' :=h
  rw [hc] at h'
  obtain ⟨h1,h2⟩:=afG.mp h'
  obtain ⟨x,hx,e⟩:=aah.mp h
  exact ⟨afJ.mp h1,fj.mp h2,x,hx,e⟩
 have nodup:(ss.map (·.1)).Nodup:=by
  rw [hc]
  exact agC.filter _
 by_cases fr:free nd j=true
 ·have WN :=fj.mp fr
  have jm:j∈ss.map (·.1):=by
   rw [hc]
   exact afG.mpr ⟨afJ.mpr hj,fr⟩
  rw [nu _ j _ nodup jm ?_]
  ·obtain ⟨_,_,x,hx,e⟩:=mem j jm
   have f1:=(hF x hx).2.1
   rw [e] at f1
   have:=hg x hx _ f1
   rw [e,vQ] at this
   rw [this]
   grind
  ·intro c Y' nc
   obtain ⟨_,_,x,hx,e⟩:=mem c Y'
   have f0:=(hF x hx).2.2.2 j hj (by rw [e];exact afk nc) (fun i _ y ey=>WN y (ir ey))
   have:=hg x hx _ f0
   rw [e,nE] at this
   rw [this]
   grind
 ·have nf:∃y∈nd,y.1=j:=by
   apply afw
   intro z
   exact fr (fj.mpr fun y hy e=>z ⟨y,hy,e⟩)
  obtain ⟨y,hy,ey⟩:=nf
  obtain ⟨t,et⟩:=aak hy
  have ht:t < nd.length:=(be.mp et).1
  have e0:=sol y hy
  rw [mR m y.2 D (by rw [R.oH y hy];exact aai _),nA,kD (free nd), ← hc] at e0
  have hh:=R.here y hy
  rw [ey] at hh
  have hh' :=cw hh
  have e1:fsum ((afz m).filter fun i=> !free nd i) (fun i=>((y.2.getD i 0:Int):Rat)*D i)=((y.2.getD j 0:Int):Rat)*D j:=by
   refine nu _ j _ (agC.filter _) (afG.mpr ⟨afJ.mpr hj,by simp [fr]⟩) ?_
   intro i hi ni
   obtain ⟨h1,h2⟩:=afG.mp hi
   have nfi:∃u∈nd,u.1=i:=by
    apply afw
    intro z
    have:free nd i=true:=fj.mpr fun u hu e=>z ⟨u,hu,e⟩
    rw [this] at h2
    cases h2
   obtain ⟨u,hu,eu⟩:=nfi
   rw [← eu,R.off y hy u hu (by rw [ey,eu];exact afk ni)]
   simp
  rw [e1] at e0
  have e2:fsum (ss.map (·.1)) (fun c=>D c*g c)=(-1 / ((y.2.getD j 0:Int):Rat))*fsum (ss.map (·.1)) (fun i=>((y.2.getD i 0:Int):Rat)*D i):=by
   rw [← uG]
   refine nv _ fun c Y'=> ?_
   obtain ⟨_,_,x,hx,e⟩:=mem c Y'
   have f2:=(hF x hx).2.2.1 t ht y et
   rw [ey] at f2
   have k:=hg x hx _ f2
   rw [e,qV hh] at k
   rw [k]
   push_cast
   grind
  rw [e2]
  grind
structure NY (nd:List (Nat×List Int))(c:Nat)(z:Nat→Rat):Prop where
 one:z c=1
 at' :∀y∈nd,z y.1=(-(y.2.getD c 0):Int) / ((y.2.getD y.1 0:Int):Rat)
 no:∀j,j≠c→(∀y∈nd,y.1≠j)→z j=0
theorem NY.sol {os lv:List (List Int)}{L m b c:Nat}{nd:List (Nat×List Int)}{z:Nat→Rat}(R:Red os L m b nd lv)(hc:c < m)(h:NY nd c z)(fr:∀y∈nd,y.1≠c):∀o∈os,ev o z=0:=by
 refine (R.sol z).mp ⟨fun x hx=> ?_,fun l hl=> ?_⟩
 ·have e:z=fun j=>(if j=c then 1 else 0)+(if j=c then 0 else z j):=by
   funext j
   by_cases q:j=c
   ·rw [if_pos q,if_pos q,q,h.one]
    grind
   ·rw [if_neg q,if_neg q]
    grind
  rw [e,DN,vt x.2 (fun j=>if j=c then 1 else 0) c (fun j hj=>by rw [if_neg hj];grind),vt x.2 (fun j=>if j=c then 0 else z j) x.1 (fun j hj=> ?_)]
  ·have hh:=cw (R.here x hx)
   rw [if_pos rfl,if_neg (fr x hx),h.at' x hx]
   push_cast
   grind
  ·by_cases q:j=c
   ·rw [if_pos q]
    grind
   ·rw [if_neg q]
    by_cases y:∃u∈nd,u.1=j
    ·obtain ⟨u,hu,rfl⟩:=y
     rw [R.off x hx u hu (afk hj)]
     simp
    ·rw [h.no j q (fun u hu e=>y ⟨u,hu,e⟩)]
     grind
 ·refine qZ l z fun j=> ?_
  by_cases hj:j < m
  ·rw [R.zero l hl j hj]
   simp
  ·rw [h.no j (by omega) (fun y hy e=>by have:=R.cols y hy;omega)]
   grind
theorem NY.behind {os lv:List (List Int)}{L m b c:Nat}{nd:List (Nat×List Int)}{z:Nat→Rat}(R:Red os L m b nd lv)(h:NY nd c z){j:Nat}(hj:c < j):z j=0:=by
 by_cases q:∃y∈nd,y.1=j
 ·obtain ⟨y,hy,rfl⟩:=q
  rw [h.at' y hy,R.low y hy c hj]
  simp [Rat.div_def]
 ·exact h.no j (by omega) (fun y hy e=>q ⟨y,hy,e⟩)
theorem uH:∀(m:Nat) (f g:Nat→Rat),(∀j,j < m→f j=g j)→Ty.sumTo m f=Ty.sumTo m g
 | 0,_,_,_=>rfl
 | m+1,f,g,h=>by
  simp only [Ty.sumTo]
  rw [h 0 (by omega),uH m (fun i=>f (i+1)) (fun i=>g (i+1)) (fun j hj=>h (j+1) (by omega))]
theorem NZ {ts:List Int}{qs:List (Int×Int)}{b:Int}{m:Nat}(h:tH ts qs b)(hm:qs.length=m)(z:Nat→Rat):ev ts z=(b:Rat)*sumTo m (fun j=>vl (qs.getD j (0,1))*z j):=by
 have hl:=h.1
 rw [mR m ts z (by omega), ← qa]
 refine uH m _ _ fun j hj=> ?_
 have e1:ts[j]? =some (ts[j]'(by omega)):=gE (by omega)
 have e2:qs[j]? =some (qs[j]'(by omega)):=gE (by omega)
 have w:=h.2 j _ _ e1 e2
 rw [getD_mem e1,w,afb,e2]
 show _=(b:Rat)*(vl (qs[j]'(by omega))*z j)
 grind
theorem xK {ts:List Int}{qs:List (Int×Int)}{b:Int}{m:Nat}(h:tH ts qs b)(hb:0 < b)(hm:qs.length=m)(z:Nat→Rat):ev ts z=0 ↔ sumTo m (fun j=>vl (qs.getD j (0,1))*z j)=0:=by
 rw [NZ h hm z]
 have gC :=cw (show b≠0 by omega)
 constructor <;> intro q <;> grind
theorem qu {T B m:Nat}{fq:List (List (Int×Int))}{os:List (List Int)}(oG:uF T B m fq os)(len:∀qs∈fq,qs.length=m)(z:Nat→Rat):(∀o∈os,ev o z=0) ↔ ∀qs∈fq,sumTo m (fun j=>vl (qs.getD j (0,1))*z j)=0:=by
 have hl:=oG.1
 constructor
 ·intro h qs hq
  obtain ⟨i,e⟩:=aak hq
  have hi:i < fq.length:=(be.mp e).1
  have e1:os[i]? =some (os[i]'(by omega)):=gE (by omega)
  obtain ⟨b,hb,wh⟩:=oG.2 i _ qs e1 e
  exact (xK wh hb (len qs hq) z).mp (h _ (ir e1))
 ·intro h o ho
  obtain ⟨i,e⟩:=aak ho
  have hi:i < os.length:=(be.mp e).1
  have e1:fq[i]? =some (fq[i]'(by omega)):=gE (by omega)
  obtain ⟨b,hb,wh⟩:=oG.2 i o _ e e1
  exact (xK wh hb (len _ (ir e1)) z).mpr (h _ (ir e1))
theorem getD_some {qs:List (Int×Int)}{j:Nat}{q:Int×Int}(e:qs[j]? =some q):qs.getD j (0,1)=q:=by
 rw [afb,e]
 rfl
theorem dJ.z {os lv:List (List Int)}{L m b c:Nat}{nd:List (Nat×List Int)}{qs:List (Int×Int)}(R:Red os L m b nd lv)(F:dJ c m nd.length nd qs):NY nd c (fun j=>vl (qs.getD j (0,1))) where
 one:=by
  show vl (qs.getD c (0,1))=1
  rw [getD_some F.2.1,vQ]
 at' :=fun y hy=>by
  obtain ⟨i,e⟩:=aak hy
  have hi:i < nd.length:=(be.mp e).1
  show vl (qs.getD y.1 (0,1))=_
  rw [getD_some (F.2.2.1 i hi y e),qV (R.here y hy)]
 no:=fun j hj h=>by
  show vl (qs.getD j (0,1))=0
  by_cases z:j < m
  ·rw [getD_some (F.2.2.2 j z hj (fun i _ x e=>h x (ir e))),nE]
  ·rw [afb,aal (by rw [F.1];omega)]
   exact nE
theorem dJ.Za {os lv:List (List Int)}{L m b c:Nat}{nd:List (Nat×List Int)}{qs:List (Int×Int)}(R:Red os L m b nd lv)(F:dJ c m nd.length nd qs):∀q∈qs,Sm b b q:=by
 intro q hq
 obtain ⟨j,hj⟩:=aak hq
 have hjm:j < m:=by have:=(be.mp hj).1;rw [← F.1];exact this
 by_cases jc:j=c
 ·subst jc
  rw [F.2.1] at hj
  cases hj
  exact ⟨by decide,by decide,ago,ago⟩
 by_cases cc:∃(i:Nat) (x:Nat×List Int),nd[i]? =some x∧x.1=j
 ·obtain ⟨i,x,e,rfl⟩:=cc
  have hi:i < nd.length:=(be.mp e).1
  have h1:=F.2.2.1 i hi x e
  rw [hj] at h1
  cases h1
  have hm:=ir e
  exact JW (R.here x hm) (by rw [anF];exact R.HK x hm c) (R.HK x hm x.1)
 ·have h1:=F.2.2.2 j hjm jc (fun i _ x e z=>cc ⟨i,x,e,z⟩)
  rw [hj] at h1
  cases h1
  exact ⟨by decide,by decide,aft _,ago⟩
theorem nG {α:Type}{R:α→Nat×List (Int×Int)→Prop}{f:α→Rat}{h:Nat→Rat}(e:∀o x,R o x→f o=h x.1):∀{os:List α} {ss:List (Nat×List (Int×Int))},Paired R os ss→(os.map f).sum=fsum (ss.map (·.1)) h
 | _,_,.nil=>rfl
 | _,_,.cons a t=>by
  rw [ac_,ac_,bZ,aga,e _ _ a,nG e t]
theorem Se (h:Nat×List (Int×Int)→Rat):∀{ss:List (Nat×List (Int×Int))},(ss.map (·.1)).Nodup→∃g:Nat→Rat,∀y∈ss,g y.1=h y
 | [],_=>⟨fun _=>0,fun y hy=>nomatch hy⟩
 | x::r,n=>by
  rw [ac_,afs] at n
  obtain ⟨g,hg⟩:=Se h n.2
  refine ⟨fun c=>if c=x.1 then h x else g c,fun y hy=> ?_⟩
  rcases afo.mp hy with z | z
  ·rw [z]
   exact if_pos rfl
  ·have ne:y.1≠x.1:=fun e=>n.1 (by rw [← e];exact aah.mpr ⟨y,z,rfl⟩)
   show (if y.1=x.1 then h x else g y.1)=_
   rw [if_neg ne]
   exact hg y z
theorem kE {α β:Type}{R:α→β→Prop}:∀{us:List α} {l:List β},Paired R us l→Paired (fun u a=>a∈l∧R u a) us l
 | _,_,.nil=>.nil
 | _,_,.cons h t=>.cons ⟨ae',h⟩ (Paired.bq (kE t) fun _ _ z=>⟨aa_ _ z.1,z.2⟩)
theorem cO {α β:Type}{F:α→β→Prop}:∀{l₁:List α} {l₂:List β} {a:α} {b:β},Paired F l₁ l₂→F a b→Paired F (l₁++[a]) (l₂++[b])
 | _,_,_,_,.nil,h=>.cons h .nil
 | _,_,_,_,.cons h t,h' =>.cons h (cO t h')
theorem FC:∀(rs:List Rat) (qs:List (Int×Int)),rs.length=qs.length→Ty.sumTo qs.length (fun j=>vl (qs.getD j (0,1))*rs.getD j 0)=sP rs (qs.map vl)
 | [],[],_=>by simp [Ty.sumTo,sP]
 | r::rs,q::qs,h=>by
  rw [ac_,hU, ← FC rs qs (by simpa using h),afu]
  show vl q*r+Ty.sumTo qs.length (fun j=>vl (qs.getD j (0,1))*rs.getD j 0)=_
  grind
structure BE (K:Frag)(H:Hp)(pins:List aF)(d:Addr)(kM:List (Key×V))(M:Str→Rat×Rat)(N:Nat):Prop where
 hM:H d=some (.dK kM)
 keys:kM.map (·.1)=pins.map (fun p=>(af1 p.nm:Key))
 tM:∀p∈pins,∃t v1 v2,bO kM (.inr p.nm)=some (.ref t)∧H t=some (.tup [v1,v2])∧gA K H v1 (M p.nm).1∧gA K H v2 (M p.nm).2
 zb:∀p∈pins,Zb N (M p.nm).1∧Zb N (M p.nm).2
 hN:N≤6000000
theorem BE.same {H H' :Hp}{pins:List aF}{d:Addr}{kM:List (Key×V)}{M:Str→Rat×Rat}{N:Nat}(h:BE K H pins d kM M N)(s:av H H'):BE K H' pins d kM M N:=⟨s _ _ h.hM,h.keys,fun p hp=>by
 obtain ⟨t,v1,v2,a,b,c,d⟩:=h.tM p hp
 exact ⟨t,v1,v2,a,s _ _ b,c.same s,d.same s⟩,h.zb,h.hN⟩
def iA (u:HO):Prop:=(∀xs,u≠.tup xs)∧∀o xs,u≠.cf o (.tup xs)
theorem Sf {kvs:List (Key×V)}:iA (.dK kvs):=⟨fun _ z=>(nomatch z),fun _ _ z=>(nomatch z)⟩
theorem nH {kvs:List (List Key×V)}:iA (.dT kvs):=⟨fun _ z=>(nomatch z),fun _ _ z=>(nomatch z)⟩
theorem N0 {o:Obj}{kvs:List (Key×V)}:iA (.cf o (.dK kvs)):=⟨fun _ z=>(nomatch z),fun _ _ z=>(nomatch z)⟩
theorem FD {o:Obj}{kvs:List (List Key×V)}:iA (.cf o (.dT kvs)):=⟨fun _ z=>(nomatch z),fun _ _ z=>(nomatch z)⟩
theorem cM {H H' :Hp}{d:Addr}{u:HO}(e:H d=some u)(n:iA u)(k:aT d H H'):bh H H' :=fun b xs z=>by
 rcases z with z | ⟨o',z⟩
 ·exact .inl (k _ _ (fun c=>by rw [c,e] at z;cases z;exact n.1 _ rfl) z)
 ·exact .inr ⟨o',k _ _ (fun c=>by rw [c,e] at z;cases z;exact n.2 _ _ rfl) z⟩
theorem BE.ksG {H H' :Hp}{pins:List aF}{d dM:Addr}{u:HO}{kM:List (Key×V)}{M:Str→Rat×Rat}{N:Nat}(h:BE K H pins dM kM M N)(e:H d=some u)(n:iA u)(nd:dM≠d)(k:aT d H H'):BE K H' pins dM kM M N:=⟨k _ _ nd h.hM,h.keys,fun p hp=>by
 obtain ⟨t,v1,v2,a,b,c,c'⟩:=h.tM p hp
 exact ⟨t,v1,v2,a,k _ _ (fun z=>by rw [z,e] at b;cases b;exact n.1 _ rfl) b,c.aS (cM e n k),c'.aS (cM e n k)⟩,h.zb,h.hN⟩
def bG (pins:List aF):List (Str×Nat):=pins.flatMap fun p=>[(p.nm,0),(p.nm,1)]
theorem b_:∀pins:List aF,(bG pins).length=2*pins.length
 | []=>rfl
 | p::ps=>by
  have:=b_ ps
  unfold bG at this ⊢
  rw [afy,afi,this]
  simp
  omega
def dk (H:Hp)(v:V)(x:Str×Nat):Prop:=∃t,v=.ref t∧H t=some (.tup [.str x.1,.int (x.2:Int)])
theorem dk.same {H H' :Hp}{v:V}{x:Str×Nat}(h:dk H v x)(s:av H H'):dk H' v x:=by
 obtain ⟨t,a,b⟩:=h
 exact ⟨t,a,s _ _ b⟩
theorem dk.ks {H H' :Hp}{v:V}{x:Str×Nat}{d:Addr}{u:HO}(h:dk H v x)(e:H d=some u)(n:iA u)(k:aT d H H'):dk H' v x:=by
 obtain ⟨t,a,b⟩:=h
 exact ⟨t,a,k _ _ (fun z=>by rw [z,e] at b;cases b;exact n.1 _ rfl) b⟩
inductive rH (K:Frag)(C:Addr)(vs:List V)(H:Hp)(Q:VK)(E_:XK):Prop where
 | mk (a:Addr) (pins:List aF) (ar:List bB) (_:vs=[.ref a]) (_:DY K H C a pins ar) (_:fU pins ar) (_:∀(r:Addr) (us:List V) (H' :Hp),av H H' →H r=none→H' r=some (.lst us)→Paired (dk H') us (bG pins)→Q (.ref r) H'):rH K C vs H Q E_
theorem nI (ps:List aF)(p:aF):bG (ps++[p])=bG ps++[(p.nm,0),(p.nm,1)]:=by
 unfold bG
 rw [agh]
 simp
theorem gS:aD ["F","pairs","pin"] ["F"] (ag dU):=sq
theorem uI {C:Addr}(D:Def K mg "pairs_of" dU ["F"])(MP:bI P w K mg base (a8 P w) 1 C "pins" ["self"] (iO K C)):Fn P w K mg base (a8 P w) 2 "pairs_of" ["F"] (rH K C):=by
 refine D.ok gS (fun vs H Q E h=> ?_) (fun f bC A outer s H vs Q E hr h=> ?_)
 ·obtain ⟨a,pins,ar,rfl,_⟩:=h
  rfl
 obtain ⟨a,pins,ar,rfl,R,g,q⟩:=h
 refine ⟨_,(ae (aH (i:=1) gS.nd rfl (ab_ rfl) (cu aa))
  (ae (bF PassesOwn.never rfl (bw (gY (k:=1) (pv 0) hr.mo (pY P w))) (aE (i:=2) gS.nd rfl (ab_ rfl)) (aj (bg (i7 PySem.F.plainAttrs_list PySem.F.slot_list_extend PySem.F.type_list_extend yu (pv 1) (au (cu (au (aR (au (pv 2) (au ah aa))) (au (aR (au (pv 2) (au ah aa))) aa))) aa)))))
  (aj (aG (pv 1))))),?_⟩
 refine ⟨(by show 0≤sizeLine;decide),?_⟩
 intro r nr;generalize eX:upd _ r _=H1;have ⟨s1,er⟩:=nw nr eX;clear eX
 have big:(40:Nat)≤sizeLine:=by decide
 have L2:2≤sizeLine:=by decide
 have gl:=g.lp
 have R1:=R.same s1
 obtain ⟨dx,pP,pW,pB,kP,kW,kB,F1,W1⟩:=R1.ex
 refine ⟨_,rfl,a,C,dx,_,_,_,rfl,F1.obj,rfl,MP,a,dx,pP,pW,pB,_,_,kP,kW,kB,rfl,F1,fun lp H2 s2 xE vP=> ?_⟩
 rw [js] at vP
 have NO:lp≠r:=fun z=>by rw [z,er] at xE;cases xE
 refine ⟨lp,rfl,⟨_,ba.of vP⟩,bM (K:=K) (a:=lp) (xs:=(pins.map (·.nm)).map V.str) (fun i σ H' =>∃(o2:Option V) (us:List V),σ=[some (.ref a),some (.ref r),o2]∧av H H' ∧H' lp=some (.lst ((pins.map (·.nm)).map V.str))∧H' r=some (.lst us)∧Paired (dk H') us (bG (pins.take i))) ⟨none,[],rfl,s1.trans s2,vP,s2 _ _ er,.nil⟩ (fun i σ H' _ h=>by
   obtain ⟨_,_,_,_,h,_⟩:=h
   exact ba.of h) ?_ ?_⟩
 ·rintro i z σ H4 hi ⟨o2,us,rfl,s4,l4,r4,p4⟩
  rw [Wp,Wp] at hi
  obtain ⟨x,hx,rfl⟩:=ae9.mp hi
  obtain ⟨p,hp,rfl⟩:=ae9.mp hx
  have il:=(be.mp hp).1
  have lu:us.length≤18:=by
   have h1:=Paired.length p4
   rw [b_,afv] at h1
   omega
  refine ⟨_,rfl,.inl ⟨rfl,_,ba.of r4⟩,_,rfl,L2,?_⟩
  intro t5 n5;generalize eX:upd _ t5 _=H5;have ⟨s5,e5⟩:=nw n5 eX;clear eX
  refine ⟨_,rfl,L2,?_⟩
  intro t6 n6;generalize eX:upd _ t6 _=H6;have ⟨s6,e6⟩:=nw n6 eX;clear eX
  refine ⟨L2,?_⟩
  intro l7 n7;generalize eX:upd _ l7 _=H7;have ⟨s7,e7⟩:=nw n7 eX;clear eX
  have WO:=s5.trans (s6.trans s7)
  have r7:=WO _ _ r4
  refine ⟨r,l7,us,_,rfl,rfl,r7,e7,(by simp;omega),?_⟩
  have ks:aT r H7 (upd H7 r (.lst (us++[.ref t5,.ref t6]))):=aT.upd
  have nt:iA (.lst us):=⟨fun _ z=>(nomatch z),fun _ _ z=>(nomatch z)⟩
  refine ⟨_,us++[.ref t5,.ref t6],rfl,fun b o e=> ?_,?_,ak,?_⟩
  ·rw [ao (aq e nr)]
   exact WO _ _ (s4 _ _ e)
  ·rw [ao NO]
   exact WO _ _ l4
  ·rw [take_snoc hp,nI]
   have p5:=cO (cO (Paired.bq p4 fun _ _ z=>z.same WO) (show dk H7 (.ref t5) (p.nm,0) from ⟨t5,rfl,(s6.trans s7) _ _ e5⟩)) (show dk H7 (.ref t6) (p.nm,1) from ⟨t6,rfl,s7 _ _ e6⟩)
   rw [af6,af6] at p5
   exact Paired.bq p5 fun _ _ z=>z.ks r7 nt ks
 ·rintro σ H4 ⟨o2,us,rfl,s4,l4,r4,p4⟩
  rw [aaa,aaa,afC] at p4
  exact ⟨_,rfl,q r us H4 s4 nr r4 p4⟩
def qv (k:Nat)(q:Rat×Rat):Rat:=if k=0 then q.1 else q.2
def eg (pins:List aF)(M:Str→Rat×Rat):List Rat:=pins.flatMap fun p=>[(M p.nm).1,(M p.nm).2]
theorem eU (M:Str→Rat×Rat):∀pins:List aF,eg pins M=(bG pins).map fun x=>qv x.2 (M x.1)
 | []=>rfl
 | p::ps=>by
  have ih:=eU M ps
  unfold eg bG at ih ⊢
  rw [afy,afy,afq,ih]
  rfl
theorem z5 (M:Str→Rat×Rat)(pins:List aF):(eg pins M).length=2*pins.length:=by rw [eU,aaa,b_]
theorem uJ:∀{pins:List aF} {k:Nat} {p:aF},pins[k]? =some p→(bG pins)[2*k]? =some (p.nm,0)∧(bG pins)[2*k+1]? =some (p.nm,1)
 | q::ps,0,p,h=>by
  cases h
  exact ⟨rfl,rfl⟩
 | q::ps,k+1,p,h=>by
  have ih:=uJ (pins:=ps) (k:=k) (p:=p) (by simpa using h)
  exact ih
theorem j0 {pins:List aF}{x:Str×Nat}(h:x∈bG pins):x.1∈pins.map (·.nm)∧x.2≤1:=by
 unfold bG at h
 obtain ⟨p,hp,h⟩:=af0.mp h
 rcases afo.mp h with e | h
 ·rw [e]
  exact ⟨aah.mpr ⟨p,hp,rfl⟩,aft _⟩
 ·rw [ae_.mp h]
  exact ⟨aah.mpr ⟨p,hp,rfl⟩,aai _⟩
theorem xM:∀as bs:List Rat,sP as bs=sP bs as
 | [],[]=>rfl
 | [],_::_=>rfl
 | _::_,[]=>rfl
 | a::as,b::bs=>by
  rw [hU,hU,xM as bs]
  grind
theorem lU {pins:List aF}(F:Str→Option (Rat×Rat))(M:Str→Rat×Rat):Ty.sumTo (2*pins.length) (fun j=>vl ((fh F pins).getD j (0,1))*(eg pins M).getD j 0)=(pins.map fun p=>dt (mv F p.nm) (M p.nm)).sum:=by
 have:=FC (eg pins M) (fh F pins) (by rw [z5,fX])
 rw [fX] at this
 rw [this,xM]
 exact xH F M pins
theorem z6 {pins:List aF}{ar:List bB}{qs:List (Int×Int)}(h:qs∈dI pins ar):(∃p∈pins,∃w∈p.ws,qs=fh (gQ p.nm w) pins)∨∃b∈ar,qs=fh (ib b) pins:=by
 unfold dI at h
 rcases afg.mp h with h | h
 ·obtain ⟨p,hp,h⟩:=af0.mp h
  unfold oI at h
  obtain ⟨w,hw,rfl⟩:=aah.mp h
  exact .inl ⟨p,hp,w,hw,rfl⟩
 ·obtain ⟨b,hb,rfl⟩:=aah.mp h
  exact .inr ⟨b,hb,rfl⟩
theorem qw {pins:List aF}{ar:List bB}(g:fU pins ar)(M:Str→Rat×Rat):jY pins ar M ↔ ∀qs∈dI pins ar,Ty.sumTo (2*pins.length) (fun j=>vl (qs.getD j (0,1))*(eg pins M).getD j 0)=0:=by
 constructor
 ·intro h qs hq
  rcases z6 hq with ⟨p,hp,w,hw,rfl⟩ | ⟨b,hb,rfl⟩
  ·rw [lU,lT g.np hp]
   exact h.R9 p hp w hw
  ·obtain ⟨m1,m2,m3⟩:=g.ends b hb
   rw [lU,xI g.np b m1 m2 m3,h.ar b hb]
   grind
 ·intro h
  refine ⟨fun p hp w hw=> ?_,fun b hb=> ?_⟩
  ·have:=h (fh (gQ p.nm w) pins) (by
    unfold dI oI
    exact afr _ (af0.mpr ⟨p,hp,aah.mpr ⟨w,hw,rfl⟩⟩))
   rw [lU,lT g.np hp] at this
   exact this
  ·obtain ⟨m1,m2,m3⟩:=g.ends b hb
   have:=h (fh (ib b) pins) (by
    unfold dI
    exact afl _ (aah.mpr ⟨b,hb,rfl⟩))
   rw [lU,xI g.np b m1 m2 m3] at this
   grind
abbrev cP:=(Str×Nat)×(Str→Rat×Rat)
def kF (pins:List aF)(m:cP)(x:Nat×List (Int×Int)):Prop:=(bG pins)[x.1]? =some m.1∧eg pins m.2=x.2.map vl
theorem map_getD (l:List (Int×Int))(i:Nat):(l.map vl).getD i 0=vl (l.getD i (0,1)):=by
 rw [afb,afb,Wp]
 cases l[i]? with
 | none=>exact nE.symm
 | some q=>rfl
theorem z7 {pins:List aF}{ar:List bB}(g:fU pins ar){os lv:List (List Int)}{nd:List (Nat×List Int)}{Z:Nat}(oG:uF 90 90 (2*pins.length) (dI pins ar) os)(R:Red os (2*pins.length) (2*pins.length) Z nd lv){x:Nat×List (Int×Int)}(F:dJ x.1 (2*pins.length) nd.length nd x.2)(fr:∀y∈nd,y.1≠x.1)(hc:x.1 < 2*pins.length){M:Str→Rat×Rat}(e:eg pins M=x.2.map vl):jY pins ar M:=by
 have len:∀qs∈dI pins ar,qs.length=2*pins.length:=fun qs hq=>(iQ g qs hq).1
 refine (qw g M).mpr fun qs hq=> ?_
 have:=(qu oG len _).mp (NY.sol R hc (dJ.z R F) fr) qs hq
 refine Eq.trans ?_ this
 congr 1
 funext j
 rw [e,map_getD]
theorem FE {pins:List aF}{ar:List bB}(g:fU pins ar){os lv:List (List Int)}{nd:List (Nat×List Int)}{ss:List (Nat×List (Int×Int))}{Z:Nat}{ms:List cP}(oG:uF 90 90 (2*pins.length) (dI pins ar) os)(R:Red os (2*pins.length) (2*pins.length) Z nd lv)(hc:ss.map (·.1)=(afz (2*pins.length)).filter (free nd))(hF:∀x∈ss,dJ x.1 (2*pins.length) nd.length nd x.2)(pr:Paired (kF pins) ms ss){M:Str→Rat×Rat}(mo:jY pins ar M){j:Nat}(hj:j < 2*pins.length):(eg pins M).getD j 0=(ms.map fun m=>qv m.1.2 (M m.1.1)*(eg pins m.2).getD j 0).sum:=by
 have len:∀qs∈dI pins ar,qs.length=2*pins.length:=fun qs hq=>(iQ g qs hq).1
 have nodup:(ss.map (·.1)).Nodup:=by
  rw [hc]
  exact agC.filter _
 have hz:∀o∈os,ev o (fun i=>(eg pins M).getD i 0)=0:=(qu oG len _).mpr fun qs hq=>(qw g M).mp mo qs hq
 obtain ⟨gg,hg⟩:=Se (fun x=>vl (x.2.getD j (0,1))) nodup
 have key:=zZ (D:=fun i=>(eg pins M).getD i 0) R hc hF hz hj (g:=gg) (fun x hx q e=>by
  rw [hg x hx,afb,e]
  rfl)
 rw [← key]
 refine (nG (R:=fun m x=>x∈ss∧kF pins m x) (fun m x hx=> ?_) (kE pr)).symm
 obtain ⟨mx,e1,e2⟩:=hx
 rw [hg x mx,e2,map_getD]
 congr 1
 show _=(eg pins M).getD x.1 0
 rw [eU,afb,Wp,e1]
 rfl
theorem FF {pins:List aF}{os lv:List (List Int)}{nd:List (Nat×List Int)}{Z:Nat}(R:Red os (2*pins.length) (2*pins.length) Z nd lv){x y:Nat×List (Int×Int)}{m n:cP}(F:dJ x.1 (2*pins.length) nd.length nd x.2)(fr:∀z∈nd,z.1≠y.1)(hm:kF pins m x)(hn:kF pins n y):qv n.1.2 (m.2 n.1.1)=if x.1=y.1 then 1 else 0:=by
 have e:(eg pins m.2)[y.1]? =some (qv n.1.2 (m.2 n.1.1)):=by rw [eU,Wp,hn.1];rfl
 have hy:y.1 < 2*pins.length:=by
  have:=(be.mp hn.1).1
  rw [b_] at this
  exact this
 rw [hm.2,Wp] at e
 by_cases c:x.1=y.1
 ·rw [if_pos c, ← vQ]
  rw [← c,F.2.1] at e
  exact (aff e).symm
 ·rw [if_neg c, ← nE]
  rw [F.2.2.2 y.1 hy (afk c) (fun i _ z ez=>fr z (ir ez))] at e
  exact (aff e).symm
theorem J8 {pins:List aF}(gP :(bG pins).Nodup){os lv:List (List Int)}{nd:List (Nat×List Int)}{Z:Nat}(R:Red os (2*pins.length) (2*pins.length) Z nd lv){x:Nat×List (Int×Int)}{m:cP}(F:dJ x.1 (2*pins.length) nd.length nd x.2)(hm:kF pins m x){c j:Nat}{y:Str×Nat}(ec:(bG pins)[c]? =some m.1)(cj:c < j)(ej:(bG pins)[j]? =some y):qv y.2 (m.2 y.1)=0:=by
 have e:(eg pins m.2)[j]? =some (qv y.2 (m.2 y.1)):=by rw [eU,Wp,ej];rfl
 have cx:c=x.1:=cH gP ec hm.1
 have:=NY.behind R (dJ.z R F) (j:=j) (by omega)
 rw [hm.2,Wp] at e
 obtain ⟨q,eq,e2⟩:=ae9.mp e
 rw [afb,eq] at this
 rw [← e2]
 exact this
theorem J9 {pins:List aF}{nd:List (Nat×List Int)}{ss:List (Nat×List (Int×Int))}{ms:List cP}(hc:ss.map (·.1)=(afz (2*pins.length)).filter (free nd))(pr:Paired (kF pins) ms ss):ane (ms.map (·.1)) (bG pins):=by
 have e1:ms.map (·.1)=(ss.map (·.1)).map fun i=>(bG pins).getD i ("",0):=by
  clear hc
  induction pr with
  | nil=>rfl
  | @cons m x l l' h _ ih=>
   rw [ac_,ac_,ac_,ih,afb,h.1]
   rfl
 have e2:bG pins=(afz (2*pins.length)).map fun i=>(bG pins).getD i ("",0):=by
  refine afI fun i=> ?_
  by_cases hi:i < 2*pins.length
  ·have QL :i < (bG pins).length:=by rw [b_];exact hi
   rw [Wp,List.getElem?_range hi,gE QL]
   show _=some ((bG pins).getD i ("",0))
   rw [afb,gE QL]
   rfl
  ·rw [aal (by rw [b_];omega),aal (by rw [aaa,agy];omega)]
 rw [e1,hc]
 have:=List.Sublist.map (fun i=>(bG pins).getD i ("",0)) (List.filter_sublist (p:=free nd) (l:=afz (2*pins.length)))
 rw [← e2] at this
 exact this
def oK (K:Frag)(H:Hp)(pins:List aF)(N:Nat)(kv:List Key×V)(m:cP):Prop:=∃(dM:Addr) (kM:List (Key×V)),kv=([.inr m.1.1,.inl (m.1.2:Int)],.ref dM)∧BE K H pins dM kM m.2 N
theorem oK.same {H H' :Hp}{pins:List aF}{N:Nat}{kv:List Key×V}{m:cP}(h:oK K H pins N kv m)(s:av H H'):oK K H' pins N kv m:=by
 obtain ⟨dM,kM,a,b⟩:=h
 exact ⟨dM,kM,a,b.same s⟩
theorem oK.ks {H H' :Hp}{pins:List aF}{N:Nat}{kv:List Key×V}{m:cP}{d:Addr}{u:HO}(h:oK K H pins N kv m)(e:H d=some u)(n:iA u)(n2:∀kM,u≠.dK kM)(k:aT d H H'):oK K H' pins N kv m:=by
 obtain ⟨dM,kM,a,b⟩:=h
 refine ⟨dM,kM,a,b.ksG e n (fun z=> ?_) k⟩
 have:=b.hM
 rw [z,e] at this
 exact n2 _ (aff this)
structure eQ (K:Frag)(H:Hp)(pins:List aF)(ar:List bB)(kvs:List (List Key×V))(ms:List cP)(N:Nat):Prop where
 pr:Paired (oK K H pins N) kvs ms
 nk:(kvs.map (·.1)).Nodup
 mo:∀m∈ms,jY pins ar m.2
 WQ:∀m∈ms,m.1.1∈pins.map (·.nm)∧m.1.2≤1
 lm:ms.length≤18
 sub:ane (ms.map (·.1)) (bG pins)
 WR:∀m∈ms,∀(c j:Nat) (x:Str×Nat),(bG pins)[c]? =some m.1→c < j→(bG pins)[j]? =some x→qv x.2 (m.2 x.1)=0
 ones:∀(i j:Nat) (m n:cP),ms[i]? =some m→ms[j]? =some n→qv n.1.2 (m.2 n.1.1)=if i=j then 1 else 0
 only:∀M:Str→Rat×Rat,jY pins ar M→∀p∈pins,M p.nm=((ms.map fun m=>qv m.1.2 (M m.1.1)*(m.2 p.nm).1).sum,(ms.map fun m=>qv m.1.2 (M m.1.1)*(m.2 p.nm).2).sum)
theorem eQ.same {H H' :Hp}{pins:List aF}{ar:List bB}{kvs:List (List Key×V)}{ms:List cP}{N:Nat}(h:eQ K H pins ar kvs ms N)(s:av H H'):eQ K H' pins ar kvs ms N:=⟨Paired.bq h.pr fun _ _ z=>z.same s,h.nk,h.mo,h.WQ,h.lm,h.sub,h.WR,h.ones,h.only⟩
inductive vR (K:Frag)(C:Addr)(vs:List V)(H:Hp)(Q:VK)(E_:XK):Prop where
 | mk (a:Addr) (pins:List aF) (ar:List bB) (_:vs=[.ref a]) (_:DY K H C a pins ar) (_:fU pins ar) (_:∀(d:Addr) (kvs:List (List Key×V)) (ms:List cP) (H' :Hp),av H H' →H d=none→H' d=some (.dT kvs)→eQ K H' pins ar kvs ms 33000→(∀kv∈kvs,∃dM,kv.2=.ref dM∧H dM=none)→Q (.ref d) H'):vR K C vs H Q E_
theorem gs {α β:Type}{R:α→β→Prop}:∀{us:List α} {l:List β},Paired R us l→∀{i:Nat} {b:β},l[i]? =some b→∃u,us[i]? =some u∧R u b
 | _,_,.nil,i,b,e=>by simp at e
 | _,_,.cons h t,0,b,e=>by
  cases e
  exact ⟨_,rfl,h⟩
 | _,_,.cons h t,i+1,b,e=>by
  obtain ⟨u,a,c⟩:=gs t (i:=i) (b:=b) (by simpa using e)
  exact ⟨u,by simpa using a,c⟩
theorem hV {pins:List aF}(np:(pins.map (·.nm)).Nodup):(bG pins).Nodup:=by
 induction pins with
 | nil=>exact anI
 | cons p ps ih=>
  rw [ac_,afs] at np
  have e:bG (p::ps)=[(p.nm,0),(p.nm,1)]++bG ps:=rfl
  rw [e,agz]
  refine ⟨by simp,ih np.2,fun a ha b hb z=>np.1 ?_⟩
  have h1:=(j0 hb).1
  rw [← z] at h1
  rcases afo.mp ha with y | y
  ·rw [y] at h1
   exact h1
  ·rw [ae_.mp y] at h1
   exact h1
theorem dq:aD ["F","pairs","motions","column","numbers"] ["F"] (ag cV):=sq
theorem oM {C:Addr}(D:Def K mg "motions_of" cV ["F"])(bE:mg "len"=none)
  (vS:Fn P w K mg base (a8 P w) 2 "pairs_of" ["F"] (rH K C)) (Zc:Fn P w K mg base (a8 P w) 38 "draw_rows" ["F"] (iP K C)) (kX:Fn P w K mg base (a8 P w) 36 "spare_columns" ["rows","many"] (nq K)) (Zd:Fn P w K mg base (a8 P w) 2 "motion_from" ["F","numbers"] (ng K C)):
  Fn P w K mg base (a8 P w) 39 "motions_of" ["F"] (vR K C):=by
 refine D.ok dq (fun vs H Q E h=> ?_) (fun f bC A outer s H vs Q E hr h=> ?_)
 ·obtain ⟨a,pins,ar,rfl,_⟩:=h
  rfl
 obtain ⟨a,pins,ar,rfl,R,g,q⟩:=h
 have gl:=g.lp
 have gb:=g.lb
 have wl:(pins.flatMap fun p=>p.ws).length≤2*pins.length:=uB pins g.lw
 have dl:(dI pins ar).length=(pins.flatMap fun p=>p.ws).length+ar.length:=zY pins ar
 refine ⟨_,(ae (aH (i:=1) dq.nd rfl (ab_ rfl) (aC vS hr.mo pX (au (pv 0) aa)))
  (ae (aH (i:=2) dq.nd rfl (ab_ rfl) DI)
  (ae (q5 (bF PassesOwn.never rfl (mO (aC kX hr.mo pX (au (aC Zc hr.mo pX (au (pv 0) aa)) (au (aU a9 rfl bE dD (au (pv 1) aa)) aa)))) (dO rfl (aX (aE (i:=3) dq.nd rfl (ab_ rfl)) (aX (aE (i:=4) dq.nd rfl (ab_ rfl)) cQ))) (aj (fo (bT hr) (pv 2) (bD bu (pv 1) (pv 3) (fun _ _=>rfl)) (aC Zd hr.mo pX (au (pv 0) (au (pv 4) aa))) rfl))))
  (aj (aG (pv 2)))))),?_⟩
 refine ⟨_,rfl,a,pins,ar,rfl,R,g,fun r us H1 s1 nr er pr=> ?_⟩
 intro d JV;generalize eX:upd _ d _=H2;have ⟨s2,e2⟩:=nw JV eX;clear eX
 have xF:=s1.trans s2
 have lus:us.length=2*pins.length:=by rw [Paired.length pr,b_]
 refine ⟨_,rfl,a,pins,ar,rfl,R.same xF,g,fun rr ls dG H3 s3 nrr RR=> ?_⟩
 have r3:=s3 _ _ (s2 _ _ er)
 refine ⟨_,rfl,r,_,rfl,.inl (ba.of r3),?_⟩
 have sh:Shape 90 90 (2*pins.length) (dI pins ar):=iQ g
 have zz:bb (90+90*(2*pins.length)) (min (2*pins.length) (dI pins ar).length)≤33000:=by
  unfold bb
  have h1:min (2*pins.length) (dI pins ar).length+1≤19:=by omega
  have h2:90+90*(2*pins.length)+11≤1721:=by omega
  exact aaj (afR h1 h2) (by decide)
 refine ⟨rr,2*pins.length,ls,dG,dI pins ar,90,90,33000,(by rw [lus];rfl),RR.uA,RR.num,sh,by omega,by omega,by decide,by omega,by decide,zz,by decide,fun sd rG ss os lv nd H6 s6 Pa J7 hSp oG RZ Sg hF=> ?_⟩
 have Ze:=s3.trans s6
 have Pe:=xF.trans Ze
 have Pb:H sd=none:=(xF.trans s3).free Pa
 have Hd:H d=none:=s1.free JV
 have ed6:=Ze _ _ e2
 have Zf:=s6 _ _ r3
 have Zg:d≠sd:=fun z=>by
  have:=s3 _ _ e2
  rw [z,Pa] at this
  cases this
 refine ⟨sd,rG,rfl,J7,fun o=> ?_⟩
 have k0:aT sd H6 (upd H6 sd (.cf o (.dK rG))):=aT.upd
 have lsk:rG.length=ss.length:=hSp.1
 have YZ:ss.length≤2*pins.length:=by
  have:=congrArg afH Sg
  rw [aaa] at this
  have h2:=afX (free nd) (afz (2*pins.length))
  rw [agy] at h2
  omega
 have nodup:(ss.map (·.1)).Nodup:=by
  rw [Sg]
  exact agC.filter _
 have WT:∀x∈ss,x.1 < 2*pins.length∧∀y∈nd,y.1≠x.1:=fun x mx=>by
  have:x.1∈ss.map (·.1):=aah.mpr ⟨x,mx,rfl⟩
  rw [Sg] at this
  obtain ⟨h1,h2⟩:=afG.mp this
  exact ⟨afJ.mp h1,fj.mp h2⟩
 have pr6:Paired (dk H6) us (bG pins):=Paired.bq pr fun _ _ z=>z.same (s2.trans Ze)
 refine g6 (d:=sd) (o:=o) (kvs:=rG) (fun t σ H' =>∃(o3 o4:Option V) (kvs:List (List Key×V)) (ms:List cP),σ=[some (.ref a),some (.ref r),some (.ref d),o3,o4]∧av H H' ∧H' r=some (.lst us)∧Paired (dk H') us (bG pins)∧EZ K H' rG ss∧H' sd=some (.cf o (.dK rG))∧H' d=some (.dT kvs)∧Paired (oK K H' pins 33000) kvs ms∧Paired (kF pins) ms (ss.take t)∧(kvs.map (·.1)).Nodup∧∀kv∈kvs,∃dM,kv.2=.ref dM∧H dM=none) ⟨none,none,[],[],rfl,fun b o' e=>k0 _ _ (aq e Pb) (Pe _ _ e),k0 _ _ (fun z=>by rw [z,J7] at Zf;cases Zf) Zf,Paired.bq pr6 fun _ _ z=>z.ks J7 Sf k0,hSp.ks (.inl J7) k0,ak,k0 _ _ Zg ed6,.nil,by simpa using Paired.nil,anI,fun kv h=>(nomatch h)⟩ (fun t σ H' _ h=>by
   obtain ⟨_,_,_,_,_,_,_,_,_,h,_⟩:=h
   exact h) ?_ ?_
 ·rintro t k y σ H7 p7 uw ⟨o3,o4,kvs,ms,rfl,s7,Sh,Zh,WU,WV,d7,Si,J_,Zi,Jr⟩ n7
  have ht:t < rG.length:=(be.mp uw).1
  obtain ⟨x,ex⟩:∃x,ss[t]? =some x:=⟨_,gE (by omega)⟩
  have mx:=ir ex
  obtain ⟨ek,lx,xs,ey,hlx,hus⟩:=WU.2 t (k,y) x uw ex
  have ek' :k=.inl (x.1:Int):=ek
  have BB :y=.ref lx:=ey
  subst ek'
  subst BB
  have t7:=aI n7 (.tup [kV (.inl (x.1:Int)),.ref lx])
  have e7:(upd H7 p7 (.tup [kV (.inl (x.1:Int)),.ref lx])) p7=some (.tup [kV (.inl (x.1:Int)),.ref lx]):=ak
  generalize upd H7 p7 (.tup [kV (.inl (x.1:Int)),.ref lx])=H8 at t7 e7 ⊢
  have s8:=s7.trans t7
  refine ⟨p7,_,rfl,bK.of e7,rfl,_,_,rfl,_,_,rfl,rfl,?_⟩
  obtain ⟨cx,fx⟩:=WT x mx
  have Fx:=hF x mx
  have smx:=dJ.Za RZ Fx
  have lxx:x.2.length=2*pins.length:=Fx.1
  refine ⟨_,rfl,_,rfl,a,lx,pins,ar,xs,x.2.map vl,rfl,R.same s8,g,t7 _ _ hlx,uE (hus.same t7) smx,by rw [aaa];exact lxx,fun M dM kM H9 s9 er9 nM hM kMk tM=> ?_⟩
  have al:eg pins M=x.2.map vl:=er9.symm
  have J':=t7.trans s9
  have d9:=J' _ _ d7
  obtain ⟨pq,Zj⟩:∃pq,(bG pins)[x.1]? =some pq:=⟨_,gE (by rw [b_];exact cx)⟩
  obtain ⟨u,eu,tp,rfl,htp⟩:=gs Zh Zj
  have ht9:H9 tp=some (.tup (([.inr pq.1,.inl (pq.2:Int)]:List Key).map kV)):=J' _ _ htp
  have ai:i6 us (x.1:Int)=some (.ref tp):=dC eu
  have lk:kvs.length=ms.length:=Paired.length Si
  have lo:ms.length=t:=by
   have:=Paired.length J_
   rw [afv] at this
   omega
  refine ⟨_,rfl,_,rfl,_,rfl,r,_,_,_,rfl,rfl,ba.of (J' _ _ Sh),ai,d,_,rfl,iL.t d9 ht9 (afe (show kvs.length≤1000 by omega) (by decide)),?_⟩
  have N1:([.inr pq.1,.inl (pq.2:Int)]:List Key)∉kvs.map (·.1):=fun z=>by
   obtain ⟨kv,u3,Sj⟩:=aah.mp z
   obtain ⟨i,ei⟩:=aak u3
   obtain ⟨m,em,LA,WW,vT,_⟩:=aA Si ei
   obtain ⟨x',Mu,u9⟩:=aA J_ em
   have hi:i < t:=by
    have:=(be.mp Mu).1
    rw [afv] at this
    omega
   rw [anq hi] at Mu
   rw [vT] at Sj
   have ek2:([.inr m.1.1,.inl (m.1.2:Int)]:List Key)=[.inr pq.1,.inl (pq.2:Int)]:=Sj
   injection ek2 with h1 h2
   injection h2 with h2 _
   have f1:m.1.1=pq.1:=afV h1
   have f2:m.1.2=pq.2:=by
    have:=aj_ h2
    omega
   have f3:m.1=pq:=agj f1 f2
   have e5:=u9.1
   rw [f3] at e5
   have e6:=cH (hV g.np) e5 Zj
   have f4:(ss.map (·.1))[t]? =some x.1:=by rw [Wp,ex];rfl
   have f5:(ss.map (·.1))[i]? =some x.1:=by
    rw [Wp,Mu, ← e6]
    rfl
   have:=cH nodup f4 f5
   omega
  rw [dE _ (cT N1)]
  have ks:aT d H9 (upd H9 d (.dT (kvs++[([.inr pq.1,.inl (pq.2:Int)],.ref dM)]))):=aT.upd
  have zm:∀rr∈x.2.map vl,Zb 33000 rr:=fun rr hr=>by
   obtain ⟨q',me,rfl⟩:=aah.mp hr
   exact R_ (m:=0) (smx q' me) (aai _) (aai _)
  have nw:oK K H9 pins 33000 ([.inr pq.1,.inl (pq.2:Int)],.ref dM) (pq,M):=⟨dM,kM,rfl,hM,kMk,tM,fun p hp=>by
   refine ⟨zm _ ?_,zm _ ?_⟩
   ·rw [← al]
    exact af0.mpr ⟨p,hp,ae'⟩
   ·rw [← al]
    exact af0.mpr ⟨p,hp,aa_ _ ae'⟩,by decide⟩
  have n2:∀WW,(HO.dT kvs)≠.dK WW :=fun _ z=>nomatch z
  refine ⟨_,_,kvs++[([.inr pq.1,.inl (pq.2:Int)],.ref dM)],ms++[(pq,M)],rfl,fun b' o' e=> ?_,?_,Paired.bq Zh fun _ _ z=>(z.same J').ks d9 nH ks,?_,?_,ak,cO (Paired.bq Si fun _ _ z=>(z.same J').ks d9 nH n2 ks) (nw.ks d9 nH n2 ks),?_,?_,?_⟩
  ·exact ks _ _ (aq e Hd) (s9 _ _ (s8 _ _ e))
  ·exact ks _ _ (fun z=>by rw [z,d7] at Sh;cases Sh) (J' _ _ Sh)
  ·refine ⟨WU.1,fun i kv x e1 e2=> ?_⟩
   obtain ⟨c1,c2,c3,c4,c5,c6⟩:=WU.2 i kv x e1 e2
   exact ⟨c1,c2,c3,c4,ks _ _ (fun z=>by rw [z,d7] at c5;cases c5) (J' _ _ c5),(c6.same J').aS (cM d9 nH ks)⟩
  ·exact ks _ _ (afk Zg) (J' _ _ WV)
  ·rw [take_snoc ex]
   exact cO J_ ⟨Zj,al⟩
  ·rw [afq,agz]
   refine ⟨Zi,by simp,fun a1 h1 b1 h2 z=>N1 ?_⟩
   have h3:b1=([.inr pq.1,.inl (pq.2:Int)]:List Key):=by simpa using h2
   rw [← h3, ← z]
   exact h1
  ·intro kv u3
   rcases afg.mp u3 with h | h
   ·exact Jr kv h
   ·rw [ae_.mp h]
    exact ⟨dM,rfl,s8.free nM⟩
 ·rintro σ H7 ⟨o3,o4,kvs,ms,rfl,s7,Sh,Zh,WU,WV,d7,Si,J_,Zi,Jr⟩
  rw [lsk,afC] at J_
  have kS:aT sd H7 (upd H7 sd (.dK rG)):=aT.upd
  have Sk:∀(i:Nat) (m:cP),ms[i]? =some m→∃x,ss[i]? =some x∧kF pins m x:=fun i m em=>aA J_ em
  refine ⟨sd,o,rG,WV,fun o' u' z=>(by have z' :H sd=some (.cf o' u'):=z;rw [Pb] at z';cases z'),_,rfl,?_⟩
  refine q d kvs ms _ (fun b' o' e=>kS _ _ (aq e Pb) (s7 _ _ e)) Hd (kS _ _ Zg d7) ⟨Paired.bq Si fun kv m z=>z.ks WV N0 (fun _ z=>nomatch z) kS,Zi,fun m hm=> ?_,fun m hm=> ?_,by have:=Paired.length J_;omega,J9 Sg J_,fun m hm c j x ec cj ej=> ?_,fun i j m n em en=> ?_,fun M mo p hp=> ?_⟩ Jr
  ·obtain ⟨i,ei⟩:=aak hm
   obtain ⟨x,ex,hx⟩:=Sk i m ei
   have mx:=ir ex
   exact z7 g oG RZ (hF x mx) (WT x mx).2 (WT x mx).1 hx.2
  ·obtain ⟨i,ei⟩:=aak hm
   obtain ⟨x,ex,hx⟩:=Sk i m ei
   exact j0 (ir hx.1)
  ·obtain ⟨i,ei⟩:=aak hm
   obtain ⟨y,ey,hy⟩:=Sk i m ei
   exact J8 (hV g.np) RZ (hF y (ir ey)) hy ec cj ej
  ·obtain ⟨x,ex,hx⟩:=Sk i m em
   obtain ⟨y,ey,hy⟩:=Sk j n en
   have mx:=ir ex
   have my:=ir ey
   rw [FF RZ (hF x mx) (WT y my).2 hx hy]
   by_cases c:i=j
   ·subst c
    rw [ex] at ey
    cases ey
    rw [if_pos rfl,if_pos rfl]
   ·rw [if_neg c,if_neg (fun z=>c ?_)]
    have f1:(ss.map (·.1))[i]? =some x.1:=by rw [Wp,ex];rfl
    have f2:(ss.map (·.1))[j]? =some x.1:=by rw [Wp,ey,z];rfl
    exact cH nodup f1 f2
  ·obtain ⟨k,ek⟩:=aak hp
   have hk:=(be.mp ek).1
   obtain ⟨a0,a1⟩:=uJ ek
   have one:∀(j c:Nat),(bG pins)[j]? =some (p.nm,c)→qv c (M p.nm)=(ms.map fun m=>qv m.1.2 (M m.1.1)*qv c (m.2 p.nm)).sum:=fun j c ej=>by
    have hj:j < 2*pins.length:=by
     have:=(be.mp ej).1
     rw [b_] at this
     exact this
    have at' :∀M' :Str→Rat×Rat,(eg pins M').getD j 0=qv c (M' p.nm):=fun M' =>by
     rw [eU,afb,Wp,ej]
     rfl
    have key:=FE g oG RZ Sg hF J_ mo hj
    rw [at'] at key
    rw [key]
    congr 1
    exact agg fun m _=>by rw [at']
   exact agj (one _ 0 a0) (one _ 1 a1)
def cell (ns:List Int)(k:Int):Int:=if k < (ns.length:Int) then (ns[k.toNat]?).getD 0 else ((((k+5)*(k+5)*48271).fmod 2147483647)*(((k+5)*(k+5)*48271).fmod 2147483647)).fmod 2147483629
theorem lW {x m:Int}(h:0 < m):0≤x.fmod m∧x.fmod m < m:=⟨agm x h,ani x h⟩
inductive nJ (K:Frag)(vs:List V)(H:Hp)(Q:VK)(E_:XK):Prop where
 | mk (a:Addr) (ns:List Int) (k:Int) (_:vs=[.ref a,.int k]) (_:ba K H a (ns.map V.int)) (_:0≤k) (_:k≤1000) (_:Q (.int (cell ns k)) H):nJ K vs H Q E_
theorem cell_in {ns:List Int}{k:Int}(h0:0≤k)(h:k < (ns.length:Int)):i6 (ns.map V.int) k=some (.int (cell ns k)):=by
 have hk:k.toNat < ns.length:=by omega
 have ek:k=((k.toNat:Nat):Int):=by omega
 have q:i6 (ns.map V.int) ((k.toNat:Nat):Int)=some (.int (cell ns k)):=dC (by
  unfold cell
  rw [if_pos h,Wp,gE hk]
  rfl)
 rw [← ek] at q
 exact q
theorem iR {i:Int}{k:Nat}(h:i.natAbs < 2^k):intBits i≤k:=intBits_le_iff.mpr h
theorem LB:aD ["_law_script","_law_k","_law_part"] ["_law_script","_law_k"] (ag zf):=sq
theorem Sl (D:Def K mg "_law_cell_at" zf ["_law_script","_law_k"])(bE:mg "len"=none):Fn P w K mg base CX 1 "_law_cell_at" ["_law_script","_law_k"] (nJ K):=by
 refine D.ok LB (fun vs H Q E h=> ?_) (fun f bC A outer s H vs Q E hr h=> ?_)
 ·obtain ⟨a,ns,k,rfl,_⟩:=h
  rfl
 obtain ⟨a,ns,k,rfl,hS,h0,h1,q⟩:=h
 refine ⟨_,(ae (bf (aQ sQ (pv 1) (aU a9 rfl bE dD (au (pv 0) aa)) (aV _)) (aj (aG (bD bu (pv 0) (pv 1) (fun _ _=>rfl)))) aJ)
  (ae (aH (i:=2) LB.nd rfl (ab_ rfl) (aL fm (aL cE (aL cE (aL cp (pv 1) ah) (aL cp (pv 1) ah)) ah) ah))
  (aj (aG (aL fm (aL cE (pv 2) (pv 2)) ah))))),?_⟩
 have hl:(ns.map V.int).length=ns.length:=aaa _
 refine ⟨_,rfl,_,rfl,a,_,rfl,.inl hS,_,_,rfl,rfl,_,rfl,?_⟩
 refine a_ (fun c=> ?_) (fun c=> ?_)
 ·have c' :k < (((ns.map V.int).length:Nat):Int):=of_decide_eq_true c
  rw [hl] at c'
  exact ⟨_,rfl,_,rfl,a,_,k,_,rfl,rfl,hS,cell_in h0 c',q⟩
 ·have c' :¬ k < (((ns.map V.int).length:Nat):Int):=of_decide_eq_false (am1.mpr c)
  rw [hl] at c'
  have b5:intBits (k+5)≤11:=iR (by show _ < 2048;omega)
  have e1:=lW (x:=(k+5)*(k+5)*48271) (m:=2147483647) (by decide)
  have bp:intBits (((k+5)*(k+5)*48271).fmod 2147483647)≤31:=iR (by show _ < 2147483648;omega)
  refine ⟨_,rfl,_,_,rfl,rfl,_,rfl,_,_,rfl,rfl,_,_,rfl,rfl,⟨aaj b5 (by decide),aaj b5 (by decide)⟩,?_⟩
  refine ⟨_,_,rfl,rfl,⟨aaj (intBits_mul_le b5 b5) (by decide),by decide+kernel⟩,_,_,rfl,rfl,nz (by decide),?_⟩
  refine ⟨_,rfl,_,rfl,_,_,rfl,rfl,⟨aaj bp (by decide),aaj bp (by decide)⟩,_,_,rfl,rfl,nz (by decide),?_⟩
  have e:cell ns k=((((k+5)*(k+5)*48271).fmod 2147483647)*(((k+5)*(k+5)*48271).fmod 2147483647)).fmod 2147483629:=by
   unfold cell
   rw [if_neg c']
  rw [e] at q
  exact q
def field (c p m:Int):Int:=(((c.fmod p+11)*48271).fmod p).fmod m
theorem aY {c p m:Int}(h:0 < m):0≤field c p m∧field c p m < m:=lW h
inductive d3 (vs:List V)(H:Hp)(Q:VK)(E_:XK):Prop where
 | mk (c p m:Int) (_:vs=[.int c,.int p,.int m]) (_:0 < p) (_:p≤2000000) (_:0 < m) (_:Q (.int (field c p m)) H):d3 vs H Q E_
theorem Sn:aD ["_law_cell","_law_prime","_law_many"] ["_law_cell","_law_prime","_law_many"] (ag zg):=sq
theorem So (D:Def K mg "_law_field" zg ["_law_cell","_law_prime","_law_many"]):Fn P w K mg base CX 1 "_law_field" ["_law_cell","_law_prime","_law_many"] d3:=by
 refine D.ok Sn (fun vs H Q E h=> ?_) (fun f bC A outer s H vs Q E hr h=> ?_)
 ·obtain ⟨c,p,m,rfl,_⟩:=h
  rfl
 obtain ⟨c,p,m,rfl,hp,Qx,hm,q⟩:=h
 refine ⟨_,(aj (aG (aL fm (aL fm (aL cE (aL cp (aL fm (pv 0) (pv 1)) ah) ah) (pv 1)) (pv 2)))),?_⟩
 have e1:=lW (x:=c) hp
 refine ⟨_,rfl,_,rfl,_,_,rfl,rfl,nz (by omega),_,_,rfl,rfl,_,_,rfl,rfl,⟨aaj (iR (k:=22) (by show _ < 4194304;omega)) (by decide),by decide+kernel⟩,?_⟩
 exact ⟨_,rfl,_,_,rfl,rfl,nz (by omega),_,rfl,_,_,rfl,rfl,nz (by omega),q⟩
inductive du (vs:List V)(H:Hp)(Q:VK)(E_:XK):Prop where
 | mk (t b:Int) (_:vs=[.int t,.int b]) (_:0 < b) (_:gives H Q (low t b)):du vs H Q E_
theorem xN:aD ["_law_top","_law_bottom","_law_one_here","_law_other"] ["_law_top","_law_bottom"] (ag zh):=sq
theorem Sq (ht:P.given.tree=none)(D:Def K mg "_law_lowest" zh ["_law_top","_law_bottom"])(qm:mg "abs"=none):Fn P w K mg base (a8 P w) 33 "_law_lowest" ["_law_top","_law_bottom"] du:=by
 refine D.ok xN (fun vs H Q E h=> ?_) (fun f bC A outer s H vs Q E hr h=> ?_)
 ·obtain ⟨t,b,rfl,_⟩:=h
  rfl
 obtain ⟨t,b,rfl,hb,q⟩:=h
 refine ⟨_,(ae (aH (i:=2) xN.nd rfl (ab_ rfl) (aU sR rfl qm Ld (au (pv 0) aa)))
  (ae (aH (i:=3) xN.nd rfl (ab_ rfl) (pv 1))
  (ae (ma PassesOwn.never (aQ kh (pv 3) ah (aV _)) (aj (MD (i:=2) (j:=3) rfl xN.nd rfl rfl (by decide) rfl rfl (au (pv 3) (au (aL fm (pv 2) (pv 3)) aa)) rfl)))
  (aj (aG (aR (au (aL (fe ht (Ty.b8.py hr (by decide)) rfl rfl rfl rfl rfl) (pv 0) (pv 2)) (au (aL (fe ht (Ty.b8.py hr (by decide)) rfl rfl rfl rfl rfl) (pv 1) (pv 2)) aa)))))))),?_⟩
 refine ⟨_,rfl,t,rfl,?_⟩
 refine ⟨_,rfl,?_⟩
 refine sO (fun σ H' =>∃x y:Int,σ=[some (.int t),some (.int b),some (.int x),some (.int y)]∧H' =H∧0≤x∧0≤y∧afE x y=afE t b) (fun σ _=>match σ with | [_,_,_,some (.int y)]=>y.natAbs | _=>0) ⟨_,b,rfl,rfl,?_,by omega,?_⟩ ?_ ?_
 ·split <;> omega
 ·split
  ·exact Int.neg_gcd
  ·rfl
 ·rintro σ H' ⟨x,y,rfl,rfl,hx,hy,g⟩
  refine ⟨_,rfl,rfl,_,rfl,?_⟩
  refine a_ (fun c=> ?_) (fun c=> ?_)
  ·have JS:y≠0:=by
    intro z
    subst z
    simp at c
   refine ⟨_,rfl,_,rfl,_,rfl,_,_,rfl,rfl,JS,_,_,rfl,?_⟩
   exact ⟨⟨_,_,rfl,rfl,hy,agm _ (by omega),by rw [sY];exact g⟩,pO JS⟩
  ·have JS:y=0:=by
    have:=am1.mpr c
    simp at this
    exact this
   subst JS
   have e:x=sg t b:=by
    rw [anP] at g
    unfold sg
    rw [if_neg (by omega)]
    unfold gz
    rw [← g]
    omega
   subst e
   have hbn:b≠0:=by omega
   have c:=mn (t:=t) hbn
   refine ⟨_,rfl,_,rfl,_,_,rfl,rfl,c,_,rfl,_,rfl,_,_,rfl,rfl,c,(by show 2≤sizeLine;decide),fun p hp=> ?_⟩
   exact q p _ (aI hp _) ak
 ·rintro σ H' Q1 Q2 h ⟨v,e1,e2,k,ek,z⟩
  exact ⟨v,e1,e2,k,ek,h _ _ z⟩
structure Ns (n:Nat)(q:Int×Int):Prop where
 top:q.1.natAbs≤2^n
 bot:q.2.natAbs≤2^n
theorem Ns.up {m n:Nat}{q:Int×Int}(h:Ns m q)(l:m≤n):Ns n q:=⟨aaj h.top (afp (by decide) l),aaj h.bot (afp (by decide) l)⟩
def j3 (K:Frag)(H:Hp)(v:V)(n:Nat)(r:Rat):Prop:=∃q:Int×Int,kO K H v q∧0 < q.2∧vl q=r∧Ns n q
theorem j3.same {H H' :Hp}{v:V}{n:Nat}{r:Rat}(h:j3 K H v n r)(s:av H H'):j3 K H' v n r:=by
 obtain ⟨q,h1,h2⟩:=h
 exact ⟨q,h1.same s,h2⟩
theorem j3.aS {H H' :Hp}{v:V}{n:Nat}{r:Rat}(h:j3 K H v n r)(s:bh H H'):j3 K H' v n r:=by
 obtain ⟨q,h1,h2⟩:=h
 exact ⟨q,h1.aS s,h2⟩
theorem j3.up {H:Hp}{v:V}{m n:Nat}{r:Rat}(h:j3 K H v m r)(l:m≤n):j3 K H v n r:=by
 obtain ⟨q,h1,h2,h3,h4⟩:=h
 exact ⟨q,h1,h2,h3,h4.up l⟩
theorem gT {H:Hp}{v:V}{n:Nat}{r:Rat}(h:gA K H v r)(z:Zb n r):j3 K H v n r:=⟨qr r,h,c9 r,gx r,⟨z.top,z.bot⟩⟩
theorem xO {k n:Nat}{r:Rat}(h:Sz k r)(l:k≤n):Zb n r:=⟨af2 (afc (intBits_le_iff.mp h.top) (afp (by decide) l)),af2 (afc (intBits_le_iff.mp h.bot) (afp (by decide) l))⟩
theorem xP {q:Int×Int}(h:0 < q.2):q.1=0 ↔ vl q=0:=by
 unfold vl
 have z:((q.2:Int):Rat)≠0:=cw (afS h)
 constructor
 ·intro e
  rw [e]
  have:((0:Int):Rat)=0:=by rfl
  rw [this]
  grind
 ·intro e
  apply afw
  intro n
  have y:((q.1:Int):Rat)≠0:=cw n
  exact (by grind:¬ ((q.1:Int):Rat) / ((q.2:Int):Rat)=0) e
def fC (x y:Int×Int):Int×Int:=(x.1*y.2+y.1*x.2,x.2*y.2)
def oN (x y:Int×Int):Int×Int:=(x.1*y.1,x.2*y.2)
theorem eh {a b:Int}{m n:Nat}(h1:a.natAbs≤2^m)(h2:b.natAbs≤2^n):(a*b).natAbs≤2^(m+n):=by
 rw [af3,am8]
 exact afR h1 h2
theorem Ka {x y:Int×Int}{m n:Nat}(hx:0 < x.2)(hy:0 < y.2)(zx:Ns m x)(zy:Ns n y):0 < (fC x y).2∧vl (fC x y)=vl x+vl y∧Ns (m+n+1) (fC x y):=by
 refine ⟨agB hx hy,?_,?_,?_⟩
 ·unfold vl fC
  have z1:((x.2:Int):Rat)≠0:=cw (afS hx)
  have z2:((y.2:Int):Rat)≠0:=cw (afS hy)
  push_cast
  grind
 ·have h1:=eh zx.top zy.bot
  have h2:=eh zy.top zx.bot
  rw [anv n m] at h2
  have h3:=agw (x.1*y.2) (y.1*x.2)
  show (x.1*y.2+y.1*x.2).natAbs≤2^(m+n+1)
  rw [amZ]
  omega
 ·exact aaj (eh zx.bot zy.bot) (afp (by decide) (by omega))
theorem Kb {x y:Int×Int}{m n:Nat}(hx:0 < x.2)(hy:0 < y.2)(zx:Ns m x)(zy:Ns n y):0 < (oN x y).2∧vl (oN x y)=vl x*vl y∧Ns (m+n) (oN x y):=by
 refine ⟨agB hx hy,?_,eh zx.top zy.top,eh zx.bot zy.bot⟩
 unfold vl oN
 have z1:((x.2:Int):Rat)≠0:=cw (afS hx)
 have z2:((y.2:Int):Rat)≠0:=cw (afS hy)
 push_cast
 grind
inductive c_ (K:Frag)(f:Int×Int→Int×Int→Int×Int)(vs:List V)(H:Hp)(Q:VK)(E_:XK):Prop where
 | mk (u v:V) (x y:Int×Int) (m n:Nat) (_:vs=[u,v]) (_:kO K H u x) (_:kO K H v y) (_:Ns m x) (_:Ns n y) (_:m+n≤130000000) (_:gives H Q (f x y)):c_ K f vs H Q E_
theorem rJ {H:Hp}{u v:V}{m n:Nat}{x y:Rat}{Q:VK}{E:XK}(h1:j3 K H u m x)(h2:j3 K H v n y)(l:m+n≤130000000)(k:∀(p:Addr) (H' :Hp),av H H' →j3 K H' (.ref p) (m+n+1) (x+y)→Q (.ref p) H'):c_ K fC [u,v] H Q E:=by
 obtain ⟨q1,a1,a2,a3,a4⟩:=h1
 obtain ⟨q2,b1,b2,b3,b4⟩:=h2
 obtain ⟨c1,c2,c3⟩:=Ka a2 b2 a4 b4
 exact ⟨u,v,q1,q2,m,n,rfl,a1,b1,a4,b4,l,fun p H' s e=>k p H' s ⟨fC q1 q2,⟨p,rfl,bK.of e⟩,c1,by rw [c2,a3,b3],c3⟩⟩
theorem xQ {H:Hp}{u v:V}{m n:Nat}{x y:Rat}{Q:VK}{E:XK}(h1:j3 K H u m x)(h2:j3 K H v n y)(l:m+n≤130000000)(k:∀(p:Addr) (H' :Hp),av H H' →j3 K H' (.ref p) (m+n) (x*y)→Q (.ref p) H'):c_ K oN [u,v] H Q E:=by
 obtain ⟨q1,a1,a2,a3,a4⟩:=h1
 obtain ⟨q2,b1,b2,b3,b4⟩:=h2
 obtain ⟨c1,c2,c3⟩:=Kb a2 b2 a4 b4
 exact ⟨u,v,q1,q2,m,n,rfl,a1,b1,a4,b4,l,fun p H' s e=>k p H' s ⟨oN q1 q2,⟨p,rfl,bK.of e⟩,c1,by rw [c2,a3,b3],c3⟩⟩
inductive gu (K:Frag)(vs:List V)(H:Hp)(Q:VK)(E_:XK):Prop where
 | mk (u:V) (x:Int×Int) (_:vs=[u]) (_:kO K H u x) (_:gives H Q (0 - x.1,x.2)):gu K vs H Q E_
theorem uK {H:Hp}{u:V}{m:Nat}{x:Rat}{Q:VK}{E:XK}(h1:j3 K H u m x)(k:∀(p:Addr) (H' :Hp),av H H' →j3 K H' (.ref p) m (-x)→Q (.ref p) H'):gu K [u] H Q E:=by
 obtain ⟨q1,a1,a2,a3,a4⟩:=h1
 refine ⟨u,q1,rfl,a1,fun p H' s e=>k p H' s ⟨(0 - q1.1,q1.2),⟨p,rfl,bK.of e⟩,a2,?_,?_,a4.bot⟩⟩
 ·rw [← a3]
  unfold vl
  push_cast
  grind
 ·have:=a4.top
  show (0 - q1.1).natAbs≤2^m
  omega
theorem Sr:aD ["_law_one_here","_law_other"] ["_law_one_here","_law_other"] (ag zi):=sq
theorem Ss (D:Def K mg "_law_sum" zi ["_law_one_here","_law_other"]):Fn P w K mg base (a8 P w) 1 "_law_sum" ["_law_one_here","_law_other"] (c_ K fC):=by
 refine D.ok Sr (fun vs H Q E h=> ?_) (fun f bC A outer s H vs Q E hr h=> ?_)
 ·obtain ⟨u,v,x,y,m,n,rfl,_⟩:=h
  rfl
 obtain ⟨u,v,x,y,m,n,rfl,⟨p1,rfl,h1⟩,⟨p2,rfl,h2⟩,zx,zy,l,q⟩:=h
 refine ⟨_,(aj (aG (aR (au (aL cp (aL jg (aK (pv 0)) (aK (pv 1))) (aL jg (aK (pv 1)) (aK (pv 0)))) (au (aL jg (aK (pv 0)) (aK (pv 1))) aa))))),?_⟩
 refine ⟨_,rfl,p1,_,_,_,rfl,rfl,h1,iy,_,rfl,p2,_,_,_,rfl,rfl,h2,g9,_,_,rfl,rfl,gN zx.top zy.bot (by omega),?_⟩
 refine ⟨_,rfl,p2,_,_,_,rfl,rfl,h2,iy,_,rfl,p1,_,_,_,rfl,rfl,h1,g9,_,_,rfl,rfl,gN zy.top zx.bot (by omega),?_⟩
 refine ⟨_,_,rfl,rfl,?_⟩
 refine ⟨_,rfl,p1,_,_,_,rfl,rfl,h1,g9,_,rfl,p2,_,_,_,rfl,rfl,h2,g9,_,_,rfl,rfl,gN zx.bot zy.bot (by omega),(by show 2≤sizeLine;decide),?_⟩
 intro p3 n3;generalize eX:upd _ p3 _=H3;have ⟨s3,e3⟩:=nw n3 eX;clear eX
 exact q p3 H3 s3 e3
theorem Su:aD ["_law_one_here","_law_other"] ["_law_one_here","_law_other"] (ag zk):=sq
theorem Sv (D:Def K mg "_law_times" zk ["_law_one_here","_law_other"]):Fn P w K mg base (a8 P w) 1 "_law_times" ["_law_one_here","_law_other"] (c_ K oN):=by
 refine D.ok Su (fun vs H Q E h=> ?_) (fun f bC A outer s H vs Q E hr h=> ?_)
 ·obtain ⟨u,v,x,y,m,n,rfl,_⟩:=h
  rfl
 obtain ⟨u,v,x,y,m,n,rfl,⟨p1,rfl,h1⟩,⟨p2,rfl,h2⟩,zx,zy,l,q⟩:=h
 refine ⟨_,(aj (aG (aR (au (aL jg (aK (pv 0)) (aK (pv 1))) (au (aL jg (aK (pv 0)) (aK (pv 1))) aa))))),?_⟩
 refine ⟨_,rfl,p1,_,_,_,rfl,rfl,h1,iy,_,rfl,p2,_,_,_,rfl,rfl,h2,iy,_,_,rfl,rfl,gN zx.top zy.top (by omega),?_⟩
 refine ⟨_,rfl,p1,_,_,_,rfl,rfl,h1,g9,_,rfl,p2,_,_,_,rfl,rfl,h2,g9,_,_,rfl,rfl,gN zx.bot zy.bot (by omega),(by show 2≤sizeLine;decide),?_⟩
 intro p3 n3;generalize eX:upd _ p3 _=H3;have ⟨s3,e3⟩:=nw n3 eX;clear eX
 exact q p3 H3 s3 e3
theorem Sw:aD ["_law_one_here"] ["_law_one_here"] (ag zl):=sq
theorem Sx (D:Def K mg "_law_turned" zl ["_law_one_here"]):Fn P w K mg base (a8 P w) 1 "_law_turned" ["_law_one_here"] (gu K):=by
 refine D.ok Sw (fun vs H Q E h=> ?_) (fun f bC A outer s H vs Q E hr h=> ?_)
 ·obtain ⟨u,x,rfl,_⟩:=h
  rfl
 obtain ⟨u,x,rfl,⟨p1,rfl,h1⟩,q⟩:=h
 refine ⟨_,(aj (aG (aR (au (aL dR ah (aK (pv 0))) (au (aK (pv 0)) aa))))),?_⟩
 refine ⟨_,rfl,p1,_,_,_,rfl,rfl,h1,iy,_,_,rfl,rfl,_,rfl,p1,_,_,_,rfl,rfl,h1,g9,(by show 2≤sizeLine;decide),?_⟩
 intro p3 n3;generalize eX:upd _ p3 _=H3;have ⟨s3,e3⟩:=nw n3 eX;clear eX
 exact q p3 H3 s3 e3
def nameOf (st a k:Int):Str:=if st=0 then Txt.mul "p" (k+1) else if st=1 then Txt.mul "p" a++⟨#[(i6 (Str.ofString "bcdefghijklm").cps.toList k).getD 0]⟩++Txt.mul "p" (5 - a) else Txt.slice "12345" none (some a)++(toString k:String)
theorem uL:∀st:Fin 3,∀a:Fin 6,∀k:Fin 12,∀j:Fin 12,k≠j→nameOf (st.val:Int) (a.val:Int) (k.val:Int)≠nameOf (st.val:Int) (a.val:Int) (j.val:Int):=by decide+kernel
theorem N2:∀n:Fin 20,MulOk "p" (n.val:Int):=by
 intro n
 unfold MulOk
 revert n
 decide+kernel
theorem N3:∀k:Fin 12,i6 (Str.ofString "bcdefghijklm").cps.toList (k.val:Int)=some ((i6 (Str.ofString "bcdefghijklm").cps.toList (k.val:Int)).getD 0):=by decide+kernel
theorem FG:∀a:Fin 6,∀k:Fin 12,(Txt.mul "p" (a.val:Int)).length+(⟨#[(i6 (Str.ofString "bcdefghijklm").cps.toList (k.val:Int)).getD 0]⟩:Str).length≤1000∧
  (Txt.mul "p" (a.val:Int)++(⟨#[(i6 (Str.ofString "bcdefghijklm").cps.toList (k.val:Int)).getD 0]⟩:Str)).length+(Txt.mul "p" (5 - (a.val:Int))).length≤1000∧(Txt.slice "12345" none (some (a.val:Int))).length+(Str.ofString (toString (k.val:Int))).length≤1000:=by decide+kernel
inductive rK (vs:List V)(H:Hp)(Q:VK)(E_:XK):Prop where
 | mk (c k:Int) (_:vs=[.int c,.int k]) (_:0≤k) (_:k < 12) (_:Q (.str (nameOf (field c 3001 3) (field c 4001 6) k)) H):rK vs H Q E_
theorem FH:aD ["_law_cell","_law_k","_law_style","_law_at"] ["_law_cell","_law_k"] (ag vH):=sq
theorem Sy (hM:tu CX)(D:Def K mg "_law_name" vH ["_law_cell","_law_k"])(FI:mg "str"=none)(dc:Fn P w K mg base CX 1 "_law_field" ["_law_cell","_law_prime","_law_many"] d3):Fn P w K mg base CX 2 "_law_name" ["_law_cell","_law_k"] rK:=by
 refine D.ok FH (fun vs H Q E h=> ?_) (fun f bC A outer s H vs Q E hr h=> ?_)
 ·obtain ⟨c,k,rfl,_⟩:=h
  rfl
 obtain ⟨c,k,rfl,h0,h12,q⟩:=h
 have px:=tw (X:=kK CX P w K mg base ["_law_cell","_law_k","_law_style","_law_at"] "_law_name" (ag vH) f bC A outer s H E) hM
 refine ⟨_,(ae (aH (i:=2) FH.nd rfl (ab_ rfl) (aC dc hr.mo px (au (pv 0) (au ah (au ah aa)))))
  (ae (aH (i:=3) FH.nd rfl (ab_ rfl) (aC dc hr.mo px (au (pv 0) (au ah (au ah aa)))))
  (ae (bf (aQ d5 (pv 2) ah (aV _)) (aj (aG (aL qT ft (aL cp (pv 1) ah)))) aJ)
  (ae (bf (aQ d5 (pv 2) ah (aV _)) (aj (aG (aL iI (aL iI (aL qT ft (pv 3)) (bD MU ft (pv 1) (fun _ _=>rfl))) (aL qT ft (aL dR ah (pv 3)))))) aJ)
  (aj (aG (aL iI (fK M_ ft lH (fk (pv 3))) (cz qF rfl FI Qk (au (pv 1) aa))))))))),?_⟩
 have i1:=aY (c:=c) (p:=3001) (m:=3) (by decide)
 have i2:=aY (c:=c) (p:=4001) (m:=6) (by decide)
 refine ⟨_,rfl,_,_,_,rfl,by decide,by decide,by decide,?_⟩
 refine ⟨_,rfl,_,_,_,rfl,by decide,by decide,by decide,?_⟩
 generalize field c 3001 3=st at i1 q ⊢
 generalize field c 4001 6=a at i2 q ⊢
 obtain ⟨kn,rfl⟩:∃n:Nat,k=(n:Int):=⟨k.toNat,by omega⟩
 obtain ⟨an,rfl⟩:∃n:Nat,a=(n:Int):=⟨a.toNat,by omega⟩
 have mk:∀i:Int,0≤i→i < 20→MulOk "p" i:=fun i a b=>by
  have:=N2 ⟨i.toNat,by omega⟩
  rwa [show ((⟨i.toNat,by omega⟩:Fin 20).val:Int)=i by show ((i.toNat:Nat):Int)=i;omega] at this
 refine ⟨_,rfl,rfl,_,rfl,?_⟩
 refine a_ (fun z=> ?_) (fun z=> ?_)
 ·have z' :st=0:=by simpa [om] using z
  subst z'
  refine ⟨_,rfl,_,_,rfl,rfl,_,_,rfl,rfl,mk _ (by omega) (by omega),?_⟩
  exact q
 have z' :¬ st=0:=by simpa [om] using z
 have nl:=FG ⟨an,by omega⟩ ⟨kn,by omega⟩
 refine ⟨_,rfl,rfl,_,rfl,?_⟩
 refine a_ (fun z3=> ?_) (fun z3=> ?_)
 ·have Zk :st=1:=by simpa [om] using z3
  subst Zk
  refine ⟨_,rfl,_,_,rfl,rfl,mk _ (by omega) (by omega),_,rfl,_,_,_,rfl,rfl,(by decide+kernel),N3 ⟨kn,by omega⟩,?_⟩
  refine ⟨_,_,rfl,rfl,aaj nl.1 (by decide),_,rfl,_,_,rfl,rfl,_,_,rfl,rfl,mk _ (by omega) (by omega),_,_,rfl,rfl,aaj nl.2.1 (by decide),?_⟩
  exact q
 ·have Zk :¬ st=1:=by simpa [om] using z3
  refine ⟨_,rfl,_,rfl,_,rfl,(by decide+kernel),?_⟩
  have lg:(kn:Int).natAbs.log2 < 1920:=afe (Nat.log2_le_self _) (by show kn < 1920;omega)
  refine ⟨_,rfl,_,rfl,lg,_,_,rfl,rfl,aaj nl.2.2 (by decide),?_⟩
  have e:nameOf st (an:Int) (kn:Int)=Txt.slice "12345" none (some (an:Int))++Str.ofString (toString (kn:Int)):=by
   unfold nameOf
   rw [if_neg z',if_neg Zk]
  rw [e] at q
  exact q
def gU (ws:List (Rat×Rat)):Prop:=ws=[]∨(∃x y:Rat,ws=[(x,y)]∧¬ (x=0∧y=0)∧Sz 22 x∧Sz 22 y)∨ws=[(1,0),(0,1)]
theorem iS {K:Frag}{H:Hp}{p:Addr}(i:Int)(h:H p=some (.tup [.int i,.int 1])):gA K H (.ref p) (i:Rat):=⟨p,rfl,by rw [mU];exact bK.of h⟩
theorem jv {K:Frag}{H:Hp}{p:Addr}{r:Rat}(h:H p=some (.tup [.int (qr r).1,.int (qr r).2])):gA K H (.ref p) r:=⟨p,rfl,bK.of h⟩
theorem iB {K:Frag}{H:Hp}{p:Addr}{u v:V}{r s:Rat}(h:H p=some (.tup [u,v]))(h1:gA K H u r)(h2:gA K H v s):dZ K H (.ref p) (r,s):=⟨p,u,v,rfl,bK.of h,h1,h2⟩
theorem jw {k:Nat}{i:Int}(h:i.natAbs < 1048576)(hk:20≤k):Sz k (i:Rat):=gf (afc h (show 2^20≤2^k from afp (by decide) hk)) (by omega)
theorem hW {t b:Int}(h:0 < b)(h1:t.natAbs < 1048576)(h2:b < 1048576):Sz 20 ((t:Rat) / (b:Rat)):=DX (afS h) (intBits_le_iff.mpr (by show _ < 1048576;omega)) (intBits_le_iff.mpr (by show _ < 1048576;omega))
theorem uM {i:Int}(h:i≤500002):(i:Rat)≤500002:=by
 have:=agp.mpr h
 simpa using this
theorem lX {t b:Int}(hb:0 < b)(h:t≤500002):(t:Rat) / (b:Rat)≤500002:=by
 have gC :(0:Rat) < (b:Rat):=by
  have:=Rat.intCast_lt_intCast.mpr hb
  simpa using this
 have h1:t≤500002*b:=by
  have:(500002:Int)*1≤500002*b:=Int.mul_le_mul_of_nonneg_left (by omega) (by decide)
  omega
 have h2:(t:Rat)≤500002*(b:Rat):=by
  have:=agp.mpr h1
  simpa using this
 have e:(t:Rat) / (b:Rat)*(b:Rat)=(t:Rat):=by
  have sE:(b:Rat)≠0:=by grind
  grind
 generalize (t:Rat) / (b:Rat)=z at e
 by_cases c:z≤500002
 ·exact c
 ·have c' :500002 < z:=by grind
  have:=Rat.mul_lt_mul_of_pos_right c' gC
  grind
theorem uN {i:Int}(h:i≤500002)(h2: -500002≤i): -500002≤(i:Rat)∧(i:Rat)≤500002:=by
 refine ⟨?_,uM h⟩
 have:=agp.mpr h2
 simpa using this
theorem xR {t b:Int}(hb:0 < b)(h:t≤500002)(h2: -500002≤t): -500002≤(t:Rat) / (b:Rat)∧(t:Rat) / (b:Rat)≤500002:=by
 refine ⟨?_,lX hb h⟩
 have:=lX (t:= -t) hb (by omega)
 have e:((-t:Int):Rat) / (b:Rat)= -((t:Rat) / (b:Rat)):=by
  push_cast
  grind
 rw [e] at this
 grind
inductive rL (K:Frag)(vs:List V)(H:Hp)(Q:VK)(E_:XK):Prop where
 | mk (c k:Int) (_:vs=[.int c,.int k]) (_:∀(p:Addr) (x y:Rat) (H' :Hp),av H H' →Sz 20 x→Sz 20 y→x≤500002→(-500002≤y∧y≤500002)→dZ K H' (.ref p) (x,y)→Q (.ref p) H'):rL K vs H Q E_
theorem FJ:aD ["_law_cell","_law_kind","_law_x"] ["_law_cell","_law_kind"] (ag zo):=sq
theorem SA (D:Def K mg "_law_spot" zo ["_law_cell","_law_kind"])(dc:Fn P w K mg base (a8 P w) 1 "_law_field" ["_law_cell","_law_prime","_law_many"] d3)(rM:Fn P w K mg base (a8 P w) 33 "_law_lowest" ["_law_top","_law_bottom"] du):Fn P w K mg base (a8 P w) 34 "_law_spot" ["_law_cell","_law_kind"] (rL K):=by
 refine D.ok FJ (fun vs H Q E h=> ?_) (fun f bC A outer s H vs Q E hr h=> ?_)
 ·obtain ⟨c,k,rfl,_⟩:=h
  rfl
 obtain ⟨c,k,rfl,q⟩:=h
 have L2:2≤sizeLine:=by decide
 refine ⟨_,(ae (bf (aQ d5 (pv 1) ah (aV _)) (aj (aG (aR (au (aR (au (aC dc hr.mo pX (au (pv 0) (au ah (au ah aa)))) (au ah aa))) (au (aR (au (aC dc hr.mo pX (au (pv 0) (au ah (au ah aa)))) (au ah aa))) aa))))) aJ)
  (ae (bf (aQ d5 (pv 1) ah (aV _)) (ae (aH (i:=2) FJ.nd rfl (ab_ rfl) (aC rM hr.mo pX (au (aL dR (aC dc hr.mo pX (au (pv 0) (au ah (au ah aa)))) ah) (au (aL cp ah (aC dc hr.mo pX (au (pv 0) (au ah (au ah aa))))) aa))))
   (aj (aG (aR (au (pv 2) (au (aC rM hr.mo pX (au (aL dR (aC dc hr.mo pX (au (pv 0) (au ah (au ah aa)))) ah) (au (aL cp ah (aC dc hr.mo pX (au (pv 0) (au ah (au ah aa))))) aa))) aa)))))) aJ)
  (ae (aH (i:=2) FJ.nd rfl (ab_ rfl) (aC rM hr.mo pX (au (aL dR (aC dc hr.mo pX (au (pv 0) (au ah (au ah aa)))) ah) (au (aL cp ah (aC dc hr.mo pX (au (pv 0) (au ah (au ah aa))))) aa))))
  (aj (aG (aR (au (pv 2) (au (aC rM hr.mo pX (au (aL dR (aC dc hr.mo pX (au (pv 0) (au ah (au ah aa)))) ah) (au (aL cp ah (aC dc hr.mo pX (au (pv 0) (au ah (au ah aa))))) aa))) aa)))))))),?_⟩
 refine ⟨_,rfl,rfl,_,rfl,?_⟩
 refine a_ (fun _=> ?_) (fun _=> ?_)
 ·have i1:=aY (c:=c) (p:=1009) (m:=4) (by decide)
  have i2:=aY (c:=c) (p:=2003) (m:=4) (by decide)
  refine ⟨_,rfl,_,_,_,rfl,by decide,by decide,by decide,L2,?_⟩
  intro p1 n1;generalize eX:upd _ p1 _=H1;have ⟨s1,e1⟩:=nw n1 eX;clear eX
  refine ⟨_,rfl,_,_,_,rfl,by decide,by decide,by decide,L2,?_⟩
  intro p2 n2;generalize eX:upd _ p2 _=H2;have ⟨s2,e2⟩:=nw n2 eX;clear eX
  refine ⟨L2,?_⟩
  intro p3 n3;generalize eX:upd _ p3 _=H3;have ⟨s3,e3⟩:=nw n3 eX;clear eX
  exact q p3 _ _ H3 ((s1.trans s2).trans s3) (jw (by omega) (by decide)) (jw (by omega) (by decide)) (uM (by omega)) (uN (by omega) (by omega)) (iB e3 (((iS _ e1).same s2).same s3) ((iS _ e2).same s3))
 refine ⟨_,rfl,rfl,_,rfl,?_⟩
 refine a_ (fun _=> ?_) (fun _=> ?_)
 ·have i1:=aY (c:=c) (p:=1009) (m:=13) (by decide)
  have i2:=aY (c:=c) (p:=3001) (m:=3) (by decide)
  have i3:=aY (c:=c) (p:=2003) (m:=13) (by decide)
  have i4:=aY (c:=c) (p:=4001) (m:=2) (by decide)
  refine ⟨_,rfl,_,_,_,rfl,by decide,by decide,by decide,_,_,rfl,rfl,_,rfl,_,_,_,rfl,by decide,by decide,by decide,_,_,rfl,rfl,_,_,rfl,by omega,fun p1 H1 s1 e1=> ?_⟩
  rw [gd (by omega)] at e1
  refine ⟨_,rfl,_,rfl,_,_,_,rfl,by decide,by decide,by decide,_,_,rfl,rfl,_,rfl,_,_,_,rfl,by decide,by decide,by decide,_,_,rfl,rfl,_,_,rfl,by omega,fun p2 H2 s2 e2=>⟨L2,?_⟩⟩
  rw [gd (by omega)] at e2
  intro p3 n3;generalize eX:upd _ p3 _=H3;have ⟨s3,e3⟩:=nw n3 eX;clear eX
  exact q p3 _ _ H3 ((s1.trans s2).trans s3) (hW (by omega) (by omega) (by omega)) (hW (by omega) (by omega) (by omega)) (lX (by omega) (by omega)) (xR (by omega) (by omega) (by omega)) (iB e3 (((jv e1).same s2).same s3) ((jv e2).same s3))
 ·have i1:=aY (c:=c) (p:=1000003) (m:=1000003) (by decide)
  have i2:=aY (c:=c) (p:=3001) (m:=997) (by decide)
  have i3:=aY (c:=c) (p:=1000033) (m:=1000003) (by decide)
  have i4:=aY (c:=c) (p:=4001) (m:=997) (by decide)
  refine ⟨_,rfl,_,_,_,rfl,by decide,by decide,by decide,_,_,rfl,rfl,_,rfl,_,_,_,rfl,by decide,by decide,by decide,_,_,rfl,rfl,_,_,rfl,by omega,fun p1 H1 s1 e1=> ?_⟩
  rw [gd (by omega)] at e1
  refine ⟨_,rfl,_,rfl,_,_,_,rfl,by decide,by decide,by decide,_,_,rfl,rfl,_,rfl,_,_,_,rfl,by decide,by decide,by decide,_,_,rfl,rfl,_,_,rfl,by omega,fun p2 H2 s2 e2=>⟨L2,?_⟩⟩
  rw [gd (by omega)] at e2
  intro p3 n3;generalize eX:upd _ p3 _=H3;have ⟨s3,e3⟩:=nw n3 eX;clear eX
  exact q p3 _ _ H3 ((s1.trans s2).trans s3) (hW (by omega) (by omega) (by omega)) (hW (by omega) (by omega) (by omega)) (lX (by omega) (by omega)) (xR (by omega) (by omega) (by omega)) (iB e3 (((jv e1).same s2).same s3) ((jv e2).same s3))
inductive lY (K:Frag)(vs:List V)(H:Hp)(Q:VK)(E_:XK):Prop where
 | mk (c:Int) (_:vs=[.int c]) (_:∀(l:Addr) (us:List V) (ws:List (Rat×Rat)) (H' :Hp),gU ws→av H H' →H l=none→H' l=some (.lst us)→gB K H' us ws→Q (.ref l) H'):lY K vs H Q E_
theorem Kc {r:Rat}:(qr r).1=0 ↔ r=0:=⟨rD,fun e=>by rw [e,cC]⟩
theorem uO:aD ["_law_cell","_law_kind","_law_x","_law_y"] ["_law_cell"] (ag zq):=sq
theorem SD (D:Def K mg "_law_ways" zq ["_law_cell"])(dc:Fn P w K mg base (a8 P w) 1 "_law_field" ["_law_cell","_law_prime","_law_many"] d3)(rM:Fn P w K mg base (a8 P w) 33 "_law_lowest" ["_law_top","_law_bottom"] du):Fn P w K mg base (a8 P w) 34 "_law_ways" ["_law_cell"] (lY K):=by
 refine D.ok uO (fun vs H Q E h=> ?_) (fun f bC A outer s H vs Q E hr h=> ?_)
 ·obtain ⟨c,rfl,_⟩:=h
  rfl
 obtain ⟨c,rfl,q⟩:=h
 have L0:0≤sizeLine:=by decide
 have L1:1≤sizeLine:=by decide
 have L2:2≤sizeLine:=by decide
 refine ⟨_,(ae (aH (i:=1) uO.nd rfl (ab_ rfl) (aC dc hr.mo pX (au (pv 0) (au ah (au ah aa)))))
  (ae (bf (aQ sQ (pv 1) ah (aV _)) (aj (aG (cu aa))) aJ)
  (ae (bf (aQ sQ (pv 1) ah (aV _)) (aj (aG (cu (au (aR (au (aR (au ah (au ah aa))) (au (aR (au ah (au ah aa))) aa))) (au (aR (au (aR (au ah (au ah aa))) (au (aR (au ah (au ah aa))) aa))) aa))))) aJ)
  (ae (aH (i:=2) uO.nd rfl (ab_ rfl) (aC rM hr.mo pX (au (aL dR (aC dc hr.mo pX (au (pv 0) (au ah (au ah aa)))) ah) (au (aL cp ah (aC dc hr.mo pX (au (pv 0) (au ah (au ah aa))))) aa))))
  (ae (aH (i:=3) uO.nd rfl (ab_ rfl) (aC rM hr.mo pX (au (aL dR (aC dc hr.mo pX (au (pv 0) (au ah (au ah aa)))) ah) (au (aL cp ah (aC dc hr.mo pX (au (pv 0) (au ah (au ah aa))))) aa))))
  (ae (bf (PW.pt (u5 (aQ d5 (aK (pv 2)) ah (aV _)) (qD (aQ d5 (aK (pv 3)) ah (aV _))))) (aj (aH (i:=3) uO.nd rfl (ab_ rfl) (aR (au ah (au ah aa))))) aJ)
  (aj (aG (cu (au (aR (au (pv 2) (au (pv 3) aa))) aa)))))))))),?_⟩
 refine ⟨_,rfl,_,_,_,rfl,by decide,by decide,by decide,?_⟩
 refine ⟨_,rfl,_,_,rfl,rfl,_,rfl,?_⟩
 refine a_ (fun _=> ?_) (fun _=> ?_)
 ·refine ⟨L0,?_⟩
  intro l nl;generalize eX:upd _ l _=H1;have ⟨s1,e1⟩:=nw nl eX;clear eX
  exact q l [] [] H1 (.inl rfl) s1 nl e1 .nil
 refine ⟨_,rfl,_,_,rfl,rfl,_,rfl,?_⟩
 refine a_ (fun _=> ?_) (fun _=> ?_)
 ·refine ⟨L2,?_⟩
  intro p1 n1;generalize eX:upd _ p1 _=H1;have ⟨s1,e1⟩:=nw n1 eX;clear eX
  refine ⟨L2,?_⟩
  intro p2 n2;generalize eX:upd _ p2 _=H2;have ⟨s2,e2⟩:=nw n2 eX;clear eX
  refine ⟨L2,?_⟩
  intro p3 n3;generalize eX:upd _ p3 _=H3;have ⟨s3,e3⟩:=nw n3 eX;clear eX
  refine ⟨L2,?_⟩
  intro p4 n4;generalize eX:upd _ p4 _=H4;have ⟨s4,e4⟩:=nw n4 eX;clear eX
  refine ⟨L2,?_⟩
  intro p5 n5;generalize eX:upd _ p5 _=H5;have ⟨s5,e5⟩:=nw n5 eX;clear eX
  refine ⟨L2,?_⟩
  intro p6 n6;generalize eX:upd _ p6 _=H6;have ⟨s6,e6⟩:=nw n6 eX;clear eX
  refine ⟨L2,?_⟩
  intro p7 n7;generalize eX:upd _ p7 _=H7;have ⟨s7,e7⟩:=nw n7 eX;clear eX
  have sh:=s1.trans (s2.trans (s3.trans (s4.trans (s5.trans s6))))
  have w1:dZ K H7 (.ref p3) (1,0):=xD m8 cC (s7 _ _ (s6 _ _ (s5 _ _ (s4 _ _ e3)))) (s7 _ _ (s6 _ _ (s5 _ _ (s4 _ _ (s3 _ _ (s2 _ _ e1)))))) (s7 _ _ (s6 _ _ (s5 _ _ (s4 _ _ (s3 _ _ e2)))))
  have w2:dZ K H7 (.ref p6) (0,1):=xD cC m8 (s7 _ _ e6) (s7 _ _ (s6 _ _ (s5 _ _ e4))) (s7 _ _ (s6 _ _ e5))
  exact q p7 _ [(1,0),(0,1)] _ (.inr (.inr rfl)) (sh.trans s7) (sh.free n7) e7 (.cons w1 (.cons w2 .nil))
 have i1:=aY (c:=c) (p:=6007) (m:=7) (by decide)
 have i2:=aY (c:=c) (p:=7001) (m:=3) (by decide)
 have i3:=aY (c:=c) (p:=8009) (m:=7) (by decide)
 have i4:=aY (c:=c) (p:=9001) (m:=2) (by decide)
 refine ⟨_,rfl,_,_,_,rfl,by decide,by decide,by decide,_,_,rfl,rfl,_,rfl,_,_,_,rfl,by decide,by decide,by decide,_,_,rfl,rfl,_,_,rfl,by omega,fun p1 H1 s1 e1=> ?_⟩
 rw [gd (by omega)] at e1
 refine ⟨_,rfl,_,_,_,rfl,by decide,by decide,by decide,_,_,rfl,rfl,_,rfl,_,_,_,rfl,by decide,by decide,by decide,_,_,rfl,rfl,_,_,rfl,by omega,fun p2 H2 s2 e2=> ?_⟩
 rw [gd (by omega)] at e2
 have z1:=hW (t:=field c 6007 7 - 3) (b:=1+field c 7001 3) (by omega) (by omega) (by omega)
 have z2:=hW (t:=field c 8009 7 - 3) (b:=1+field c 9001 2) (by omega) (by omega) (by omega)
 generalize ((field c 6007 7 - 3:Int):Rat) / ((1+field c 7001 3:Int):Rat)=x at e1 z1 ⊢
 generalize ((field c 8009 7 - 3:Int):Rat) / ((1+field c 9001 2:Int):Rat)=y at e2 z2 ⊢
 have xa :=s2 _ _ e1
 have A_:=s1.trans s2
 have fin:∀(v:V) (y' :Rat) (H3:Hp),av H2 H3→gA K H3 v y' →Sz 22 y' →¬ (x=0∧y' =0)→∀(p:Addr) (l:Addr) (H5:Hp),av H3 H5→H3 l=none→H5 p=some (.tup [.ref p1,v])→H5 l=some (.lst [.ref p])→Q (.ref l) H5:=fun v y' H3 s3 hv zy hn p l H5 s5 nl ep el=>
  q l [.ref p] [(x,y')] H5 (.inr (.inl ⟨x,y',rfl,hn,z1.up (by decide),zy⟩)) (A_.trans (s3.trans s5)) ((A_.trans s3).free nl) el (.cons (iB ep (((jv xa).same s3).same s5) (hv.same s5)) .nil)
 refine ⟨_,rfl,p1,_,_,_,rfl,rfl,bK.of xa,iy,rfl,_,rfl,?_⟩
 refine a_ (fun c1=> ?_) (fun c1=> ?_)
 ·have c1' :x=0:=Kc.mp (by simpa using of_decide_eq_true c1)
  refine ⟨_,rfl,p2,_,_,_,rfl,rfl,bK.of e2,iy,rfl,_,rfl,?_⟩
  refine a_ (fun c2=> ?_) (fun c2=> ?_)
  ·refine ⟨L2,?_⟩
   intro p3 n3;generalize eX:upd _ p3 _=H3;have ⟨s3,e3⟩:=nw n3 eX;clear eX
   refine ⟨_,rfl,_,rfl,L2,?_⟩
   intro p4 n4;generalize eX:upd _ p4 _=H4;have ⟨s4,e4⟩:=nw n4 eX;clear eX
   refine ⟨L1,?_⟩
   intro l5 n5;generalize eX:upd _ l5 _=H5;have ⟨s5,e5⟩:=nw n5 eX;clear eX
   exact fin (.ref p3) 1 H3 s3 (iS 1 e3) (jw (i:=1) (by decide) (by decide)) (fun z=>absurd z.2 (by decide)) p4 l5 H5 (s4.trans s5) (s4.free n5) (s5 _ _ e4) e5
  ·have c2' :¬ y=0:=fun z=>c2 (by rw [z,cC];decide)
   refine ⟨_,rfl,_,rfl,L2,?_⟩
   intro p4 n4;generalize eX:upd _ p4 _=H4;have ⟨s4,e4⟩:=nw n4 eX;clear eX
   refine ⟨L1,?_⟩
   intro l5 n5;generalize eX:upd _ l5 _=H5;have ⟨s5,e5⟩:=nw n5 eX;clear eX
   exact fin (.ref p2) y H2 (av.refl _) (jv e2) (z2.up (by decide)) (fun z=>c2' z.2) p4 l5 H5 (s4.trans s5) (s4.free n5) (s5 _ _ e4) e5
 ·have c1' :¬ x=0:=fun z=>c1 (by rw [z,cC];decide)
  refine M0 ?_
  refine ⟨_,rfl,_,rfl,L2,?_⟩
  intro p4 n4;generalize eX:upd _ p4 _=H4;have ⟨s4,e4⟩:=nw n4 eX;clear eX
  refine ⟨L1,?_⟩
  intro l5 n5;generalize eX:upd _ l5 _=H5;have ⟨s5,e5⟩:=nw n5 eX;clear eX
  exact fin (.ref p2) y H2 (av.refl _) (jv e2) (z2.up (by decide)) (fun z=>c1' z.1) p4 l5 H5 (s4.trans s5) (s4.free n5) (s5 _ _ e4) e5
inductive iT (K:Frag)(H:Hp)(d:Addr)(v:V)(p:aF):Prop where
 | mk (a l:Addr) (s:V) (us:List V) (_:v=.ref a) (_:bK K H a [.str p.nm,s,.ref l]) (_:dZ K H s p.sp) (_:H l=some (.lst us)) (_:gB K H us p.ws) (_:l≠d):iT K H d v p
inductive gw (K:Frag)(H:Hp)(v:V)(p:aF):Prop where
 | mk (a l:Addr) (s:V) (us:List V) (_:v=.ref a) (_:bK K H a [.str p.nm,s,.ref l]) (_:dZ K H s p.sp) (_:H l=some (.lst us)) (_:gB K H us p.ws):gw K H v p
inductive ie (K:Frag)(H:Hp)(pins:List aF)(v:V)(b:bB):Prop where
 | mk (a:Addr) (i j:Nat) (_:v=.ref a) (_:bK K H a [.str b.nm,.int (i:Int),.int (j:Int)]) (_:pins[i]? =some b.one) (_:pins[j]? =some b.other):ie K H pins v b
section
variable {K:Frag}{H H' :Hp}{v:V}{p:aF}{d:Addr}
theorem iT.same (h:iT K H d v p)(s:av H H'):iT K H' d v p:=by
 obtain ⟨a,l,sv,us,e,h1,h2,h3,h4,h5⟩:=h
 exact ⟨a,l,sv,us,e,Ty.av.cy s h1,h2.same s,s _ _ h3,h4.same s,h5⟩
theorem iT.upd {xs:List V}{o:HO}(h:iT K H d v p)(e:H d=some (.lst xs)):iT K (L2.upd H d o) d v p:=by
 obtain ⟨a,l,sv,us,ev,h1,h2,h3,h4,h5⟩:=h
 have t:bh H (L2.upd H d o):=.list e
 exact ⟨a,l,sv,us,ev,t.cy h1,h2.aS t,by rw [ao h5];exact h3,h4.aS t,h5⟩
theorem iT.r (h:iT K H d v p):gw K H v p:=by
 obtain ⟨a,l,sv,us,e,h1,h2,h3,h4,_⟩:=h
 exact ⟨a,l,sv,us,e,h1,h2,h3,h4⟩
theorem gw.same (h:gw K H v p)(s:av H H'):gw K H' v p:=by
 obtain ⟨a,l,sv,us,e,h1,h2,h3,h4⟩:=h
 exact ⟨a,l,sv,us,e,Ty.av.cy s h1,h2.same s,s _ _ h3,h4.same s⟩
theorem ie.same {pins:List aF}{b:bB}(h:ie K H pins v b)(s:av H H'):ie K H' pins v b:=by
 obtain ⟨a,i,j,e,h1,h2,h3⟩:=h
 exact ⟨a,i,j,e,Ty.av.cy s h1,h2,h3⟩
end
structure eA (pins:List aF):Prop where
 np:(pins.map (·.nm)).Nodup
 ns:(pins.map (·.sp)).Nodup
 sz:∀p∈pins,Sz 44 p.sp.1∧Sz 44 p.sp.2
 ws:∀p∈pins,gU p.ws
theorem gU.sz {ws:List (Rat×Rat)}(h:gU ws):∀w∈ws,Sz 22 w.1∧Sz 22 w.2:=fun w hw=>by
 rcases h with rfl | ⟨x,y,rfl,_,h1,h2⟩ | rfl
 ·cases hw
 ·have:w=(x,y):=by simpa using hw
  rw [this]
  exact ⟨h1,h2⟩
 ·have e1:Sz 22 (1:Rat):=jw (k:=22) (i:=1) (by decide) (by decide)
  have e0:Sz 22 (0:Rat):=ju (by decide)
  have:w=(1,0)∨w=(0,1):=by simpa using hw
  rcases this with rfl | rfl
  ·exact ⟨e1,e0⟩
  ·exact ⟨e0,e1⟩
theorem gU.len {ws:List (Rat×Rat)}(h:gU ws):ws.length≤2:=by
 rcases h with rfl | ⟨x,y,rfl,_⟩ | rfl <;> simp
theorem eA.snoc {pins:List aF}{p:aF}(g:eA pins)(h1:p.nm∉pins.map (·.nm))(h2:p.sp∉pins.map (·.sp))(h3:Sz 44 p.sp.1∧Sz 44 p.sp.2)(h4:gU p.ws):eA (pins++[p]):=by
 refine ⟨?_,?_,fun q hq=> ?_,fun q hq=> ?_⟩
 ·rw [afq,agz]
  refine ⟨g.np,by simp,fun a ha b hb e=>h1 ?_⟩
  have:b=p.nm:=by simpa using hb
  rw [← this, ← e]
  exact ha
 ·rw [afq,agz]
  refine ⟨g.ns,by simp,fun a ha b hb e=>h2 ?_⟩
  have:b=p.sp:=by simpa using hb
  rw [← this, ← e]
  exact ha
 ·rcases afg.mp hq with z | z
  ·exact g.sz q z
  ·rw [ae_.mp z]
   exact h3
 ·rcases afg.mp hq with z | z
  ·exact g.ws q z
  ·rw [ae_.mp z]
   exact h4
structure kG (pins:List aF)(ar:List bB):Prop where
 nb:(ar.map (·.nm)).Nodup
 ends:∀b∈ar,b.one∈pins∧b.other∈pins∧b.one.nm≠b.other.nm
theorem eE {α β:Type}{F:α→β→Prop}:∀{l₁:List α} {l₂:List β} {a:α} {b:β},Paired F l₁ l₂→F a b→Paired F (l₁++[a]) (l₂++[b])
 | _,_,_,_,.nil,h=>.cons h .nil
 | _,_,_,_,.cons h t,h' =>.cons h (eE t h')
theorem eG {t u:TS}{D:Ends}{σ:L2.St}{H:Hp}(inv:L2.St→Hp→Prop)(h1:∀N:L2.St→Hp→Prop,(∀σ' H',inv σ' H' →N σ' H')→t {D with nx:=N} σ H)(h2:∀σ' H',inv σ' H' →u D σ' H'):PJ t u D σ H:=h1 _ h2
theorem SE {pins:List aF}{ar:List bB}(g:eA pins)(b:kG pins ar)(lp:pins.length≤9)(lb:ar.length≤14):fU pins ar:=
 ⟨g.np,b.nb,b.ends,fun p hp=>⟨(g.sz p hp).1,(g.sz p hp).2,(g.ws p hp).sz⟩,lp,lb,fun p hp=>(g.ws p hp).len⟩
theorem SF:bootBuiltins "min"=some (.builtin "min"):=by decide+kernel
def cnt (pins:List aF)(x:Rat):Nat:=(pins.filter fun p=>decide (x≤p.sp.1)).length
theorem FK (x:Rat):∀pins:List aF,cnt pins (x+1)≤cnt pins x
 | []=>aai _
 | p::ps=>by
  have ih:=FK x ps
  unfold cnt at ih ⊢
  rw [afY,afY]
  by_cases c:x+1≤p.sp.1
  ·have c2:x≤p.sp.1:=by grind
   rw [if_pos (decide_eq_true c),if_pos (decide_eq_true c2)]
   simpa using ih
  ·rw [if_neg (by simpa using c)]
   split
   ·rw [afu]
    omega
   ·exact ih
theorem FL {x:Rat}:∀{pins:List aF},(∃p∈pins,p.sp.1=x)→cnt pins (x+1) < cnt pins x
 | [],⟨p,h,_⟩=>by simp at h
 | p::ps,⟨q,hq,e⟩=>by
  unfold cnt
  rw [afY,afY]
  by_cases c0:p.sp.1=x
  ·have c:¬ x+1≤p.sp.1:=by grind
   have c2:x≤p.sp.1:=by grind
   rw [if_neg (by simpa using c),if_pos (decide_eq_true c2),afu]
   have:=FK x ps
   unfold cnt at this
   omega
  ·have me :q∈ps:=by
    rcases afo.mp hq with z | z
    ·exact absurd (by rw [← z];exact e) c0
    ·exact z
   have ih:=FL (pins:=ps) ⟨q,me,e⟩
   unfold cnt at ih
   by_cases c:x+1≤p.sp.1
   ·have c2:x≤p.sp.1:=by grind
    rw [if_pos (decide_eq_true c),if_pos (decide_eq_true c2)]
    simpa using ih
   ·rw [if_neg (by simpa using c)]
    split
    ·rw [afu]
     omega
    ·exact ih
theorem Kd (pins:List aF)(x:Rat):cnt pins x≤pins.length:=afX _ _
theorem Ke (r:Rat):fC (qr r) (1,1)=qr (r+1):=by
 have e:fC (qr r) (1,1)=((qr r).1+(qr r).2,(qr r).2):=by
  unfold fC
  simp
 have g:afE ((qr r).1+(qr r).2) (qr r).2=1:=by
  have:=mT r
  rw [← this]
  simp
 rw [e,qf (q:=((qr r).1+(qr r).2,(qr r).2)) (c9 r) g]
 congr 1
 have z:=vv (r:=r)
 have v:=gx r
 unfold vl at v ⊢
 push_cast
 grind
theorem LC {k:Nat}{r:Rat}(h:Sz k r):Ns k (qr r):=⟨af2 (intBits_le_iff.mp h.top),af2 (intBits_le_iff.mp h.bot)⟩
theorem Kf:∀i:Fin 10,∃N:Fin 6,i6 [V.int 0,.int 1,.int 2,.int 2,.int 3,.int 3,.int 3,.int 4,.int 4,.int 5] (i.val:Int)=some (.int (N.val:Int)):=by decide+kernel
theorem z8:∀st:Fin 3,∀a:Fin 6,∀k:Fin 12,nameOf (st.val:Int) (a.val:Int) (k.val:Int)≠ "free"∧nameOf (st.val:Int) (a.val:Int) (k.val:Int)≠ "far":=by decide+kernel
inductive rN (K:Frag)(vs:List V)(H:Hp)(Q:VK)(E_:XK):Prop where
 | mk (sA:Addr) (ns:List Int) (_:vs=[.ref sA]) (_:ba K H sA (ns.map V.int)) (_:∀(l:Addr) (us:List V) (pins:List aF) (H' :Hp),av H H' →H l=none→H' l=some (.lst us)→Paired (iT K H' l) us pins→eA pins→pins.length≤5→(∀p∈pins,(p.nm≠ "free"∧p.nm≠ "far")∧p.sp.1≤500010∧Sz 20 p.sp.2∧ -500002≤p.sp.2∧p.sp.2≤500002)→Q (.ref l) H'):rN K vs H Q E_
theorem jx:aD ["_law_script","_law_cell","_law_many","_law_kind","_law_pins_here","_law_k","_law_spot_here"] ["_law_script"] (ag zu):=sq
theorem SG (D:Def K mg "_law_pins" zu ["_law_script"])(bQ:mg "range"=none)(FN:mg "min"=none)(nL:Fn P w K mg base (a8 P w) 1 "_law_cell_at" ["_law_script","_law_k"] (nJ K))(dc:Fn P w K mg base (a8 P w) 1 "_law_field" ["_law_cell","_law_prime","_law_many"] d3)
  (Zl:Fn P w K mg base (a8 P w) 34 "_law_spot" ["_law_cell","_law_kind"] (rL K)) (Kg:Fn P w K mg base (a8 P w) 34 "_law_ways" ["_law_cell"] (lY K)) (N4:Fn P w K mg base (a8 P w) 2 "_law_name" ["_law_cell","_law_k"] rK) (rO:Fn P w K mg base (a8 P w) 1 "_law_sum" ["_law_one_here","_law_other"] (c_ K fC)):
  Fn P w K mg base (a8 P w) 35 "_law_pins" ["_law_script"] (rN K):=by
 refine D.ok jx (fun vs H Q E h=> ?_) (fun f bC A outer s H vs Q E hr h=> ?_)
 ·obtain ⟨sA,ns,rfl,_⟩:=h
  rfl
 obtain ⟨sA,ns,rfl,hS,q⟩:=h
 have L2:2≤sizeLine:=by decide
 have L3:3≤sizeLine:=by decide
 refine ⟨_,(ae (aH (i:=1) jx.nd rfl (ab_ rfl) (aC nL hr.mo pX (au (pv 0) (au ah aa))))
  (ae (aH (i:=2) jx.nd rfl (ab_ rfl) (bD bu (cu (au ah (au ah (au ah (au ah (au ah (au ah (au ah (au ah (au ah (au ah aa))))))))))) (aC dc hr.mo pX (au (pv 1) (au ah (au ah aa)))) (fun _ _=>rfl)))
  (ae (aH (i:=3) jx.nd rfl (ab_ rfl) (aC dc hr.mo pX (au (pv 1) (au ah (au ah aa)))))
  (ae (bf (aQ d5 (pv 3) ah (aV _)) (aj (aH (i:=2) jx.nd rfl (ab_ rfl) (aU (yl rfl) rfl FN SF (au (pv 2) (au ah aa))))) aJ)
  (ae (aH (i:=4) jx.nd rfl (ab_ rfl) (cu aa))
  (ae (bF PassesOwn.never rfl (dP rfl bQ (au (pv 2) aa)) (aE (i:=5) jx.nd rfl (ab_ rfl)) (ae (aH (i:=6) jx.nd rfl (ab_ rfl) (aC Zl hr.mo pX (au (aC nL hr.mo pX (au (pv 0) (au (aL cp ah (pv 5)) aa))) (au (pv 3) aa))))
   (ae (ma PassesOwn.never (aQ (JE hr.units) (pv 6) (dX (tn:=["_law_pin"]) (fr:=[]) (caps:=[]) rfl ⟨rfl,by decide+kernel,rfl,by decide+kernel,by decide+kernel,rfl,trivial,trivial⟩ (bw (pv 4)) (fun _ _ _ _=>(aE (i:=0) (show (["_law_pin"]:List Str).Nodup from by decide+kernel) rfl (ab_ rfl))) (fun _ _ _ _=>fb) (fun _ _ _ _=>(bD (f' (K:=K) rfl) (pv 0) ah (fun _ _=>rfl)))) rfl) (aj (aH (i:=6) jx.nd rfl (ab_ rfl) (aR (au (aC rO hr.mo pX (au (aK (pv 6)) (au (aR (au ah (au ah aa))) aa))) (au (aK (pv 6)) aa))))))
   (aj (bg (i7 PySem.F.plainAttrs_list PySem.F.slot_list_append PySem.F.type_list_append dz (pv 4) (au (aR (au (aC N4 hr.mo pX (au (pv 1) (au (pv 5) aa))) (au (pv 6) (au (aC Kg hr.mo pX (au (aC nL hr.mo pX (au (pv 0) (au (aL cp ah (pv 5)) aa))) aa)) aa)))) aa)))))))
  (aj (aG (pv 4))))))))),?_⟩
 refine ⟨_,rfl,sA,ns,0,rfl,hS,by decide,by decide,?_⟩
 generalize cell ns 0=c0
 refine ⟨(by show 10≤sizeLine;decide),?_⟩
 intro t0 nt0;generalize eX:upd _ t0 _=H0;have ⟨N5,et0⟩:=nw nt0 eX;clear eX
 have i1:=aY (c:=c0) (p:=1009) (m:=10) (by decide)
 refine ⟨_,rfl,_,_,_,rfl,by decide,by decide,by decide,?_⟩
 generalize field c0 1009 10=fi at i1 ⊢
 obtain ⟨fn,rfl⟩:∃n:Nat,fi=(n:Int):=⟨fi.toNat,by omega⟩
 obtain ⟨N,eN⟩:=Kf ⟨fn,by omega⟩
 refine ⟨t0,_,_,_,rfl,rfl,ba.of et0,eN,?_⟩
 refine ⟨_,rfl,_,_,_,rfl,by decide,by decide,by decide,?_⟩
 generalize field c0 2003 3=kind
 dsimp only
 refine eG (fun σ' H' =>∃N:Nat,N≤5∧σ' =[some (.ref sA),some (.int c0),some (.int (N:Int)),some (.int kind),none,none,none]∧H' =H0) (fun Nx sG=> ?_) ?_
 ·refine ⟨_,rfl,rfl,_,rfl,?_⟩
  refine a_ (fun _=> ?_) (fun _=> ?_)
  ·have hN:=N.isLt
   refine ⟨_,rfl,_,_,rfl,?_⟩
   refine sG _ _ ⟨min N.val 4,by omega,?_,rfl⟩
   have:(if (4:Int) < (N.val:Int) then (4:Int) else (N.val:Int))=((min N.val 4:Nat):Int):=by
    split <;> omega
   rw [this]
   rfl
  ·exact sG _ _ ⟨N.val,by have:=N.isLt;omega,rfl,rfl⟩
 rintro σ' H' ⟨N,hN,rfl,rfl⟩
 refine ⟨(by show 0≤sizeLine;decide),?_⟩
 intro lp np;generalize eX:upd _ lp _=H1;have ⟨sp,ep⟩:=nw np eX;clear eX
 have s01:=N5.trans sp
 have xE:H lp=none:=N5.free np
 refine ⟨_,rfl,(N:Int),rfl,by omega,by omega,fJ (lo:=0) (n:=N) (fun i σ H' =>∃(o5 o6:Option V) (us:List V) (pins:List aF),σ=[some (.ref sA),some (.int c0),some (.int (N:Int)),some (.int kind),some (.ref lp),o5,o6]∧av H H' ∧H' lp=some (.lst us)∧Paired (iT K H' lp) us pins∧eA pins∧pins.length=i∧∀p∈pins,∃j,j < i∧p.nm=nameOf (field c0 3001 3) (field c0 4001 6) (j:Int)∧p.sp.1≤500010∧Sz 20 p.sp.2∧ -500002≤p.sp.2∧p.sp.2≤500002) ⟨none,none,[],[],rfl,s01,ep,.nil,⟨by simp,by simp,by simp,by simp⟩,rfl,by simp⟩ ?_ ?_⟩
 ·rintro i σ H2 hi ⟨o5,o6,us,pins,rfl,s2,e2,pp,gp,lpi,nm⟩
  have ei:(0:Int)+(i:Int)=(i:Int):=afU _
  rw [ei]
  have lu:us.length=pins.length:=Paired.length pp
  refine ⟨_,rfl,_,rfl,_,_,rfl,rfl,sA,ns,_,rfl,s2.seq hS,by omega,by omega,_,rfl,?_⟩
  refine ⟨_,_,rfl,fun p3 x0 y0 H3 s3 zx zy xb yb h3=> ?_⟩
  have WX:=s2.trans s3
  have h30:dZ K H3 (.ref p3) (x0+((0:Nat):Rat),y0):=by
   have e:x0+((0:Nat):Rat)=x0:=by
    have:((0:Nat):Rat)=0:=by rfl
    rw [this]
    grind
   rw [e]
   exact h3
  dsimp only
  refine eG (fun σ' H' =>∃(sv:V) (x:Rat),σ' =[some (.ref sA),some (.int c0),some (.int (N:Int)),some (.int kind),some (.ref lp),some (.int (i:Int)),some sv]∧av H3 H' ∧dZ K H' sv (x,y0)∧(Sz 44 x∧x≤500010)∧(x,y0)∉pins.map (·.sp)) (fun Nx sG=> ?_) ?_
  ·refine ⟨fun m σ H' =>∃(sv:V) (j:Nat),σ=[some (.ref sA),some (.int c0),some (.int (N:Int)),some (.int kind),some (.ref lp),some (.int (i:Int)),some sv]∧av H3 H' ∧dZ K H' sv (x0+(j:Rat),y0)∧m=cnt pins (x0+(j:Rat))∧j+cnt pins (x0+(j:Rat))≤pins.length,⟨_,_,0,rfl,av.refl _,h30,rfl,by have:=Kd pins (x0+((0:Nat):Rat));omega⟩,?_⟩
   rintro m σ H4 ⟨sv,j,rfl,s4,h4,rfl,hj⟩
   have e4:=(s3.trans s4) _ _ e2
   have Zm:Paired (iT K H4 lp) us pins:=Paired.bq pp fun _ _ z=>z.same (s3.trans s4)
   have zj:Sz 44 (x0+(j:Rat)):=(zx.add (gf (i:=(j:Int)) (k:=3) (show _ < 8 by omega) (by decide))).up (by decide)
   refine ⟨_,rfl,_,rfl,lp,rfl,⟨_,ba.of e4⟩,fun D1 n1=> ?_⟩
   refine fN (cap:=[]) (K:=K) (a:=lp) (xs:=us) (fun i v H=>∃p,pins[i]? =some p∧dZ K H v p.sp) n1 (by rw [lu];exact afe (show pins.length≤1000 by omega) (by decide)) (fun H2 s2=>ba.of (s2 _ _ e4)) (fun _ _ _ _ _ h0 ks h=>by
     obtain ⟨p,h1,h2⟩:=h
     refine ⟨p,h1,h2.aS fun b xs r=> ?_⟩
     rcases r with r | ⟨o',r⟩
     ·exact .inl (ks _ _ (fun e=>by rw [e,h0] at r;cases r) r)
     ·exact .inr ⟨o',ks _ _ (fun e=>by rw [e,h0] at r;cases r) r⟩) ?_ ?_
   ·intro jj u H6 R hu s6 k
    obtain ⟨p,sJ,hp⟩:=aA Zm hu
    obtain ⟨a,l,sv,iz,rfl,h1,h2,_⟩:=hp
    exact ⟨_,rfl,a,_,_,_,rfl,rfl,Ty.av.cy s6 h1,rfl,k _ _ (av.refl _) ⟨p,sJ,h2.same s6⟩⟩
   intro ys H6 hy jS s6 hD
   have pq:gB K H6 ys (pins.map (·.sp)):=bN (by rw [aaa,hy,lu]) fun j u q' xa WY =>by
    obtain ⟨p,h1,h2⟩:=jS j u xa
    rw [Wp,h1] at WY
    cases WY
    exact h2
   have h6:=h4.same s6
   refine ⟨(x0+(j:Rat),y0),D1,ys,_,rfl,ba.of hD,h6,pq,_,rfl,?_⟩
   refine a_ (fun cc=> ?_) (fun cc=> ?_)
   ·have mem:(x0+(j:Rat),y0)∈pins.map (·.sp):=by simpa using cc
    obtain ⟨p,hp,sJ⟩:=aah.mp mem
    have lt:=FL (x:=x0+(j:Rat)) ⟨p,hp,by rw [sJ]⟩
    have ej:x0+(j:Rat)+1=x0+((j+1:Nat):Rat):=by
     push_cast
     grind
    rw [ej] at lt
    refine ⟨fun σ' H' =>∃(sv:V),σ' =[some (.ref sA),some (.int c0),some (.int (N:Int)),some (.int kind),some (.ref lp),some (.int (i:Int)),some sv]∧av H3 H' ∧dZ K H' sv (x0+((j+1:Nat):Rat),y0),fun σ' H' ⟨SH,h1,h2,h3⟩=>⟨_,lt,SH,j+1,h1,h2,h3,rfl,by omega⟩,?_⟩
    obtain ⟨sa,u1,u2,rfl,rP,HP,yn⟩:=h6
    refine ⟨_,rfl,sa,_,_,_,rfl,rfl,rP,iy,L2,?_⟩
    intro p7 n7;generalize eX:upd _ p7 _=H7;have ⟨s7,e7⟩:=nw n7 eX;clear eX
    refine ⟨u1,.ref p7,qr (x0+(j:Rat)),(1,1),44,1,rfl,HP.same s7,⟨p7,rfl,bK.of e7⟩,LC zj,⟨by decide,by decide⟩,by decide,fun p8 H8 s8 e8=> ?_⟩
    rw [Ke,ej] at e8
    refine ⟨_,rfl,sa,_,_,_,rfl,rfl,Ty.av.cy (s7.trans s8) rP,g9,L2,?_⟩
    intro p9 n9;generalize eX:upd _ p9 _=H9;have ⟨s9,e9⟩:=nw n9 eX;clear eX
    have Pf:=(s7.trans s8).trans s9
    exact ⟨.ref p9,rfl,(s4.trans s6).trans Pf,iB e9 ((jv e8).same s9) (yn.same Pf)⟩
   ·have fresh:(x0+(j:Rat),y0)∉pins.map (·.sp):=by simpa using cc
    exact sG _ _ ⟨sv,x0+(j:Rat),rfl,s4.trans s6,h6,⟨zj,(by have Wz :((j:Int):Rat)≤((5:Int):Rat):=agp.mpr (by omega);have e1:((j:Int):Rat)=(j:Rat):=rfl;have e2:((5:Int):Rat)=5:=rfl;rw [e1,e2] at Wz;grind)⟩,fresh⟩
  rintro σ' H4 ⟨sv,x,rfl,s4,h4,⟨zx',xb'⟩,fresh⟩
  have Pg:=s3.trans s4
  have BD:=s2.trans Pg
  have e4:=Pg _ _ e2
  have Zm:Paired (iT K H4 lp) us pins:=Paired.bq pp fun _ _ z=>z.same Pg
  refine ⟨_,rfl,.inl ⟨rfl,_,ba.of e4⟩,_,rfl,_,rfl,_,_,rfl,by omega,by omega,_,rfl,?_⟩
  refine ⟨_,rfl,_,rfl,_,_,rfl,rfl,sA,ns,_,rfl,BD.seq hS,by omega,by omega,?_⟩
  refine ⟨_,rfl,fun l8 SI ws H8 wk s8 n8 e8 p8=>⟨L3,?_⟩⟩
  intro p9 n9;generalize eX:upd _ p9 _=H9;have ⟨s9,e9⟩:=nw n9 eX;clear eX
  have WZ:=s8.trans s9
  have Zn:=WZ _ _ e4
  have pp9:Paired (iT K H9 lp) us pins:=Paired.bq Zm fun _ _ z=>z.same WZ
  refine ⟨lp,_,_,rfl,rfl,Zn,(by rw [lu];exact afe (show pins.length≤1000 by omega) (by decide)),?_⟩
  have oB:iT K H9 lp (.ref p9) ⟨nameOf (field c0 3001 3) (field c0 4001 6) (i:Int),(x,y0),ws⟩:=⟨p9,l8,sv,SI,rfl,bK.of e9,h4.same WZ,s9 _ _ e8,p8.same s9,fun z=>by rw [z,e4] at n8;cases n8⟩
  refine ⟨_,_,_,pins++[⟨nameOf (field c0 3001 3) (field c0 4001 6) (i:Int),(x,y0),ws⟩],rfl,fun b o z=> ?_,ak,eE (Paired.bq pp9 fun _ _ z=>z.upd Zn) (oB.upd Zn),gp.snoc (fun z=> ?_) fresh ⟨zx',zy.up (by decide)⟩ wk,by simp [lpi],fun p hp=> ?_⟩
  ·rw [ao (aq z xE)]
   exact WZ _ _ (BD _ _ z)
  ·obtain ⟨p,hp,sJ⟩:=aah.mp z
   obtain ⟨j,hj,ej,_⟩:=nm p hp
   have i3:=aY (c:=c0) (p:=3001) (m:=3) (by decide)
   have i4:=aY (c:=c0) (p:=4001) (m:=6) (by decide)
   have:=uL ⟨(field c0 3001 3).toNat,by omega⟩ ⟨(field c0 4001 6).toNat,by omega⟩ ⟨j,by omega⟩ ⟨i,by omega⟩ (fun z=>by
    have:=congrArg Fin.val z
    simp at this
    omega)
   refine this ?_
   show nameOf (((field c0 3001 3).toNat:Nat):Int) (((field c0 4001 6).toNat:Nat):Int) (j:Int)=nameOf (((field c0 3001 3).toNat:Nat):Int) (((field c0 4001 6).toNat:Nat):Int) (i:Int)
   rw [show (((field c0 3001 3).toNat:Nat):Int)=field c0 3001 3 by omega,show (((field c0 4001 6).toNat:Nat):Int)=field c0 4001 6 by omega, ← ej]
   exact sJ
  ·rcases afg.mp hp with z | z
   ·obtain ⟨j,hj,ej,eb⟩:=nm p z
    exact ⟨j,by omega,ej,eb⟩
   ·rw [ae_.mp z]
    exact ⟨i,by omega,rfl,xb',zy,yb⟩
 ·rintro σ H2 ⟨o5,o6,us,pins,rfl,s2,e2,pp,gp,lpi,nm⟩
  refine ⟨_,rfl,q lp us pins H2 s2 xE e2 pp gp (by omega) fun p hp=> ?_⟩
  obtain ⟨j,hj,ej,eb⟩:=nm p hp
  refine ⟨?_,eb⟩
  rw [ej]
  have f1:=aY (c:=c0) (p:=3001) (m:=3) (by decide)
  have f2:=aY (c:=c0) (p:=4001) (m:=6) (by decide)
  obtain ⟨u,hu⟩:∃n:Nat,field c0 3001 3=(n:Int):=⟨(field c0 3001 3).toNat,by omega⟩
  obtain ⟨v,hv⟩:∃n:Nat,field c0 4001 6=(n:Int):=⟨(field c0 4001 6).toNat,by omega⟩
  rw [hu,hv]
  exact z8 ⟨u,by omega⟩ ⟨v,by omega⟩ ⟨j,by omega⟩
inductive rQ (K:Frag)(vs:List V)(H:Hp)(Q:VK)(E_:XK):Prop where
 | mk (sA pA:Addr) (ns:List Int) (us:List V) (pins:List aF) (_:vs=[.ref sA,.ref pA]) (_:ba K H sA (ns.map V.int)) (_:H pA=some (.lst us)) (_:us.length=pins.length) (_:(pins.map (·.nm)).Nodup) (_:pins.length≤6) (_:∀(l:Addr) (dN :List V) (ar:List bB) (H' :Hp),av H H' →H l=none→H' l=some (.lst dN)→Paired (ie K H' pins) dN ar→kG pins ar→ar.length≤7→Q (.ref l) H'):rQ K vs H Q E_
theorem kG.snoc {pins:List aF}{ar:List bB}{b:bB}(g:kG pins ar)(h1:b.nm∉ar.map (·.nm))(h2:b.one∈pins∧b.other∈pins∧b.one.nm≠b.other.nm):kG pins (ar++[b]):=by
 refine ⟨?_,fun q hq=> ?_⟩
 ·rw [afq,agz]
  refine ⟨g.nb,by simp,fun a ha c hc e=>h1 ?_⟩
  have:c=b.nm:=by simpa using hc
  rw [← this, ← e]
  exact ha
 ·rcases afg.mp hq with z | z
  ·exact g.ends q z
  ·rw [ae_.mp z]
   exact h2
theorem kH:aD ["_law_script","_law_pins_here","_law_cell","_law_many","_law_bars_here","_law_k","_law_one_here","_law_step"] ["_law_script","_law_pins_here"] (ag zv):=sq
theorem SJ (D:Def K mg "_law_bars" zv ["_law_script","_law_pins_here"])(bQ:mg "range"=none)(bE:mg "len"=none)(nL:Fn P w K mg base (a8 P w) 1 "_law_cell_at" ["_law_script","_law_k"] (nJ K))(dc:Fn P w K mg base (a8 P w) 1 "_law_field" ["_law_cell","_law_prime","_law_many"] d3)(N4:Fn P w K mg base (a8 P w) 2 "_law_name" ["_law_cell","_law_k"] rK):
  Fn P w K mg base (a8 P w) 3 "_law_bars" ["_law_script","_law_pins_here"] (rQ K):=by
 refine D.ok kH (fun vs H Q E h=> ?_) (fun f bC A outer s H vs Q E hr h=> ?_)
 ·obtain ⟨sA,pA,ns,us,pins,rfl,_⟩:=h
  rfl
 obtain ⟨sA,pA,ns,us,pins,rfl,hS,hp,lu,np,lp,q⟩:=h
 have L3:3≤sizeLine:=by decide
 refine ⟨_,(ae (aH (i:=2) kH.nd rfl (ab_ rfl) (aC nL hr.mo pX (au (pv 0) (au ah aa))))
  (ae (aH (i:=3) kH.nd rfl (ab_ rfl) (aC dc hr.mo pX (au (pv 2) (au ah (au ah aa)))))
  (ae (bf (aQ sQ (aU a9 rfl bE dD (au (pv 1) aa)) ah (aV _)) (aj (aH (i:=3) kH.nd rfl (ab_ rfl) ah)) aJ)
  (ae (aH (i:=4) kH.nd rfl (ab_ rfl) (cu aa))
  (ae (bF PassesOwn.never rfl (dP rfl bQ (au (pv 3) aa)) (aE (i:=5) kH.nd rfl (ab_ rfl)) (ae (aH (i:=6) kH.nd rfl (ab_ rfl) (aC dc hr.mo pX (au (aC nL hr.mo pX (au (pv 0) (au (aL cp ah (pv 5)) aa))) (au ah (au (aU a9 rfl bE dD (au (pv 1) aa)) aa)))))
   (ae (aH (i:=7) kH.nd rfl (ab_ rfl) (aL cp ah (aC dc hr.mo pX (au (aC nL hr.mo pX (au (pv 0) (au (aL cp ah (pv 5)) aa))) (au ah (au (aL dR (aU a9 rfl bE dD (au (pv 1) aa)) ah) aa))))))
   (aj (bg (i7 PySem.F.plainAttrs_list PySem.F.slot_list_append PySem.F.type_list_append dz (pv 4) (au (aR (au (aC N4 hr.mo pX (au (pv 2) (au (pv 5) aa))) (au (pv 6) (au (aL fm (aL cp (pv 6) (pv 7)) (aU a9 rfl bE dD (au (pv 1) aa))) aa)))) aa)))))))
  (aj (aG (pv 4)))))))),?_⟩
 refine ⟨_,rfl,sA,ns,1,rfl,hS,by decide,by decide,?_⟩
 generalize cell ns 1=c0
 have i1:=aY (c:=c0) (p:=1009) (m:=8) (by decide)
 refine ⟨_,rfl,_,_,_,rfl,by decide,by decide,by decide,?_⟩
 generalize field c0 1009 8=fi at i1 ⊢
 obtain ⟨fn,rfl⟩:∃n:Nat,fi=(n:Int):=⟨fi.toNat,by omega⟩
 dsimp only
 refine eG (fun σ' H' =>∃N:Nat,N≤7∧(0 < N→2≤pins.length)∧σ' =[some (.ref sA),some (.ref pA),some (.int c0),some (.int (N:Int)),none,none,none,none]∧H' =H) (fun Nx sG=> ?_) ?_
 ·refine ⟨_,rfl,pA,_,rfl,.inl (ba.of hp),_,_,rfl,rfl,_,rfl,?_⟩
  refine a_ (fun _=> ?_) (fun c=> ?_)
  ·exact sG _ _ ⟨0,by omega,by omega,rfl,rfl⟩
  ·have c' :¬ (us.length:Int) < 2:=fun z=>c (decide_eq_true z)
   exact sG _ _ ⟨fn,by omega,fun _=>by omega,rfl,rfl⟩
 rintro σ' Hy ⟨N,hN,YD,rfl,rfl⟩
 refine ⟨(by show 0≤sizeLine;decide),?_⟩
 intro lb nb;generalize eX:upd _ lb _=H1;have ⟨sb,eb⟩:=nw nb eX;clear eX
 refine ⟨_,rfl,(N:Int),rfl,by omega,by omega,fJ (lo:=0) (n:=N) (fun i σ H' =>∃(o5 o6 o7:Option V) (dN :List V) (ar:List bB),σ=[some (.ref sA),some (.ref pA),some (.int c0),some (.int (N:Int)),some (.ref lb),o5,o6,o7]∧av Hy H' ∧H' lb=some (.lst dN)∧Paired (ie K H' pins) dN ar∧kG pins ar∧ar.length=i∧∀b∈ar,∃j,j < i∧b.nm=nameOf (field c0 3001 3) (field c0 4001 6) (j:Int)) ⟨none,none,none,[],[],rfl,sb,eb,.nil,⟨by simp,by simp⟩,rfl,by simp⟩ ?_ ?_⟩
 ·rintro i σ H2 hi ⟨o5,o6,o7,dN,ar,rfl,s2,e2,pb,gb,lbi,nm⟩
  have ei:(0:Int)+(i:Int)=(i:Int):=afU _
  rw [ei]
  have n2:2≤pins.length:=YD (by omega)
  have lv:dN.length=ar.length:=Paired.length pb
  have sp:=ba.of (K:=K) (s2 _ _ hp)
  refine ⟨_,rfl,_,rfl,_,_,rfl,rfl,sA,ns,_,rfl,s2.seq hS,by omega,by omega,_,rfl,pA,_,rfl,.inl sp,_,_,_,rfl,by decide,by decide,by omega,?_⟩
  have j1:=aY (c:=cell ns (8+(i:Int))) (p:=1009) (m:=(us.length:Int)) (by omega)
  have j2:=aY (c:=cell ns (8+(i:Int))) (p:=2003) (m:=(us.length:Int) - 1) (by omega)
  refine ⟨_,rfl,_,rfl,_,_,rfl,rfl,sA,ns,_,rfl,s2.seq hS,by omega,by omega,_,rfl,pA,_,rfl,.inl sp,_,_,rfl,rfl,_,_,_,rfl,by decide,by decide,by omega,_,_,rfl,rfl,?_⟩
  generalize field (cell ns (8+(i:Int))) 1009 (us.length:Int)=one at j1 ⊢
  generalize field (cell ns (8+(i:Int))) 2003 ((us.length:Int) - 1)=step at j2 ⊢
  obtain ⟨on,rfl⟩:∃n:Nat,one=(n:Int):=⟨one.toNat,by omega⟩
  have oo:∃m:Nat,((on:Int)+(1+step)).fmod (us.length:Int)=(m:Int)∧m < us.length∧m≠on:=by
   have f:=lW (x:=(on:Int)+(1+step)) (m:=(us.length:Int)) (by omega)
   refine ⟨(((on:Int)+(1+step)).fmod (us.length:Int)).toNat,by omega,by omega,fun z=> ?_⟩
   have e:((on:Int)+(1+step)).fmod (us.length:Int)=(on:Int):=by omega
   rw [Int.fmod_eq_emod_of_nonneg _ (by omega)] at e
   by_cases c:(on:Int)+(1+step) < (us.length:Int)
   ·rw [anY (by omega) c] at e
    omega
   ·rw [← Int.sub_emod_right,anY (by omega) (by omega)] at e
    omega
  obtain ⟨W0,WY,l2',ne2⟩:=oo
  refine ⟨_,rfl,.inl ⟨rfl,_,ba.of e2⟩,_,rfl,_,rfl,_,_,rfl,by omega,by omega,_,rfl,_,rfl,_,rfl,_,_,rfl,rfl,_,rfl,pA,_,rfl,.inl sp,_,_,rfl,rfl,nz (by omega),L3,?_⟩
  intro p9 n9;generalize eX:upd _ p9 _=H9;have ⟨s9,e9⟩:=nw n9 eX;clear eX
  have e9:H9 p9=some (.tup [.str (nameOf (field c0 3001 3) (field c0 4001 6) (i:Int)),.int (on:Int),.int (((on:Int)+(1+step)).fmod (us.length:Int))]):=e9
  rw [WY] at e9
  have e29:=s9 _ _ e2
  refine ⟨lb,_,_,rfl,rfl,e29,(by rw [lv];exact afe (show ar.length≤1000 by omega) (by decide)),?_⟩
  have l1:on < pins.length:=by omega
  have l2:W0 < pins.length:=by omega
  have st:bh H9 (upd H9 lb (.lst (dN ++[.ref p9]))):=.list e29
  have ns9:∀(v:V) (b:bB),ie K H2 pins v b→ie K (upd H9 lb (.lst (dN ++[.ref p9]))) pins v b:=fun v b h=>by
   obtain ⟨a,i',j',e,h1,h2,h3⟩:=h.same s9
   exact ⟨a,i',j',e,st.cy h1,h2,h3⟩
  refine ⟨_,_,_,dN ++[.ref p9],ar++[⟨nameOf (field c0 3001 3) (field c0 4001 6) (i:Int),pins[on],pins[W0]⟩],rfl,fun b o z=> ?_,ak,eE (Paired.bq pb fun _ _ z=>ns9 _ _ z) ?_,gb.snoc (fun z=> ?_) ⟨afZ l1,afZ l2,fun z=> ?_⟩,by simp [lbi],fun b hb=> ?_⟩
  ·rw [ao (aq z nb)]
   exact s9 _ _ (s2 _ _ z)
  ·exact ⟨p9,on,W0,rfl,st.cy (bK.of e9),gE l1,gE l2⟩
  ·obtain ⟨b,hb,sJ⟩:=aah.mp z
   obtain ⟨j,hj,ej⟩:=nm b hb
   have i3:=aY (c:=c0) (p:=3001) (m:=3) (by decide)
   have i4:=aY (c:=c0) (p:=4001) (m:=6) (by decide)
   have:=uL ⟨(field c0 3001 3).toNat,by omega⟩ ⟨(field c0 4001 6).toNat,by omega⟩ ⟨j,by omega⟩ ⟨i,by omega⟩ (fun z=>by
    have:=congrArg Fin.val z
    simp at this
    omega)
   refine this ?_
   show nameOf (((field c0 3001 3).toNat:Nat):Int) (((field c0 4001 6).toNat:Nat):Int) (j:Int)=nameOf (((field c0 3001 3).toNat:Nat):Int) (((field c0 4001 6).toNat:Nat):Int) (i:Int)
   rw [show (((field c0 3001 3).toNat:Nat):Int)=field c0 3001 3 by omega,show (((field c0 4001 6).toNat:Nat):Int)=field c0 4001 6 by omega, ← ej]
   exact sJ
  ·have q1:(pins.map (·.nm))[on]? =some pins[on].nm:=by rw [Wp,gE l1];rfl
   have q2:(pins.map (·.nm))[W0]? =some pins[on].nm:=by rw [Wp,gE l2];exact congrArg some z.symm
   exact ne2 ((am0 (by rw [aaa];omega) np).mp (q1.trans q2.symm)).symm
  ·rcases afg.mp hb with z | z
   ·obtain ⟨j,hj,ej⟩:=nm b z
    exact ⟨j,by omega,ej⟩
   ·rw [ae_.mp z]
    exact ⟨i,by omega,rfl⟩
 ·rintro σ H2 ⟨o5,o6,o7,dN,ar,rfl,s2,e2,pb,gb,lbi,nm⟩
  exact ⟨_,rfl,q lb dN ar H2 s2 nb e2 pb gb (by omega)⟩
theorem xS (v:V):af' ("ways":Str) [(("way":Str),v)]=none:=by
 have h:(("ways":Str)=="way")=false:=by decide+kernel
 simp [af',h]
inductive nN (K:Frag)(C:Addr)(vs:List V)(H:Hp)(Q:VK)(E_:XK):Prop where
 | mk (pA bA:Addr) (us dN :List V) (pins:List aF) (ar:List bB) (_:vs=[.ref pA,.ref bA]) (_:H pA=some (.lst us)) (_:Paired (gw K H) us pins) (_:H bA=some (.lst dN)) (_:Paired (ie K H pins) dN ar) (_:eA pins) (_:kG pins ar) (_:pins.length≤9) (_:ar.length≤14) (_:∀(a dx pP pW pB:Addr) (kP kW kB:List (Key×V)) (H' :Hp),av H H' →d6 K H' C a dx pP pW pB (pins.map fun p=>(p.nm,iW p.sp)) (ar.map fun b=>(b.nm,b.one.nm,b.other.nm)) kP kW kB→ou K H' (pins.map fun p=>(p.nm,p.ws)) kW→(∀kv∈kW,∀b o,H b=some o→kv.2≠.ref b)→H pP=none→H pW=none→H pB=none→Q (.ref a) H'):nN K C vs H Q E_
theorem kI:aD ["_law_pins_here","_law_bars_here","_law_frame_here","_law_name_here","_law_spot_here","_law_ways_here","_law_one_here","_law_other"] ["_law_pins_here","_law_bars_here"] (ag zA):=sq
theorem SK {C CR CF fI fR:Addr}{fdI SM:FuncData}(D:Def K mg "_law_frame" zA ["_law_pins_here","_law_bars_here"])(bE:mg "len"=none)(N6:Mk K C fI)(N7:mg "Frame"=some (.ref C))(Zo:cv P w K mg base (a8 P w) 1 fI fdI ["self"] (rq K C))(N8:Binds K fdI ["self"] [])
  (z9:mg "Roller"=some (.ref CR)) (z_:mg "Fixed"=some (.ref CF)) (AA:OZ K CF) (AB:Mk K CR fR) (N9:cv P w K mg base (a8 P w) 1 fR SM ["self","x","y"] (lS K CR)) (AD:Binds K SM ["self","x","y"] [])
  (wR:bI P w K mg base (a8 P w) 2 CR "ways" ["self"] (gi K CR)) (wF:bI P w K mg base (a8 P w) 2 CF "ways" ["self"] (gj K))
  (Zp:bI P w K mg base (a8 P w) 3 C "put_bar" ["self","name","one","other"] (jq K C)) (LD:bI P w K mg base (a8 P w) 3 C "put_pin" ["self","name","x","y","hold"] (b9 P w K mg base C)) (Kh:mS P w K mg base (a8 P w) 3 C "put_pin" ["self","name","x","y","hold"] [.none] (b9 P w K mg base C)):
  Fn P w K mg base (a8 P w) 4 "_law_frame" ["_law_pins_here","_law_bars_here"] (nN K C):=by
 refine D.ok kI (fun vs H Q E h=> ?_) (fun f bC A outer s H vs Q E hr h=> ?_)
 ·obtain ⟨pA,bA,us,dN,pins,ar,rfl,_⟩:=h
  rfl
 obtain ⟨pA,bA,us,dN,pins,ar,rfl,hp,pp,hb,pb,gp,gb,lp6,lb8,q⟩:=h
 have lu:us.length=pins.length:=Paired.length pp
 refine ⟨_,(ae (aH (i:=2) kI.nd rfl (ab_ rfl) (BW N6 Zo hr.mo rfl N7 N8 .nil (pY P w)))
  (ae (bF PassesOwn.never rfl (bw (pv 0)) (dO rfl (aX (aE (i:=3) kI.nd rfl (ab_ rfl)) (aX (aE (i:=4) kI.nd rfl (ab_ rfl)) (aX (aE (i:=5) kI.nd rfl (ab_ rfl)) cQ)))) (ae (bf (aQ d5 (aU a9 rfl bE dD (au (pv 5) aa)) ah (aV _)) (aj (bg (q_ (k:=3) (pv 2) hr.mo (pY P w) (au (pv 3) (au (aK (pv 4)) (au (aK (pv 4)) aa)))))) aJ)
   (ae (bf (aQ d5 (aU a9 rfl bE dD (au (pv 5) aa)) ah (aV _)) (aj (bg (c8 (k:=3) (pv 2) hr.mo (pY P w) (au (pv 3) (au (aK (pv 4)) (au (aK (pv 4)) (au (wM AB N9 hr.mo rfl z9 AD .nil (pY P w) (au (aK (xw (pv 5))) (au (aK (xw (pv 5))) aa))) aa))))))) aJ)
   (aj (bf (aQ d5 (aU a9 rfl bE dD (au (pv 5) aa)) ah (aV _)) (aj (bg (c8 (k:=3) (pv 2) hr.mo (pY P w) (au (pv 3) (au (aK (pv 4)) (au (aK (pv 4)) (au (CW AA rfl z_) aa))))))) aJ)))))
  (ae (bF PassesOwn.never rfl (bw (pv 1)) (dO rfl (aX (aE (i:=3) kI.nd rfl (ab_ rfl)) (aX (aE (i:=6) kI.nd rfl (ab_ rfl)) (aX (aE (i:=7) kI.nd rfl (ab_ rfl)) cQ)))) (aj (bg (c8 (k:=3) (pv 2) hr.mo (pY P w) (au (pv 3) (au (aK (bD bu (pv 0) (pv 6) (fun _ _=>rfl))) (au (aK (bD bu (pv 0) (pv 7) (fun _ _=>rfl))) aa)))))))
  (aj (aG (pv 2)))))),?_⟩
 intro a dx na ndx nad
 have sF:av H (upd (upd H dx (.own a)) a (.ins C dx [])):=fun b o e=>by rw [ao (aq e na),ao (aq e ndx)];exact e
 refine ⟨a,dx,rfl,ak,fun pP pW pB H1 k1 nP nW nB R1=>⟨rfl,?_⟩⟩
 have s1:av H H1:=fun b o e=>k1 b o (aq e na) (sF _ _ e)
 have nP:=jR sF nP
 have nW:=jR sF nW
 have nB:=jR sF nB
 refine ⟨_,rfl,pA,rfl,⟨_,ba.of (s1 _ _ hp)⟩,bM (K:=K) (a:=pA) (xs:=us) (fun i σ H' =>∃(o4 o5 o6:Option V) (kP kW:List (Key×V)),σ=[some (.ref pA),some (.ref bA),some (.ref a),o4,o5,o6,none,none]∧av H H' ∧d6 K H' C a dx pP pW pB ((pins.take i).map fun p=>(p.nm,iW p.sp)) [] kP kW []∧ou K H' ((pins.take i).map fun p=>(p.nm,p.ws)) kW∧∀kv∈kW,∀b o,H b=some o→kv.2≠.ref b) ⟨none,none,none,[],[],rfl,s1,R1,.nil,fun kv h=>(nomatch h)⟩ (fun i σ H' _ h=>by
   obtain ⟨_,_,_,_,_,_,s,_⟩:=h
   exact ba.of (s _ _ hp)) ?_ ?_⟩
 ·rintro i u σ H2 hu ⟨o4,o5,o6,kP,kW,rfl,s2,R2,W2,nw⟩
  obtain ⟨p,ep,N_⟩:=aA pp hu
  have mp:p∈pins:=ir ep
  obtain ⟨ta,l,sv,ws,rfl,h1,h2,h3,h4⟩:=N_.same s2
  obtain ⟨sa,x1,y1,rfl,rP,HP,yn⟩:=h2
  refine ⟨ta,_,rfl,h1,rfl,_,_,rfl,_,_,rfl,_,_,rfl,rfl,?_⟩
  have tk:=take_snoc ep
  have il:i < pins.length:=(be.mp ep).1
  have nlP:l≠pP:=fun z=>by rw [z,R2.pl] at h3;cases h3
  have nlW:l≠pW:=fun z=>by rw [z,R2.wy] at h3;cases h3
  have fin:∀(hv:V) (H5:Hp) (Q5:VK) (E5:XK),av H2 H5→ER P w K mg base H5 hv p.ws→
    (∀H' uz jG,av H H' →H' l=some (.lst ws)→d6 K H' C a dx pP pW pB ((pins.take (i+1)).map fun p=>(p.nm,iW p.sp)) [] uz jG []→ou K H' ((pins.take (i+1)).map fun p=>(p.nm,p.ws)) jG →(∀kv∈jG,∀b o,H b=some o→kv.2≠.ref b)→Q5 .cb H')→b9 P w K mg base C [.ref a,.str p.nm,x1,y1,hv] H5 Q5 E5:=fun hv H5 Q5 E5 s5 hY fin=>by
   refine ⟨a,dx,pP,pW,pB,_,_,kP,kW,_,_,p.nm,x1,y1,hv,iW p.sp,p.ws,rfl,R2.same s5,W2.same s5,by rw [afj,afj];rfl,HP.same s5,yn.same s5,fun z=> ?_,fun z hz e=> ?_,?_,hY,fun H' uz jG k' R' W' nl' => ?_⟩
   ·rw [afj] at z
    obtain ⟨p',nh,e'⟩:=aah.mp z
    exact jh (nm:=aF.nm) gp.np ep nh e'
   ·obtain ⟨p',nh,e'⟩:=aah.mp hz
    rw [← e'] at e
    have e1:=congrArg anG e
    have e2:=congrArg anH e
    have e3:p'.sp=p.sp:=agj (ff e1) (ff e2)
    obtain ⟨j,hj,ej⟩:=afN.mp nh
    rw [anV] at ej
    rw [afv] at hj
    have q1:(pins.map (·.sp))[j]? =some p.sp:=by rw [Wp,gE (by omega),ej, ← e3];rfl
    have q2:(pins.map (·.sp))[i]? =some p.sp:=by rw [Wp,ep];rfl
    have:=(am0 (by rw [aaa];omega) gp.ns).mp (q1.trans q2.symm)
    omega
   ·rw [aaa,afv]
    omega
   ·refine fin H' uz jG (fun b o z=>k' b o (aq z nP) (aq z nW) (s5 _ _ (s2 _ _ z))) (k' _ _ nlP nlW (s5 _ _ h3)) ?_ ?_ ?_
    ·rw [tk,afq]
     exact R'
    ·rw [tk,afq]
     exact W'
    ·obtain ⟨l9,e9,n9⟩:=nl'
     rw [e9]
     intro kv u3 b o hb z
     rcases afg.mp u3 with h | h
     ·exact nw kv h b o hb z
     ·rw [ae_.mp h] at z
      injection z with z
      have:=(s2.trans s5).free n9
      rw [z,hb] at this
      cases this
  have l2:=ba.of (K:=K) h3
  have lw:ws.length=p.ws.length:=Paired.length h4
  refine ⟨_,rfl,l,_,rfl,.inl l2,rfl,_,rfl,?_⟩
  rcases gp.ws p mp with hw | ⟨wx,wy,hw,wn,_,_⟩ | hw
  ·rw [hw] at lw
   refine a_ (fun _=> ?_) (fun c=>by rw [lw] at c;simp at c)
   refine ⟨_,rfl,a,C,dx,_,_,_,rfl,R2.obj,rfl,Kh,_,rfl,_,rfl,sa,_,_,_,rfl,rfl,rP,iy,_,rfl,sa,_,_,_,rfl,rfl,rP,g9,?_⟩
   dsimp only [eI]
   refine fin .cb H2 _ _ (av.refl _) (.inl ⟨rfl,hw⟩) fun H' uz jG s' l' R' W' SN => ?_
   have l' :=ba.of (K:=K) l'
   refine ⟨_,rfl,l,_,rfl,.inl l',rfl,_,rfl,?_⟩
   refine a_ (fun c=>by rw [lw] at c;simp at c) (fun _=> ?_)
   refine ⟨_,rfl,l,_,rfl,.inl l',rfl,_,rfl,?_⟩
   refine a_ (fun c=>by rw [lw] at c;simp at c) (fun _=> ?_)
   exact ⟨_,_,_,uz,jG,rfl,s',R',W',SN⟩
  ·rw [hw] at lw h4
   obtain ⟨w0,rfl⟩:∃w0,ws=[w0]:=by
    match ws,lw with
    | [w0],_=>exact ⟨w0,rfl⟩
   have Zq:dZ K H2 w0 (wx,wy):=by
    cases h4 with
    | cons h _=>exact h
   obtain ⟨wa,y2,y3,rfl,CU,JB,Ki⟩:=Zq
   refine a_ (fun c=>by simp at c) (fun _=> ?_)
   refine ⟨_,rfl,l,_,rfl,.inl l2,rfl,_,rfl,?_⟩
   refine a_ (fun _=> ?_) (fun c=>absurd rfl c)
   refine ⟨_,rfl,a,C,dx,_,_,_,rfl,R2.obj,rfl,LD,_,rfl,_,rfl,sa,_,_,_,rfl,rfl,rP,iy,_,rfl,sa,_,_,_,rfl,rfl,rP,g9,?_⟩
   refine ⟨_,rfl,l,_,_,_,rfl,rfl,l2,rfl,wa,_,_,_,rfl,rfl,CU,iy,_,rfl,l,_,_,_,rfl,rfl,l2,rfl,wa,_,_,_,rfl,rfl,CU,g9,?_⟩
   intro de d1 Kj N' ne1
   have s4:av H2 (upd (upd H2 d1 (.own de)) de (.ins CR d1 [])):=fun b o e=>by rw [ao (aq e Kj),ao (aq e N')];exact e
   have e4:(upd (upd H2 d1 (.own de)) de (.ins CR d1 [])) de =some (.ins CR d1 []):=ak
   generalize upd (upd H2 d1 (.own de)) de (.ins CR d1 [])=H4 at s4 e4 ⊢
   refine ⟨de,d1,y2,y3,wx,wy,rfl,e4,JB.same s4,Ki.same s4,wn,fun p5 n5=>⟨rfl,?_⟩⟩
   have sE:p5≠de :=fun z=>by rw [z,e4] at n5;cases n5
   have s5:av H2 (upd (upd H4 p5 (.tup [y2,y3])) de (.ins CR d1 [("way",.ref p5)])):=fun b o e=>by
    have z:b≠de :=fun z=>by rw [z,Kj] at e;cases e
    rw [ao z]
    exact aI n5 _ _ _ (s4 _ _ e)
   have e5:(upd (upd H4 p5 (.tup [y2,y3])) de (.ins CR d1 [("way",.ref p5)])) de =some (.ins CR d1 [("way",.ref p5)]):=ak
   have t5:(upd (upd H4 p5 (.tup [y2,y3])) de (.ins CR d1 [("way",.ref p5)])) p5=some (.tup [y2,y3]):=by rw [ao sE,ak]
   generalize upd (upd H4 p5 (.tup [y2,y3])) de (.ins CR d1 [("way",.ref p5)])=H5 at s5 e5 t5 ⊢
   have Oa:dZ K H5 (.ref p5) (wx,wy):=iB t5 (JB.same s5) (Ki.same s5)
   dsimp only [eI]
   refine fin (.ref de) H5 _ _ s5 (.inr ⟨de,CR,d1,_,["self"],gi K CR,rfl,e5,xS _,wR,fun H6 e6 t6 Q' an=>⟨de,d1,p5,(wx,wy),rfl,e6,Oa.aS t6,by rw [hw] at an;exact an⟩⟩) fun H' uz jG s' l' R' W' SN => ?_
   refine ⟨_,rfl,l,_,rfl,.inl (ba.of (K:=K) l'),rfl,_,rfl,?_⟩
   refine a_ (fun c=>by simp at c) (fun _=> ?_)
   exact ⟨_,_,_,uz,jG,rfl,s',R',W',SN⟩
  ·rw [hw] at lw
   refine a_ (fun c=>by rw [lw] at c;simp at c) (fun _=> ?_)
   refine ⟨_,rfl,l,_,rfl,.inl l2,rfl,_,rfl,?_⟩
   refine a_ (fun c=>by rw [lw] at c;simp at c) (fun _=> ?_)
   refine ⟨_,rfl,l,_,rfl,.inl l2,rfl,_,rfl,?_⟩
   refine a_ (fun _=> ?_) (fun c=>by rw [lw] at c;simp at c)
   refine ⟨_,rfl,a,C,dx,_,_,_,rfl,R2.obj,rfl,LD,_,rfl,_,rfl,sa,_,_,_,rfl,rfl,rP,iy,_,rfl,sa,_,_,_,rfl,rfl,rP,g9,?_⟩
   intro de d1 Kj N' ne1
   have s4:av H2 (upd (upd H2 d1 (.own de)) de (.ins CF d1 [])):=fun b o e=>by rw [ao (aq e Kj),ao (aq e N')];exact e
   have e4:(upd (upd H2 d1 (.own de)) de (.ins CF d1 [])) de =some (.ins CF d1 []):=ak
   generalize upd (upd H2 d1 (.own de)) de (.ins CF d1 [])=H4 at s4 e4 ⊢
   dsimp only [eI]
   refine fin (.ref de) H4 _ _ s4 (.inr ⟨de,CF,d1,_,["self"],gj K,rfl,e4,rfl,wF,fun H6 _ _ Q' an=>⟨de,rfl,by rw [hw] at an;exact an⟩⟩) fun H' uz jG s' l' R' W' SN => ?_
   exact ⟨_,_,_,uz,jG,rfl,s',R',W',SN⟩
 ·rintro σ H2 ⟨o4,o5,o6,kP,kW,rfl,s2,R2,W2,nw⟩
  rw [lu,afC] at R2 W2
  have lv:dN.length=ar.length:=Paired.length pb
  refine ⟨_,rfl,bA,rfl,⟨_,ba.of (s2 _ _ hb)⟩,bM (K:=K) (a:=bA) (xs:=dN) (fun i σ H' =>∃(o3 o7 o8:Option V) (kB:List (Key×V)),σ=[some (.ref pA),some (.ref bA),some (.ref a),o3,o5,o6,o7,o8]∧av H H' ∧d6 K H' C a dx pP pW pB (pins.map fun p=>(p.nm,iW p.sp)) ((ar.take i).map fun b=>(b.nm,b.one.nm,b.other.nm)) kP kW kB∧ou K H' (pins.map fun p=>(p.nm,p.ws)) kW) ⟨_,none,none,[],rfl,s2,R2,W2⟩ (fun i σ H' _ h=>by
    obtain ⟨_,_,_,_,_,s,_⟩:=h
    exact ba.of (s _ _ hb)) ?_ ?_⟩
  ·rintro i u σ H3 hu ⟨o3,o7,o8,kB,rfl,s3,R3,W3⟩
   obtain ⟨b,Ph,Ob⟩:=aA pb hu
   have mb:b∈ar:=ir Ph
   obtain ⟨ta,i1,j1,rfl,h1,g1,g2⟩:=Ob.same s3
   obtain ⟨m1,m2,m3⟩:=gb.ends b mb
   have tk:=take_snoc Ph
   have il:i < ar.length:=(be.mp Ph).1
   have SO :∀(k:Nat) (p:aF),pins[k]? =some p→∃(c la:Addr) (sv:V),i6 us (k:Int)=some (.ref c)∧bK K H3 c [.str p.nm,sv,.ref la]:=fun k p ek=>by
    obtain ⟨u',LF,Zr⟩:=aA (cN pp) ek
    obtain ⟨c,la,sv,ws,rfl,q1,_⟩:=gw.same Zr s3
    exact ⟨c,la,sv,dC LF,q1⟩
   obtain ⟨c1,la1,sv1,Oc,q1⟩:=SO _ _ g1
   obtain ⟨c2,la2,sv2,Od,q2⟩:=SO _ _ g2
   refine ⟨ta,_,rfl,h1,rfl,_,_,rfl,_,_,rfl,_,_,rfl,rfl,?_⟩
   have lp3:=ba.of (K:=K) (s3 _ _ hp)
   refine ⟨_,rfl,a,C,dx,_,_,_,rfl,R3.obj,rfl,Zp,_,rfl,_,rfl,_,rfl,pA,_,_,_,rfl,rfl,lp3,Oc,c1,_,_,_,rfl,rfl,q1,rfl,_,rfl,_,rfl,pA,_,_,_,rfl,rfl,lp3,Od,c2,_,_,_,rfl,rfl,q2,rfl,?_⟩
   refine ⟨a,dx,pP,pW,pB,_,_,kP,kW,kB,b.nm,b.one.nm,b.other.nm,rfl,R3,fun z=> ?_,?_,?_,m3,?_,fun H' YV k' R' => ?_⟩
   ·rw [afj] at z
    obtain ⟨b',gC,e'⟩:=aah.mp z
    exact jh (nm:=bB.nm) gb.nb Ph gC e'
   ·rw [afj]
    exact aah.mpr ⟨_,m1,rfl⟩
   ·rw [afj]
    exact aah.mpr ⟨_,m2,rfl⟩
   ·rw [aaa,afv]
    omega
   ·refine ⟨_,_,_,YV,rfl,fun c o z=>k' c o (aq z nB) (s3 _ _ z),?_,?_⟩
    ·rw [tk,afq]
     exact R'
    ·refine Paired.bq W3 fun p' kv z=>⟨z.1,?_⟩
     obtain ⟨l',iz,z1,z2,z3⟩:=z.2
     refine ⟨l',iz,z1,k' _ _ (fun z=>by rw [z,R3.br] at z2;cases z2) z2,z3.aS fun c xs r=> ?_⟩
     rcases r with r | ⟨o',r⟩
     ·exact .inl (k' _ _ (fun e=>by rw [e,R3.br] at r;cases r) r)
     ·exact .inr ⟨o',k' _ _ (fun e=>by rw [e,R3.br] at r;cases r) r⟩
  ·rintro σ H3 ⟨o3,o7,o8,kB,rfl,s3,R3,W3⟩
   rw [lv,afC] at R3
   exact ⟨_,rfl,q a dx pP pW pB kP kW kB H3 s3 R3 W3 nw nP nW nB⟩
def ax (k:Int)(p:Rat×Rat):Rat:=if k=0 then p.1 else p.2
theorem xT {K:Frag}{H:Hp}{v:V}{p:Rat×Rat}{k:Int}(hk:k=0∨k=1)(h:dZ K H v p):∃(a:Addr) (xs:List V) (u:V),v=.ref a∧bK K H a xs∧i6 xs k=some u∧gA K H u (ax k p):=by
 obtain ⟨a,u1,u2,rfl,hq,h1,h2⟩:=h
 rcases hk with rfl | rfl
 ·exact ⟨a,_,u1,rfl,hq,rfl,h1⟩
 ·exact ⟨a,_,u2,rfl,hq,rfl,h2⟩
theorem LG {n:Nat}{p:Rat×Rat}{k:Int}(h:Sz n p.1∧Sz n p.2):Sz n (ax k p):=by
 unfold ax
 split
 ·exact h.1
 ·exact h.2
theorem rR {K:Frag}{H:Hp}{us:List V}{pins:List aF}{k:Nat}{p:aF}(pp:Paired (gw K H) us pins)(e:pins[k]? =some p):∃(c la:Addr) (sv:V),i6 us (k:Int)=some (.ref c)∧bK K H c [.str p.nm,sv,.ref la]∧dZ K H sv p.sp:=by
 obtain ⟨u',LF,Zr⟩:=aA (cN pp) e
 obtain ⟨c,la,sv,ws,rfl,q1,q2,_⟩:gw K H u' p:=Zr
 exact ⟨c,la,sv,dC LF,q1,q2⟩
inductive vU (K:Frag)(vs:List V)(H:Hp)(Q:VK)(E_:XK):Prop where
 | mk (pA:Addr) (us:List V) (pins:List aF) (u:V) (b:bB) (k:Int) (_:vs=[.ref pA,u,.int k]) (_:H pA=some (.lst us)) (_:Paired (gw K H) us pins) (_:eA pins) (_:ie K H pins u b) (_:(k=0∨k=1)) (_:∀(v:V) (H' :Hp),av H H' →j3 K H' v 89 (ax k b.other.sp - ax k b.one.sp)→Q v H'):vU K vs H Q E_
theorem SQ:aD ["_law_pins_here","_law_bar","_law_axis"] ["_law_pins_here","_law_bar","_law_axis"] (ag zB):=sq
theorem SR (D:Def K mg "_law_arm" zB ["_law_pins_here","_law_bar","_law_axis"])(rO:Fn P w K mg base (a8 P w) 1 "_law_sum" ["_law_one_here","_law_other"] (c_ K fC))(Oe:Fn P w K mg base (a8 P w) 1 "_law_turned" ["_law_one_here"] (gu K)):
  Fn P w K mg base (a8 P w) 2 "_law_arm" ["_law_pins_here","_law_bar","_law_axis"] (vU K):=by
 refine D.ok SQ (fun vs H Q E h=> ?_) (fun f bC A outer s H vs Q E hr h=> ?_)
 ·obtain ⟨pA,us,pins,u,b,k,rfl,_⟩:=h
  rfl
 obtain ⟨pA,us,pins,u,b,k,rfl,hp,pp,gp,⟨ta,i,j,rfl,hb,e1,e2⟩,hk,q⟩:=h
 refine ⟨_,(aj (aG (aC rO hr.mo pX (au (bD jN (aK (bD bu (pv 0) (aK (pv 1)) (fun _ _=>rfl))) (pv 2) (fun _ _=>rfl)) (au (aC Oe hr.mo pX (au (bD jN (aK (bD bu (pv 0) (aK (pv 1)) (fun _ _=>rfl))) (pv 2) (fun _ _=>rfl)) aa)) aa))))),?_⟩
 obtain ⟨c1,l1,sv1,Oc,q1,r1⟩:=rR pp e1
 obtain ⟨c2,l2,sv2,Od,q2,r2⟩:=rR pp e2
 obtain ⟨a1,xs1,u1,rfl,t1,v1,n1⟩:=xT hk r1
 obtain ⟨a2,xs2,u2,rfl,t2,v2,n2⟩:=xT hk r2
 have z1:=LG (k:=k) (gp.sz _ (ir e1))
 have z2:=LG (k:=k) (gp.sz _ (ir e2))
 have lp:=ba.of (K:=K) hp
 refine ⟨_,rfl,_,rfl,ta,_,_,_,rfl,rfl,hb,rfl,pA,_,_,_,rfl,rfl,lp,Od,c2,_,_,_,rfl,rfl,q2,rfl,_,rfl,a2,_,_,_,rfl,rfl,t2,v2,_,rfl,_,rfl,ta,_,_,_,rfl,rfl,hb,rfl,pA,_,_,_,rfl,rfl,lp,Oc,c1,_,_,_,rfl,rfl,q1,rfl,_,rfl,a1,_,_,_,rfl,rfl,t1,v1,?_⟩
 dsimp only [eI]
 show gu K [_] _ _ E0
 refine uK (gT n1 (xO z1 (aai _))) fun p3 H3 s3 n3=> ?_
 show c_ K fC [_,_] _ _ E0
 refine rJ ((gT n2 (xO z2 (aai _))).same s3) n3 (by decide) fun p4 H4 s4 n4=> ?_
 refine q (.ref p4) H4 (s3.trans s4) ?_
 rw [anQ]
 exact n4
inductive rS (K:Frag)(vs:List V)(H:Hp)(Q:VK)(E_:XK):Prop where
 | mk (l1 l2:Addr) (u1 u2 v1 v2:V) (x1 x2 y1 y2:Rat) (m n:Nat) (_:vs=[.ref l1,.ref l2]) (_:(ba K H l1 [u1,u2]∨bK K H l1 [u1,u2])) (_:(ba K H l2 [v1,v2]∨bK K H l2 [v1,v2])) (_:j3 K H u1 m x1) (_:j3 K H u2 m x2) (_:j3 K H v1 n y1) (_:j3 K H v2 n y2) (_:m+n≤30000000) (_:∀(v:V) (H' :Hp),av H H' →j3 K H' v (m+n+(m+n)+1) (x1*y1+x2*y2)→Q v H'):rS K vs H Q E_
theorem SS:aD ["_law_one_here","_law_other"] ["_law_one_here","_law_other"] (ag zE):=sq
theorem SU (D:Def K mg "_law_dot" zE ["_law_one_here","_law_other"])(rO:Fn P w K mg base (a8 P w) 1 "_law_sum" ["_law_one_here","_law_other"] (c_ K fC))(SV:Fn P w K mg base (a8 P w) 1 "_law_times" ["_law_one_here","_law_other"] (c_ K oN)):
  Fn P w K mg base (a8 P w) 2 "_law_dot" ["_law_one_here","_law_other"] (rS K):=by
 refine D.ok SS (fun vs H Q E h=> ?_) (fun f bC A outer s H vs Q E hr h=> ?_)
 ·obtain ⟨l1,l2,u1,u2,v1,v2,x1,x2,y1,y2,m,n,rfl,_⟩:=h
  rfl
 obtain ⟨l1,l2,u1,u2,v1,v2,x1,x2,y1,y2,m,n,rfl,h1,h2,a1,a2,b1,b2,le,q⟩:=h
 refine ⟨_,(aj (aG (aC rO hr.mo pX (au (aC SV hr.mo pX (au (bD xn (pv 0) ah (fun _ _=>rfl)) (au (bD xn (pv 1) ah (fun _ _=>rfl)) aa))) (au (aC SV hr.mo pX (au (bD xn (pv 0) ah (fun _ _=>rfl)) (au (bD xn (pv 1) ah (fun _ _=>rfl)) aa))) aa))))),?_⟩
 refine ⟨_,rfl,l1,_,_,_,rfl,rfl,h1,rfl,_,rfl,l2,_,_,_,rfl,rfl,h2,rfl,?_⟩
 dsimp only [eI]
 show c_ K oN [_,_] _ _ E0
 refine xQ a1 b1 (by omega) fun p3 H3 s3 n3=> ?_
 refine ⟨_,rfl,l1,_,_,_,rfl,rfl,(h1.imp s3.seq (Ty.av.cy s3)),rfl,_,rfl,l2,_,_,_,rfl,rfl,(h2.imp s3.seq (Ty.av.cy s3)),rfl,?_⟩
 dsimp only [eI]
 show c_ K oN [_,_] _ _ E0
 refine xQ (a2.same s3) (b2.same s3) (by omega) fun p4 H4 s4 n4=> ?_
 show c_ K fC [_,_] _ _ E0
 refine rJ (n3.same s4) n4 (by omega) fun p5 H5 s5 n5=> ?_
 exact q (.ref p5) H5 (s3.trans (s4.trans s5)) n5
theorem BE.get {H:Hp}{pins:List aF}{d:Addr}{kM:List (Key×V)}{M:Str→Rat×Rat}{N:Nat}(h:BE K H pins d kM M N){p:aF}(hp:p∈pins):∃t v1 v2,di H d (.str p.nm) (some (.ref t))∧H t=some (.tup [v1,v2])∧gA K H v1 (M p.nm).1∧gA K H v2 (M p.nm).2:=by
 obtain ⟨t,v1,v2,a,b,c,d⟩:=h.tM p hp
 refine ⟨t,v1,v2,?_,b,c,d⟩
 have:=di.k (k:=.inr p.nm) h.hM
 rw [a] at this
 exact this
theorem LH {n:Nat}{p:Rat×Rat}{k:Int}(h:Zb n p.1∧Zb n p.2):Zb n (ax k p):=by
 unfold ax
 split
 ·exact h.1
 ·exact h.2
inductive nO (K:Frag)(vs:List V)(H:Hp)(Q:VK)(E_:XK):Prop where
 | mk (pA dM:Addr) (us:List V) (pins:List aF) (u:V) (b:bB) (kM:List (Key×V)) (M:Str→Rat×Rat) (N:Nat) (_:vs=[.ref pA,u,.ref dM]) (_:H pA=some (.lst us)) (_:Paired (gw K H) us pins) (_:eA pins) (_:ie K H pins u b) (_:BE K H pins dM kM M N) (_:∀(v:V) (H' :Hp),av H H' →j3 K H' v (4*N+200) (EY M b)→Q v H'):nO K vs H Q E_
theorem xU:aD ["_law_pins_here","_law_bar","_law_motion","_law_here","_law_there","_law_more"] ["_law_pins_here","_law_bar","_law_motion"] (ag zF):=sq
theorem SW (D:Def K mg "_law_longer" zF ["_law_pins_here","_law_bar","_law_motion"])(bQ:mg "range"=none)(rO:Fn P w K mg base (a8 P w) 1 "_law_sum" ["_law_one_here","_law_other"] (c_ K fC))(Oe:Fn P w K mg base (a8 P w) 1 "_law_turned" ["_law_one_here"] (gu K))(SX:Fn P w K mg base (a8 P w) 2 "_law_arm" ["_law_pins_here","_law_bar","_law_axis"] (vU K))(Of:Fn P w K mg base (a8 P w) 2 "_law_dot" ["_law_one_here","_law_other"] (rS K)):
  Fn P w K mg base (a8 P w) 3 "_law_longer" ["_law_pins_here","_law_bar","_law_motion"] (nO K):=by
 refine D.ok xU (fun vs H Q E h=> ?_) (fun f bC A outer s H vs Q E hr h=> ?_)
 ·obtain ⟨pA,dM,us,pins,u,b,kM,M,N,rfl,_⟩:=h
  rfl
 obtain ⟨pA,dM,us,pins,u,b,kM,M,N,rfl,hp,pp,gp,Ob,mo,q⟩:=h
 have hN:=mo.hN
 have L2:2≤sizeLine:=by decide
 refine ⟨_,(ae (aH (i:=3) xU.nd rfl (afx rfl) (cF (bT hr) (pv 2) (aK (bD bu (pv 0) (aK (pv 1)) (fun _ _=>rfl))) (fun _ _=>rfl)))
  (ae (aH (i:=4) xU.nd rfl (afx rfl) (cF (bT hr) (pv 2) (aK (bD bu (pv 0) (aK (pv 1)) (fun _ _=>rfl))) (fun _ _=>rfl)))
  (ae (xg (i:=5) xU.nd rfl (ab_ rfl) (tn:=["_law_axis"]) (fr:=["_law_there","_law_here"]) (caps:=[4,3]) rfl ⟨rfl,by decide+kernel,rfl,by decide+kernel,by decide+kernel,rfl,⟨(by first | exact ab_ rfl | exact afx rfl),⟨(by first | exact ab_ rfl | exact afx rfl),trivial⟩⟩,⟨(by first | exact ab_ rfl | exact afx rfl),⟨(by first | exact ab_ rfl | exact afx rfl),trivial⟩⟩⟩ (dP rfl bQ (au ah aa)) (fun _ _ _ _=>(aE (i:=0) (show (["_law_axis","_law_there","_law_here"]:List Str).Nodup from by decide+kernel) rfl (ab_ rfl))) (fun _ _ _ _=>fb) (fun _ _ _ _=>(aC rO hr.mo (tE (by first | assumption | exact a8.qS) rfl) (au (bD (f' (K:=K) rfl) (pv 1) (pv 0) (fun _ _=>rfl)) (au (aC Oe hr.mo (tE (by first | assumption | exact a8.qS) rfl) (au (bD (f' (K:=K) rfl) (pv 2) (pv 0) (fun _ _=>rfl)) aa)) aa)))))
  (aj (aG (aC Of hr.mo pX (au (cu (au (aC SX hr.mo pX (au (pv 0) (au (pv 1) (au ah aa)))) (au (aC SX hr.mo pX (au (pv 0) (au (pv 1) (au ah aa)))) aa))) (au (pv 5) aa)))))))),?_⟩
 obtain ⟨ta,i,j,rfl,hb,e1,e2⟩:=id Ob
 obtain ⟨c1,l1,sv1,Oc,q1,_⟩:=rR pp e1
 obtain ⟨c2,l2,sv2,Od,q2,_⟩:=rR pp e2
 obtain ⟨t1,y1,y1',Zs,et1,m11,m12⟩:=mo.get (ir e1)
 obtain ⟨t2,y2,y2',Zt,et2,m21,m22⟩:=mo.get (ir e2)
 have hw1:dZ K H (.ref t1) (M b.one.nm):=⟨t1,y1,y1',rfl,bK.of et1,m11,m12⟩
 have hw2:dZ K H (.ref t2) (M b.other.nm):=⟨t2,y2,y2',rfl,bK.of et2,m21,m22⟩
 have lp:=ba.of (K:=K) hp
 refine ⟨_,rfl,_,rfl,_,rfl,ta,_,_,_,rfl,rfl,hb,rfl,pA,_,_,_,rfl,rfl,lp,Oc,c1,_,_,_,rfl,rfl,q1,rfl,dM,_,rfl,Zs,?_⟩
 refine ⟨_,rfl,_,rfl,_,rfl,ta,_,_,_,rfl,rfl,hb,rfl,pA,_,_,_,rfl,rfl,lp,Od,c2,_,_,_,rfl,rfl,q2,rfl,dM,_,rfl,Zt,?_⟩
 have z1:=mo.zb _ (ir e1)
 have z2:=mo.zb _ (ir e2)
 refine ⟨(2:Int),rfl,by decide,by decide,fun D1 n1=> ?_⟩
 refine vn (lo:=0) (n:=2) (cap:=[some (.ref t2),some (.ref t1)]) (fun k v H=>j3 K H v (N+N+1) (ax (k:Int) (M b.other.nm) - ax (k:Int) (M b.one.nm))) n1 (by decide) (fun _ _ _ _ _ h0 ks h=>by
   refine j3.aS h fun b xs r=> ?_
   rcases r with r | ⟨o',r⟩
   ·exact .inl (ks _ _ (fun e=>by rw [e,h0] at r;cases r) r)
   ·exact .inr ⟨o',ks _ _ (fun e=>by rw [e,h0] at r;cases r) r⟩) ?_ ?_
 ·intro k H3 R hk s3 kk
  have ek:(0:Int)+(k:Int)=(k:Int):=afU _
  rw [ek]
  have YA:(k:Int)=0∨(k:Int)=1:=by omega
  obtain ⟨a1,xs1,u1,Oc,t1,v1,m1⟩:=xT YA (hw1.same s3)
  obtain ⟨a2,xs2,u2,Od,t2,v2,m2⟩:=xT YA (hw2.same s3)
  cases Oc
  cases Od
  refine ⟨_,rfl,_,rfl,_,_,_,_,rfl,rfl,t2,v2,_,rfl,_,rfl,_,_,_,_,rfl,rfl,t1,v1,?_⟩
  dsimp only [eI]
  show gu K [_] _ _ E0
  refine uK (gT m1 (LH z1)) fun p4 H4 s4 n4=> ?_
  show c_ K fC [_,_] _ _ E0
  refine rJ ((gT m2 (LH z2)).same s4) n4 (by omega) fun p5 H5 s5 n5=> ?_
  refine kk _ _ (s4.trans s5) ?_
  rw [anQ]
  exact n5
 intro ys H3 ly hy s3 hD
 obtain ⟨y1,y2,rfl⟩:∃y1 y2,ys=[y1,y2]:=by
  match ys,ly with
  | [y1,y2],_=>exact ⟨y1,y2,rfl⟩
 have k1:=hy 0 y1 rfl
 have k2:=hy 1 y2 rfl
 refine ⟨_,rfl,_,rfl,pA,us,pins,_,b,0,rfl,s3 _ _ hp,Paired.bq pp fun _ _ z=>z.same s3,gp,Ob.same s3,.inl rfl,fun v4 H4 s4 n4=> ?_⟩
 have BD:=s3.trans s4
 refine ⟨_,rfl,_,rfl,pA,us,pins,_,b,1,rfl,BD _ _ hp,Paired.bq pp fun _ _ z=>z.same BD,gp,Ob.same BD,.inr rfl,fun v5 H5 s5 n5=>⟨L2,?_⟩⟩
 intro l6 m6;generalize eX:upd _ l6 _=H6;have ⟨s6,e6⟩:=nw m6 eX;clear eX
 have Og:=s4.trans (s5.trans s6)
 refine ⟨_,rfl,l6,D1,_,_,_,_,_,_,_,_,89,N+N+1,rfl,.inl (ba.of e6),.inl (ba.of (Og _ _ hD)),(n4.same (s5.trans s6)),n5.same s6,k1.same Og,k2.same Og,by omega,fun v H7 s7 n7=> ?_⟩
 exact q v H7 (s3.trans (Og.trans s7)) (n7.up (by omega))
inductive rT (K:Frag)(vs:List V)(H:Hp)(Q:VK)(E_:XK):Prop where
 | mk (pA dM:Addr) (us:List V) (pins:List aF) (kM:List (Key×V)) (M:Str→Rat×Rat) (N:Nat) (_:vs=[.ref pA,.ref dM]) (_:H pA=some (.lst us)) (_:Paired (gw K H) us pins) (_:eA pins) (_:BE K H pins dM kM M N) (_:(∀p∈pins,∀w∈p.ws,dt w (M p.nm)=0)) (_:∀(H' :Hp),av H H' →Q (.bl true) H'):rT K vs H Q E_
theorem uP:aD ["_law_pins_here","_law_motion","_law_name_here","_law_spot_here","_law_ways_here","_law_way"] ["_law_pins_here","_law_motion"] (ag zG):=sq
theorem SY (D:Def K mg "_law_keeps" zG ["_law_pins_here","_law_motion"])(Of:Fn P w K mg base (a8 P w) 2 "_law_dot" ["_law_one_here","_law_other"] (rS K)):
  Fn P w K mg base (a8 P w) 3 "_law_keeps" ["_law_pins_here","_law_motion"] (rT K):=by
 refine D.ok uP (fun vs H Q E h=> ?_) (fun f bC A outer s H vs Q E hr h=> ?_)
 ·obtain ⟨pA,dM,us,pins,kM,M,N,rfl,_⟩:=h
  rfl
 obtain ⟨pA,dM,us,pins,kM,M,N,rfl,hp,pp,gp,mo,ke,q⟩:=h
 have hN:=mo.hN
 refine ⟨_,(ae (bF PassesOwn.never rfl (bw (pv 0)) (dO rfl (aX (aE (i:=2) uP.nd rfl (ab_ rfl)) (aX (aE (i:=3) uP.nd rfl (ab_ rfl)) (aX (aE (i:=4) uP.nd rfl (ab_ rfl)) cQ)))) (aj (bF PassesOwn.never rfl (bw (pv 4)) (aE (i:=5) uP.nd rfl (ab_ rfl)) (aj (bf (aQ kh (aK (aC Of hr.mo pX (au (pv 5) (au (cF (bT hr) (pv 1) (pv 2) (fun _ _=>rfl)) aa)))) ah (aV _)) (aj (aG cI)) aJ)))))
  (aj (aG cI))),?_⟩
 refine ⟨_,rfl,pA,rfl,⟨_,ba.of hp⟩,bM (K:=K) (a:=pA) (xs:=us) (fun i σ H' =>∃(o2 o3 o4 o5:Option V),σ=[some (.ref pA),some (.ref dM),o2,o3,o4,o5]∧av H H') ⟨none,none,none,none,rfl,av.refl _⟩ (fun i σ H' _ h=>by
   obtain ⟨_,_,_,_,_,s⟩:=h
   exact ba.of (s _ _ hp)) ?_ ?_⟩
 ·rintro i u σ H4 hu ⟨o2,o3,o4,o5,rfl,s4⟩
  obtain ⟨p,ep,N_⟩:=aA pp hu
  have mp:p∈pins:=ir ep
  obtain ⟨ta,l,sv,ws,rfl,h1,h2,h3,h4⟩:=N_.same s4
  refine ⟨ta,_,rfl,h1,rfl,_,_,rfl,_,_,rfl,_,_,rfl,rfl,?_⟩
  refine ⟨_,rfl,l,rfl,⟨_,ba.of h3⟩,bM (K:=K) (a:=l) (xs:=ws) (fun j σ H' =>∃(o5:Option V),σ=[some (.ref pA),some (.ref dM),some (.str p.nm),some sv,some (.ref l),o5]∧av H4 H') ⟨o5,rfl,av.refl _⟩ (fun j σ H' _ h=>by
     obtain ⟨_,_,s⟩:=h
     exact ba.of (s _ _ h3)) ?_ ?_⟩
  ·rintro j wv σ H5 hwv ⟨o5,rfl,s5⟩
   obtain ⟨wq,ewq,hwq⟩:=aA h4 hwv
   have mw:wq∈p.ws:=ir ewq
   have zw:=(gp.ws p mp).sz wq mw
   obtain ⟨wa,y1,y2,rfl,CU,b1,b2⟩:=hwq.same s5
   have EV:=s4.trans s5
   obtain ⟨t,v1,v2,dg,et,m1,m2⟩:=(mo.same EV).get mp
   have zp:=mo.zb p mp
   refine ⟨_,rfl,_,rfl,_,rfl,dM,_,rfl,dg,?_⟩
   dsimp only [eI]
   refine ⟨wa,t,y1,y2,v1,v2,_,_,_,_,22,N,rfl,.inr CU,.inr (bK.of et),gT b1 (xO zw.1 (aai _)),gT b2 (xO zw.2 (aai _)),gT m1 zp.1,gT m2 zp.2,by omega,fun v H6 s6 n6=> ?_⟩
   obtain ⟨x,⟨p6,rfl,k1⟩,k2,k3,k4⟩:=n6
   refine ⟨p6,_,_,_,rfl,rfl,k1,iy,rfl,_,rfl,?_⟩
   have e0:x.1=0:=(xP k2).mpr (by rw [k3];exact ke p mp wq mw)
   rw [e0]
   refine a_ (fun c=>by simp at c) (fun _=> ?_)
   exact ⟨_,rfl,s5.trans s6⟩
  ·rintro σ H5 ⟨o5,rfl,s5⟩
   exact ⟨_,_,_,_,rfl,s4.trans s5⟩
 ·rintro σ H4 ⟨o2,o3,o4,o5,rfl,s4⟩
  exact q H4 s4
theorem S0:PySem.W.kitOne K (.type "int") (.type "int")=some true:=by unfold PySem.W.kitOne;rw [if_pos (by decide)]
theorem S1:PySem.W.kitOne K (.type "int") (.type "bool")=some false:=CJ ⟨by decide,fun _=>⟨by decide+kernel,by decide+kernel⟩⟩
theorem xV (x:Int×Int):cg [.v (.int x.1),.v (.int x.2)] [.v (.int x.1),.v (.int x.2)]=true:=by
 simp [cg,fB,om]
inductive nQ (K:Frag)(vs:List V)(H:Hp)(Q:VK)(E_:XK):Prop where
 | mk (u:V) (r:Rat) (_:vs=[u]) (_:gA K H u r) (_:∀H',av H H' →Q (.bl true) H'):nQ K vs H Q E_
theorem LI:aD ["_law_x","_law_part"] ["_law_x"] (ag zC):=sq
theorem S2 (D:Def K mg "_law_number" zC ["_law_x"])(bE:mg "len"=none)(bc:mg "isinstance"=none)(iC:mg "int"=none)(j4:mg "bool"=none)(eR:mg "tuple"=none)
  (rM:Fn P w K mg base (a8 P w) 33 "_law_lowest" ["_law_top","_law_bottom"] du):Fn P w K mg base (a8 P w) 34 "_law_number" ["_law_x"] (nQ K):=by
 refine D.ok LI (fun vs H Q E h=> ?_) (fun f bC A outer s H vs Q E hr h=> ?_)
 ·obtain ⟨u,r,rfl,_⟩:=h
  rfl
 obtain ⟨_,r,rfl,⟨p1,rfl,h1⟩,q⟩:=h
 have hp:=c9 r
 have hg:=mT r
 generalize qr r=x at h1 hp hg
 refine ⟨_,(ae (bf (PW.pt (gF (c7 (cn (aU p_ rfl bc bP (au (pv 0) (au (ja rfl eR qR) aa))))) (fu (aQ kh (aU a9 rfl bE dD (au (pv 0) aa)) ah (aV _))))) (aj (aG cI)) aJ)
  (ae (bF PassesOwn.never rfl (MF (pv 0)) (aE (i:=1) LI.nd rfl (ab_ rfl)) (aj (bf (PW.pt (gF (c7 (cn (aU e_ rfl bc bP (au (pv 1) (au (ja rfl iC w8) aa))))) (fu (cn (aU e_ rfl bc bP (au (pv 1) (au (ja rfl j4 CK) aa))))))) (aj (aG cI)) aJ)))
  (aj (aG (BK (gX wK (aK (pv 0)) ah (aV _)) (BJ (gX (i_ hr.units) (aC rM hr.mo pX (au (aK (pv 0)) (au (aK (pv 0)) aa))) (pv 0) (aV _)))))))),?_⟩
 refine ⟨_,rfl,p1,_,rfl,h1,_,rfl,?_⟩
 refine a_ (fun c=>nomatch c) (fun _=> ?_)
 refine ⟨_,rfl,p1,_,rfl,.inr h1,rfl,_,rfl,?_⟩
 refine CH rfl ?_
 refine ⟨_,rfl,p1,rfl,⟨_,h1⟩,IZ (K:=K) (a:=p1) (xs:=[.int x.1,.int x.2]) (fun i σ H' =>∃o,σ=[some (.ref p1),o]∧H' =H) ⟨none,rfl,rfl⟩ (fun i σ H' _ ⟨o,_,e⟩=>by rw [e];exact h1) ?_ ?_⟩
 ·rintro i z σ H' hi ⟨o,rfl,rfl⟩
  obtain ⟨n,rfl⟩:∃n,z=V.int n:=by
   match i,hi with
   | 0,hi=>exact ⟨_,(aff hi).symm⟩
   | 1,hi=>exact ⟨_,(aff hi).symm⟩
  refine ⟨_,rfl,_,_,_,true,rfl,rfl,.int n,S0,_,rfl,?_⟩
  refine a_ (fun c=>nomatch c) (fun _=> ?_)
  refine ⟨_,rfl,_,_,_,false,rfl,rfl,.int n,S1,_,rfl,?_⟩
  refine a_ (fun c=>nomatch c) (fun _=> ?_)
  exact ⟨_,rfl,rfl⟩
 ·rintro σ H' ⟨o,rfl,rfl⟩
  refine ⟨_,rfl,p1,_,_,_,rfl,rfl,h1,g9,_,_,rfl,rfl,_,rfl,?_⟩
  refine a_ (fun _=> ?_) (fun c=>absurd (decide_eq_true hp) c)
  refine ⟨_,rfl,p1,_,_,_,rfl,rfl,h1,iy,_,rfl,p1,_,_,_,rfl,rfl,h1,g9,_,_,rfl,hp,fun p2 H2 s2 e2=> ?_⟩
  rw [mC hp hg] at e2
  refine ⟨_,rfl,_,_,.inl ⟨g7 (q:=x) ⟨p2,rfl,bK.of e2⟩,g7 (q:=x) ⟨p1,rfl,Ty.av.cy s2 h1⟩⟩,rfl,w_,?_⟩
  rw [xV x]
  exact q _ s2
theorem Zu:PySem.W.kitOne K (.type "tuple") (.type "tuple")=some true:=by unfold PySem.W.kitOne;rw [if_pos (by decide)]
theorem S3:PySem.W.kitOne K (.type "dict") (.type "dict")=some true:=by unfold PySem.W.kitOne;rw [if_pos (by decide)]
theorem nR {K:Frag}{H:Hp}:∀ws:List Str,dS K H (ws.map fun w=>Da.v (.str w)) (ws.map V.str)
 | []=>by unfold dS;trivial
 | w::ws=>by
  rw [ac_,ac_]
  unfold dS
  refine ⟨?_,nR ws⟩
  unfold Is
  exact ⟨rfl,rfl⟩
theorem xW:∀ws:List Str,cg (ws.map fun w=>Da.v (.str w)) (ws.map fun w=>Da.v (.str w))=true
 | []=>by simp [cg]
 | w::ws=>by
  rw [ac_]
  unfold cg
  rw [xW ws]
  simp [fB,om]
theorem xX:∀ws:List Str,cK (ws.map fun w=>Da.v (.str w)) (ws.map fun w=>Da.v (.str w))=true
 | []=>by simp [cK]
 | w::ws=>by
  rw [ac_]
  unfold cK
  rw [xX ws]
  simp [alike]
theorem uQ:∀ws:List Str,eM (ws.map fun w=>Da.v (.str w))≤60
 | []=>by simp [eM]
 | w::ws=>by
  rw [ac_]
  unfold eM
  have:=uQ ws
  simp only [dep]
  omega
theorem Kk {K:Frag}{H:Hp}{p p2:Addr}{ws:List Str}{Q:VK}(e1:H p=some (.lst (ws.map V.str)))(e2:H p2=some (.lst (ws.map V.str)))(q:Q (.bl false) H):tj K (.ref p) (.ref p2) H Q:=by
 refine ⟨ws.map fun w=>Da.v (.str w),ws.map fun w=>Da.v (.str w),.inr ⟨?_,?_⟩,xX ws,uQ ws,by rw [xW];exact q⟩
 ·unfold Is
  exact ⟨p,_,rfl,ba.of e1,nR ws⟩
 ·unfold Is
  exact ⟨p2,_,rfl,ba.of e2,nR ws⟩
theorem jy {x:V}{ys:List V}:i6 (x::ys) 0=some x:=dC (xs:=x::ys) (j:=0) rfl
theorem FO {α:Type}{D1 a:Addr}{H:Hp}{us:List V}{zs:List α}{nm:α→Str}{cap:L2.St}{R:VK}(n1:H D1=none)(ha:H a=some (.lst us))(pr:Paired (fun u z=>∃c ys,u=.ref c∧bK K H c (.str (nm z)::ys)) us zs)(l:zs.length≤1000)(k:∀H',av H H' →H' D1=some (.lst ((zs.map nm).map V.str))→R (.ref D1) H'):
  jd D1 (cD 0) jO (MI (BZ K) (IS 0) (tC (V.int 0))) (IX K a) (none::cap) H R:=by
 have lu:us.length=zs.length:=Paired.length pr
 refine fN (K:=K) (a:=a) (xs:=us) (fun i v _=>∃z,zs[i]? =some z∧v=.str (nm z)) n1 (by rw [lu];exact afe l (by decide)) (fun H2 s2=>ba.of (s2 _ _ ha)) (fun _ _ _ _ _ _ _ h=>h) ?_ ?_
 ·intro i u H2 R hu s2 k
  obtain ⟨z,ez,c,ys,rfl,h1⟩:=aA pr hu
  exact ⟨_,rfl,c,_,_,_,rfl,rfl,Ty.av.cy s2 h1,jy,k _ _ (av.refl _) ⟨z,ez,rfl⟩⟩
 ·intro ys H2 hy jS s2 hD
  refine k H2 s2 ?_
  rw [hD]
  congr 2
  refine afI fun i=> ?_
  rw [afj,Wp]
  by_cases c:i < ys.length
  ·obtain ⟨p,e1,e2⟩:=jS i ys[i] (gE c)
   rw [gE c,e1,e2]
   rfl
  ·rw [aal (by omega),aal (by omega)]
   rfl
theorem qe {α:Type}{nm:α→Str}{kM:List (Key×V)}{zs:List α}(h:kM.map (·.1)=zs.map (fun p=>(af1 (nm p):Key))):(kM.map fun kv=>kV kv.1)=(zs.map nm).map V.str:=by
 have:(kM.map fun kv=>kV kv.1)=(kM.map (·.1)).map kV:=by rw [afj];rfl
 rw [this,h,afj,afj]
 rfl
theorem vV {H:Hp}{us:List V}{pins:List aF}(h:Paired (gw K H) us pins):Paired (fun u (z:aF)=>∃c ys,u=.ref c∧bK K H c (.str z.nm::ys)) us pins:=Paired.bq h fun _ _ ⟨a,l,s,us,e,h1,_,_,_⟩=>⟨a,_,e,h1⟩
inductive FP (K:Frag)(vs:List V)(H:Hp)(Q:VK)(E_:XK):Prop where
 | mk (pA dM:Addr) (us:List V) (pins:List aF) (kM:List (Key×V)) (M:Str→Rat×Rat) (N:Nat) (_:vs=[.ref pA,.ref dM]) (_:H pA=some (.lst us)) (_:Paired (gw K H) us pins) (_:pins.length≤100) (_:BE K H pins dM kM M N) (_:∀H',av H H' →Q (.bl true) H'):FP K vs H Q E_
theorem xY:aD ["_law_pins_here","_law_motion","_law_name_here","_law_spot_here","_law_ways_here"] ["_law_pins_here","_law_motion"] (ag zD):=sq
theorem S4 (D:Def K mg "_law_is_motion" zD ["_law_pins_here","_law_motion"])(bc:mg "isinstance"=none)(j5:mg "dict"=none)(bL:mg "list"=none)(eR:mg "tuple"=none)(bE:mg "len"=none)(S5:Fn P w K mg base (a8 P w) 34 "_law_number" ["_law_x"] (nQ K)):
  Fn P w K mg base (a8 P w) 35 "_law_is_motion" ["_law_pins_here","_law_motion"] (FP K):=by
 refine D.ok xY (fun vs H Q E h=> ?_) (fun f bC A outer s H vs Q E hr h=> ?_)
 ·obtain ⟨pA,dM,us,pins,kM,M,N,rfl,_⟩:=h
  rfl
 obtain ⟨pA,dM,us,pins,kM,M,N,rfl,hp,pp,lp,mo,q⟩:=h
 refine ⟨_,(ae (bf (PW.pt (gF (c7 (cn (aU e_ rfl bc bP (au (pv 1) (au (ja rfl j5 CL) aa))))) (fu (aQ (lK hr.units) (cz (gc rfl) rfl bL iK (au (pv 1) aa)) (dX (tn:=["_law_pin"]) (fr:=[]) (caps:=[]) rfl ⟨rfl,by decide+kernel,rfl,by decide+kernel,by decide+kernel,rfl,trivial,trivial⟩ (bw (pv 0)) (fun _ _ _ _=>(aE (i:=0) (show (["_law_pin"]:List Str).Nodup from by decide+kernel) rfl (ab_ rfl))) (fun _ _ _ _=>fb) (fun _ _ _ _=>(bD (f' (K:=K) rfl) (pv 0) ah (fun _ _=>rfl)))) (aV _))))) (aj (aG cI)) aJ)
  (ae (bF PassesOwn.never rfl (bw (pv 0)) (dO rfl (aX (aE (i:=2) xY.nd rfl (ab_ rfl)) (aX (aE (i:=3) xY.nd rfl (ab_ rfl)) (aX (aE (i:=4) xY.nd rfl (ab_ rfl)) cQ)))) (ae (bf (PW.pt (gF (c7 (cn (aU e_ rfl bc bP (au (cF (bT hr) (pv 1) (pv 2) (fun _ _=>rfl)) (au (ja rfl eR qR) aa))))) (fu (aQ kh (aU a9 rfl bE dD (au (cF (bT hr) (pv 1) (pv 2) (fun _ _=>rfl)) aa)) ah (aV _))))) (aj (aG cI)) aJ)
   (aj (bf (PW.pt (gF (c7 (cn (aC S5 hr.mo pX (au (aK (cF (bT hr) (pv 1) (pv 2) (fun _ _=>rfl))) aa)))) (fu (c7 (cn (aC S5 hr.mo pX (au (aK (cF (bT hr) (pv 1) (pv 2) (fun _ _=>rfl))) aa))))))) (aj (aG cI)) aJ))))
  (aj (aG cI)))),?_⟩
 refine ⟨_,rfl,_,_,_,true,rfl,rfl,.dK mo.hM,S3,_,rfl,?_⟩
 refine a_ (fun c=>nomatch c) (fun _=> ?_)
 refine ⟨_,rfl,dM,_,rfl,.inl mo.hM,?_⟩
 intro l1 n1;generalize eX:upd _ l1 _=H1;have ⟨s1,e1⟩:=nw n1 eX;clear eX
 rw [qe (nm:=aF.nm) mo.keys] at e1
 have pp1:Paired (gw K H1) us pins:=Paired.bq pp fun _ _ z=>z.same s1
 refine ⟨_,rfl,pA,rfl,⟨_,ba.of (s1 _ _ hp)⟩,fun D2 n2=> ?_⟩
 refine FO (nm:=aF.nm) n2 (s1 _ _ hp) (vV pp1) (by omega) fun H2 s2 e2=> ?_
 refine Kk (s2 _ _ e1) e2 ?_
 refine ⟨_,rfl,?_⟩
 refine a_ (fun c=>nomatch c) (fun _=> ?_)
 have xF:=s1.trans s2
 refine ⟨_,rfl,pA,rfl,⟨_,ba.of (xF _ _ hp)⟩,bM (K:=K) (a:=pA) (xs:=us) (fun i σ H' =>∃(o2 o3 o4:Option V),σ=[some (.ref pA),some (.ref dM),o2,o3,o4]∧av H H') ⟨none,none,none,rfl,xF⟩ (fun i σ H' _ h=>by
   obtain ⟨_,_,_,_,s⟩:=h
   exact ba.of (s _ _ hp)) ?_ ?_⟩
 ·rintro i u σ H4 hu ⟨o2,o3,o4,rfl,s4⟩
  obtain ⟨p,ep,N_⟩:=aA pp hu
  have mp:p∈pins:=ir ep
  obtain ⟨ta,l,sv,ws,rfl,h1,h2,h3,h4⟩:=N_.same s4
  refine ⟨ta,_,rfl,h1,rfl,_,_,rfl,_,_,rfl,_,_,rfl,rfl,?_⟩
  obtain ⟨t,v1,v2,dg,et,m1,m2⟩:=(mo.same s4).get mp
  refine ⟨_,rfl,_,rfl,dM,_,rfl,dg,?_⟩
  refine ⟨_,_,_,true,rfl,rfl,.tup et,Zu,_,rfl,?_⟩
  refine a_ (fun c=>nomatch c) (fun _=> ?_)
  refine ⟨_,rfl,_,rfl,dM,_,rfl,dg,t,_,rfl,.inr (bK.of et),rfl,_,rfl,?_⟩
  refine CH rfl ?_
  refine ⟨_,rfl,_,rfl,dM,_,rfl,dg,t,_,_,_,rfl,rfl,bK.of et,iy,_,_,rfl,m1,fun H5 s5=> ?_⟩
  refine ⟨_,rfl,?_⟩
  refine a_ (fun c=>nomatch c) (fun _=> ?_)
  obtain ⟨t,v1,v2,dg,et,m1,m2⟩:=(mo.same (s4.trans s5)).get mp
  refine ⟨_,rfl,_,rfl,dM,_,rfl,dg,t,_,_,_,rfl,rfl,bK.of et,g9,_,_,rfl,m2,fun H6 s6=> ?_⟩
  refine ⟨_,rfl,?_⟩
  refine a_ (fun c=>nomatch c) (fun _=> ?_)
  exact ⟨_,_,_,rfl,s4.trans (s5.trans s6)⟩
 ·rintro σ H4 ⟨o2,o3,o4,rfl,s4⟩
  exact q H4 s4
abbrev LJ (pins:List aF):List (Str×Pt):=pins.map fun p=>(p.nm,iW p.sp)
abbrev Pj (pins:List aF):List (Str×List (Rat×Rat)):=pins.map fun p=>(p.nm,p.ws)
abbrev W7 (ar:List bB):List (Str×Str×Str):=ar.map fun b=>(b.nm,b.one.nm,b.other.nm)
def jz (K:Frag)(H:Hp)(d e:Addr)(v:V)(p:aF):Prop:=∃(a l:Addr) (s:V) (us:List V),v=.ref a∧bK K H a [.str p.nm,s,.ref l]∧dZ K H s p.sp∧H l=some (.lst us)∧gB K H us p.ws∧l≠d∧l≠e
theorem jz.same {H H' :Hp}{d e:Addr}{v:V}{p:aF}(h:jz K H d e v p)(s:av H H'):jz K H' d e v p:=by
 obtain ⟨a,l,sv,us,ev,h1,h2,h3,h4,h5⟩:=h
 exact ⟨a,l,sv,us,ev,Ty.av.cy s h1,h2.same s,s _ _ h3,h4.same s,h5⟩
theorem jz.r {H:Hp}{d e:Addr}{v:V}{p:aF}(h:jz K H d e v p):gw K H v p:=by
 obtain ⟨a,l,sv,us,ev,h1,h2,h3,h4,_⟩:=h
 exact ⟨a,l,sv,us,ev,h1,h2,h3,h4⟩
def KO (pP pW pB lP lB:Addr)(H H' :Hp):Prop:=∀b o,b≠pP→b≠pW→b≠pB→b≠lP→b≠lB→H b=some o→H' b=some o
theorem KO.trans {pP pW pB lP lB:Addr}{H H1 H2:Hp}(a:KO pP pW pB lP lB H H1)(b:KO pP pW pB lP lB H1 H2):KO pP pW pB lP lB H H2:=fun c o n1 n2 n3 n4 n5 e=>b c o n1 n2 n3 n4 n5 (a c o n1 n2 n3 n4 n5 e)
theorem KO.of {pP pW pB lP lB:Addr}{H H1:Hp}(a:av H H1):KO pP pW pB lP lB H H1:=fun c o _ _ _ _ _ e=>a c o e
structure WS (K:Frag)(H:Hp)(C fA dx pP pW pB lP lB:Addr)(us vs:List V)(pins:List aF)(ar:List bB):Prop where
 fr:∃kP kW kB,d6 K H C fA dx pP pW pB (LJ pins) (W7 ar) kP kW kB∧ou K H (Pj pins) kW∧∀kv∈kW,kv.2≠.ref lP∧kv.2≠.ref lB
 hp:H lP=some (.lst us)
 pp:Paired (jz K H lP lB) us pins
 hb:H lB=some (.lst vs)
 pb:Paired (ie K H pins) vs ar
 gp:eA pins
 gb:kG pins ar
 lp:pins.length≤8
 lb:ar.length≤8
 ne:lP≠lB
section
variable {H H' :Hp}{C fA dx pP pW pB lP lB:Addr}{us vs:List V}{pins:List aF}{ar:List bB}
theorem WS.same (h:WS K H C fA dx pP pW pB lP lB us vs pins ar)(s:av H H'):WS K H' C fA dx pP pW pB lP lB us vs pins ar:=by
 obtain ⟨kP,kW,kB,R,W,n⟩:=h.fr
 exact ⟨⟨kP,kW,kB,R.same s,W.same s,n⟩,s _ _ h.hp,Paired.bq h.pp fun _ _ z=>z.same s,s _ _ h.hb,Paired.bq h.pb fun _ _ z=>z.same s,h.gp,h.gb,h.lp,h.lb,h.ne⟩
theorem WS.fa (h:WS K H C fA dx pP pW pB lP lB us vs pins ar):DY K H C fA pins ar:=by
 obtain ⟨kP,kW,kB,R,W,n⟩:=h.fr
 exact ⟨dx,pP,pW,pB,kP,kW,kB,R,W⟩
theorem WS.g (h:WS K H C fA dx pP pW pB lP lB us vs pins ar):fU pins ar:=SE h.gp h.gb (by have:=h.lp;omega) (by have:=h.lb;omega)
theorem WS.pr (h:WS K H C fA dx pP pW pB lP lB us vs pins ar):Paired (gw K H) us pins:=Paired.bq h.pp fun _ _ z=>z.r
theorem WS.away (h:WS K H C fA dx pP pW pB lP lB us vs pins ar){b:Addr}{o:HO}(e:H b=some o)(n1:∀kvs,o≠.dK kvs)(n2:∀xs,o≠.lst xs):b≠pP∧b≠pW∧b≠pB∧b≠lP∧b≠lB:=by
 obtain ⟨kP,kW,kB,R,W,_⟩:=h.fr
 refine ⟨fun z=> ?_,fun z=> ?_,fun z=> ?_,fun z=> ?_,fun z=> ?_⟩
 ·rw [z,R.pl] at e
  exact n1 _ (aff e).symm
 ·rw [z,R.wy] at e
  exact n1 _ (aff e).symm
 ·rw [z,R.br] at e
  exact n1 _ (aff e).symm
 ·rw [z,h.hp] at e
  exact n2 _ (aff e).symm
 ·rw [z,h.hb] at e
  exact n2 _ (aff e).symm
theorem WS.fresh (h:WS K H C fA dx pP pW pB lP lB us vs pins ar){b:Addr}(e:H b=none):b≠pP∧b≠pW∧b≠pB∧b≠lP∧b≠lB:=by
 obtain ⟨kP,kW,kB,R,W,_⟩:=h.fr
 refine ⟨fun z=> ?_,fun z=> ?_,fun z=> ?_,fun z=> ?_,fun z=> ?_⟩
 ·rw [z,R.pl] at e
  cases e
 ·rw [z,R.wy] at e
  cases e
 ·rw [z,R.br] at e
  cases e
 ·rw [z,h.hp] at e
  cases e
 ·rw [z,h.hb] at e
  cases e
theorem KO.at (k:KO pP pW pB lP lB H H'){b:Addr}{o:HO}(n:b≠pP∧b≠pW∧b≠pB∧b≠lP∧b≠lB)(e:H b=some o):H' b=some o:=k b o n.1 n.2.1 n.2.2.1 n.2.2.2.1 n.2.2.2.2 e
theorem WS.t (h:WS K H C fA dx pP pW pB lP lB us vs pins ar)(k:KO pP pW pB lP lB H H'):bh H H' :=fun b xs r=>by
 rcases r with r | ⟨o',r⟩
 ·exact .inl (k.at (h.away r (fun _ z=>nomatch z) fun _ z=>nomatch z) r)
 ·exact .inr ⟨o',k.at (h.away r (fun _ z=>nomatch z) fun _ z=>nomatch z) r⟩
theorem WS.way (h:WS K H C fA dx pP pW pB lP lB us vs pins ar){l:Addr}{xs:List V}(e:H l=some (.lst xs))(n1:l≠lP)(n2:l≠lB):l≠pP∧l≠pW∧l≠pB∧l≠lP∧l≠lB:=by
 obtain ⟨kP,kW,kB,R,W,_⟩:=h.fr
 refine ⟨fun z=> ?_,fun z=> ?_,fun z=> ?_,n1,n2⟩
 ·rw [z,R.pl] at e
  cases e
 ·rw [z,R.wy] at e
  cases e
 ·rw [z,R.br] at e
  cases e
theorem WS.FQ (h:WS K H C fA dx pP pW pB lP lB us vs pins ar)(k:KO pP pW pB lP lB H H'){v:V}{p:aF}(y:jz K H lP lB v p):jz K H' lP lB v p:=by
 obtain ⟨a,l,sv,ws,ev,h1,h2,h3,h4,h5,h6⟩:=y
 have t:=h.t k
 exact ⟨a,l,sv,ws,ev,t.cy h1,h2.aS t,k.at (h.way h3 h5 h6) h3,h4.aS t,h5,h6⟩
theorem WS.wys (h:WS K H C fA dx pP pW pB lP lB us vs pins ar)(k:KO pP pW pB lP lB H H'){kW:List (Key×V)}{pw:List (Str×List (Rat×Rat))}(W:ou K H pw kW)(n:∀kv∈kW,kv.2≠.ref lP∧kv.2≠.ref lB):ou K H' pw kW:=by
 have t:=h.t k
 refine bN (Paired.length W) fun i p kv e1 e2=> ?_
 obtain ⟨Lq,e3,z1,l,iz,z2,z3,z4⟩:=aA W e1
 rw [e2] at e3
 cases e3
 have nn:=n _ (ir e2)
 exact ⟨z1,l,iz,z2,k.at (h.way z3 (fun z=>nn.1 (by rw [z2,z])) (fun z=>nn.2 (by rw [z2,z]))) z3,z4.aS t⟩
end
inductive vW (K:Frag)(C:Addr)(vs:List V)(H:Hp)(Q:VK)(E_:XK):Prop where
 | mk (fA dx pP pW pB lP lB:Addr) (us dN :List V) (pins:List aF) (ar:List bB) (sv:V) (lw:Addr) (ws:List V) (p:aF) (_:vs=[.ref fA,.ref lP,.str p.nm,sv,.ref lw]) (_:WS K H C fA dx pP pW pB lP lB us dN pins ar) (_:dZ K H sv p.sp) (_:H lw=some (.lst ws)) (_:gB K H ws p.ws) (_:(lw≠lP∧lw≠lB)) (_:p.nm∉pins.map (·.nm)) (_:p.sp∉pins.map (·.sp)) (_:(Sz 44 p.sp.1∧Sz 44 p.sp.2)) (_:gU p.ws) (_:pins.length≤7) (_:∀(iz :List V) (H' :Hp),KO pP pW pB lP lB H H' →WS K H' C fA dx pP pW pB lP lB iz dN (pins++[p]) ar→Q .cb H'):vW K C vs H Q E_
theorem nT:aD ["_law_frame_here","_law_pins_here","_law_name_here","_law_spot_here","_law_ways_here"] ["_law_frame_here","_law_pins_here","_law_name_here","_law_spot_here","_law_ways_here"] (ag cA):=sq
theorem nU {C CR CF fR:Addr}{SM:FuncData}(D:Def K mg "_law_put_pin" cA ["_law_frame_here","_law_pins_here","_law_name_here","_law_spot_here","_law_ways_here"])(bE:mg "len"=none)
  (z9:mg "Roller"=some (.ref CR)) (z_:mg "Fixed"=some (.ref CF)) (AA:OZ K CF) (AB:Mk K CR fR) (N9:cv P w K mg base (a8 P w) 1 fR SM ["self","x","y"] (lS K CR)) (AD:Binds K SM ["self","x","y"] [])
  (wR:bI P w K mg base (a8 P w) 2 CR "ways" ["self"] (gi K CR)) (wF:bI P w K mg base (a8 P w) 2 CF "ways" ["self"] (gj K))
  (LD:bI P w K mg base (a8 P w) 3 C "put_pin" ["self","name","x","y","hold"] (b9 P w K mg base C)) (Kh:mS P w K mg base (a8 P w) 3 C "put_pin" ["self","name","x","y","hold"] [.none] (b9 P w K mg base C)):
  Fn P w K mg base (a8 P w) 4 "_law_put_pin" ["_law_frame_here","_law_pins_here","_law_name_here","_law_spot_here","_law_ways_here"] (vW K C):=by
 refine D.ok nT (fun vs H Q E h=> ?_) (fun f bC A outer s H vs Q E hr h=> ?_)
 ·obtain ⟨fA,dx,pP,pW,pB,lP,lB,us,dN,pins,ar,sv,lw,ws,p,rfl,_⟩:=h
  rfl
 obtain ⟨fA,dx,pP,pW,pB,lP,lB,us,dN,pins,ar,sv,lw,ws,p,rfl,st,hsv,Zv,Zw,⟨Zx,nl2⟩,N1,oB,hsz,wk,Zy,q⟩:=h
 have L3:3≤sizeLine:=by decide
 have lu:us.length=pins.length:=Paired.length st.pp
 obtain ⟨kP,kW,kB,R,W,nW⟩:=st.fr
 refine ⟨_,(ae (bg (i7 PySem.F.plainAttrs_list PySem.F.slot_list_append PySem.F.type_list_append dz (pv 1) (au (aR (au (pv 2) (au (pv 3) (au (pv 4) aa)))) aa)))
  (aj (bf (aQ d5 (aU a9 rfl bE dD (au (pv 4) aa)) ah (aV _)) (aj (bg (q_ (k:=3) (pv 0) hr.mo (pY P w) (au (pv 2) (au (aK (pv 3)) (au (aK (pv 3)) aa)))))) (aj (bf (aQ d5 (aU a9 rfl bE dD (au (pv 4) aa)) ah (aV _)) (aj (bg (c8 (k:=3) (pv 0) hr.mo (pY P w) (au (pv 2) (au (aK (pv 3)) (au (aK (pv 3)) (au (wM AB N9 hr.mo rfl z9 AD .nil (pY P w) (au (aK (xw (pv 4))) (au (aK (xw (pv 4))) aa))) aa))))))) (aj (bg (c8 (k:=3) (pv 0) hr.mo (pY P w) (au (pv 2) (au (aK (pv 3)) (au (aK (pv 3)) (au (CW AA rfl z_) aa)))))))))))),?_⟩
 refine ⟨_,rfl,.inl ⟨rfl,_,ba.of st.hp⟩,_,rfl,_,rfl,_,rfl,L3,?_⟩
 intro t1 n1;generalize eX:upd _ t1 _=H1;have ⟨s1,e1⟩:=nw n1 eX;clear eX
 refine ⟨lP,_,_,rfl,rfl,s1 _ _ st.hp,(by rw [lu];exact afe (show pins.length≤1000 by omega) (by decide)),?_⟩
 have st1:=st.same s1
 have k2:KO pP pW pB lP lB H (upd H1 lP (.lst (us++[.ref t1]))):=fun b o _ _ _ n4 _ e=>by rw [ao n4];exact s1 _ _ e
 have e2:(upd H1 lP (.lst (us++[.ref t1]))) lP=some (.lst (us++[.ref t1])):=ak
 have nP:pP≠lP:=fun z=>by have h:=R.pl;rw [z,st.hp] at h;cases h
 have LK:pW≠lP:=fun z=>by have h:=R.wy;rw [z,st.hp] at h;cases h
 have nB:pB≠lP:=fun z=>by have h:=R.br;rw [z,st.hp] at h;cases h
 have Oh :pP≠lB:=fun z=>by have h:=R.pl;rw [z,st.hb] at h;cases h
 have W8 :pW≠lB:=fun z=>by have h:=R.wy;rw [z,st.hb] at h;cases h
 have ot:∀b o,b≠lP→H b=some o→(upd H1 lP (.lst (us++[.ref t1]))) b=some o:=fun b o n e=>by rw [ao n];exact s1 _ _ e
 have nt:t1≠lP:=fun z=>by rw [z,st.hp] at n1;cases n1
 have et:(upd H1 lP (.lst (us++[.ref t1]))) t1=some (.tup [.str p.nm,sv,.ref lw]):=by rw [ao nt];exact e1
 generalize upd H1 lP (.lst (us++[.ref t1]))=H2 at k2 e2 ot et ⊢
 have t2:=st.t k2
 have R2:d6 K H2 C fA dx pP pW pB (LJ pins) (W7 ar) kP kW kB:=R.cM t2 ((k2.at (st.away R.obj (fun _ z=>nomatch z) fun _ z=>nomatch z) R.obj).trans R.obj.symm) ((ot _ _ nP R.pl).trans R.pl.symm) ((ot _ _ LK R.wy).trans R.wy.symm) ((ot _ _ nB R.br).trans R.br.symm)
 have W2:=st.wys k2 W nW
 have Zz:=ot _ _ Zx Zv
 have ZA:=hsv.aS t2
 have S6:=Zw.aS t2
 obtain ⟨sa,x1,y1,rfl,rP,HP,yn⟩:=id ZA
 have fin:∀(hv:V) (H5:Hp) (Q5:VK) (E5:XK),av H2 H5→ER P w K mg base H5 hv p.ws→(∀H',KO pP pW pB lP lB H H' →WS K H' C fA dx pP pW pB lP lB (us++[.ref t1]) dN (pins++[p]) ar→Q5 .cb H')→b9 P w K mg base C [.ref fA,.str p.nm,x1,y1,hv] H5 Q5 E5:=fun hv H5 Q5 E5 s5 hY fin=>by
  refine ⟨fA,dx,pP,pW,pB,_,_,kP,kW,_,_,p.nm,x1,y1,hv,iW p.sp,p.ws,rfl,R2.same s5,W2.same s5,by rw [afj,afj];rfl,HP.same s5,yn.same s5,fun z=>N1 ?_,fun z hz e=>oB ?_,?_,hY,fun H' uz jG k' R' W' nl=> ?_⟩
  ·rw [afj] at z
   exact z
  ·obtain ⟨p',nh,e'⟩:=aah.mp hz
   rw [← e'] at e
   exact aah.mpr ⟨p',nh,agj (ff (congrArg anG e)) (ff (congrArg anH e))⟩
  ·rw [aaa]
   omega
  have k0:KO pP pW pB lP lB H H' :=fun b o m1 m2 m3 m4 m5 e=>k' b o m1 m2 (s5 _ _ (k2 b o m1 m2 m3 m4 m5 e))
  have t0:=st.t k0
  have fr:=st.fresh n1
  refine fin H' k0 ⟨⟨uz,jG,kB,?_,?_,fun kv u3=> ?_⟩,k' _ _ (afk nP) (afk LK) (s5 _ _ e2),eE (Paired.bq st.pp fun _ _ z=>st.FQ k0 z) ⟨t1,lw,_,ws,rfl,bK.of (k' _ _ fr.1 fr.2.1 (s5 _ _ et)),hsv.aS t0,k0.at (st.way Zv Zx nl2) Zv,Zw.aS t0,Zx,nl2⟩,k' _ _ (afk Oh) (afk W8) (s5 _ _ (ot _ _ (afk st.ne) st.hb)),Paired.bq st.pb fun u b z=> ?_,st.gp.snoc N1 oB hsz wk,⟨st.gb.nb,fun b hb=> ?_⟩,by rw [afi];simp;omega,st.lb,st.ne⟩
  ·rw [show LJ (pins++[p])=LJ pins++[(p.nm,iW p.sp)] from afq]
   exact R'
  ·rw [show Pj (pins++[p])=Pj pins++[(p.nm,p.ws)] from afq]
   exact W'
  ·obtain ⟨l9,e9,n9⟩:=nl
   rw [e9] at u3
   rcases afg.mp u3 with h | h
   ·exact nW kv h
   ·rw [ae_.mp h]
    refine ⟨fun z=> ?_,fun z=> ?_⟩
    ·injection z with z
     rw [z,s5 _ _ e2] at n9
     cases n9
    ·injection z with z
     rw [z,s5 _ _ (ot _ _ (afk st.ne) st.hb)] at n9
     cases n9
  ·obtain ⟨a,i,j,e,h1,g1,g2⟩:=z
   exact ⟨a,i,j,e,t0.cy h1,by rw [afd (be.mp g1).1];exact g1,by rw [afd (be.mp g2).1];exact g2⟩
  ·obtain ⟨m1,m2,m3⟩:=st.gb.ends b hb
   exact ⟨afr _ m1,afr _ m2,m3⟩
 have l2:=ba.of (K:=K) Zz
 have Oi :ws.length=p.ws.length:=Paired.length Zw
 refine ⟨_,rfl,lw,_,rfl,.inl l2,rfl,_,rfl,?_⟩
 rcases wk with hw | ⟨wx,wy,hw,wn,_,_⟩ | hw
 ·rw [hw] at Oi
  refine a_ (fun _=> ?_) (fun c=>by rw [Oi] at c;simp at c)
  refine ⟨_,rfl,fA,C,dx,_,_,_,rfl,R2.obj,rfl,Kh,_,rfl,_,rfl,sa,_,_,_,rfl,rfl,rP,iy,_,rfl,sa,_,_,_,rfl,rfl,rP,g9,?_⟩
  dsimp only [eI]
  exact fin .cb H2 _ _ (av.refl _) (.inl ⟨rfl,hw⟩) fun H' k' W' =>q _ H' k' W'
 ·rw [hw] at Oi S6
  obtain ⟨w0,rfl⟩:∃w0,ws=[w0]:=by
   match ws,Oi with
   | [w0],_=>exact ⟨w0,rfl⟩
  have Zq:dZ K H2 w0 (wx,wy):=by
   cases S6 with
   | cons h _=>exact h
  obtain ⟨wa,y2,y3,rfl,CU,JB,Ki⟩:=Zq
  refine a_ (fun c=>by simp at c) (fun _=> ?_)
  refine ⟨_,rfl,lw,_,rfl,.inl l2,rfl,_,rfl,?_⟩
  refine a_ (fun _=> ?_) (fun c=>absurd rfl c)
  refine ⟨_,rfl,fA,C,dx,_,_,_,rfl,R2.obj,rfl,LD,_,rfl,_,rfl,sa,_,_,_,rfl,rfl,rP,iy,_,rfl,sa,_,_,_,rfl,rfl,rP,g9,?_⟩
  refine ⟨_,rfl,lw,_,_,_,rfl,rfl,l2,rfl,wa,_,_,_,rfl,rfl,CU,iy,_,rfl,lw,_,_,_,rfl,rfl,l2,rfl,wa,_,_,_,rfl,rfl,CU,g9,?_⟩
  intro de d1 Kj N' ne1
  have s4:av H2 (upd (upd H2 d1 (.own de)) de (.ins CR d1 [])):=fun b o e=>by rw [ao (aq e Kj),ao (aq e N')];exact e
  have e4:(upd (upd H2 d1 (.own de)) de (.ins CR d1 [])) de =some (.ins CR d1 []):=ak
  generalize upd (upd H2 d1 (.own de)) de (.ins CR d1 [])=H4 at s4 e4 ⊢
  refine ⟨de,d1,y2,y3,wx,wy,rfl,e4,JB.same s4,Ki.same s4,wn,fun p5 n5=>⟨rfl,?_⟩⟩
  have sE:p5≠de :=fun z=>by rw [z,e4] at n5;cases n5
  have s5:av H2 (upd (upd H4 p5 (.tup [y2,y3])) de (.ins CR d1 [("way",.ref p5)])):=fun b o e=>by
   have z:b≠de :=fun z=>by rw [z,Kj] at e;cases e
   rw [ao z]
   exact aI n5 _ _ _ (s4 _ _ e)
  have e5:(upd (upd H4 p5 (.tup [y2,y3])) de (.ins CR d1 [("way",.ref p5)])) de =some (.ins CR d1 [("way",.ref p5)]):=ak
  have t5:(upd (upd H4 p5 (.tup [y2,y3])) de (.ins CR d1 [("way",.ref p5)])) p5=some (.tup [y2,y3]):=by rw [ao sE,ak]
  generalize upd (upd H4 p5 (.tup [y2,y3])) de (.ins CR d1 [("way",.ref p5)])=H5 at s5 e5 t5 ⊢
  have Oa:dZ K H5 (.ref p5) (wx,wy):=iB t5 (JB.same s5) (Ki.same s5)
  dsimp only [eI]
  exact fin (.ref de) H5 _ _ s5 (.inr ⟨de,CR,d1,_,["self"],gi K CR,rfl,e5,xS _,wR,fun H6 e6 t6 Q' an=>⟨de,d1,p5,(wx,wy),rfl,e6,Oa.aS t6,by rw [hw] at an;exact an⟩⟩) fun H' k' W' =>q _ H' k' W'
 ·rw [hw] at Oi
  refine a_ (fun c=>by rw [Oi] at c;simp at c) (fun _=> ?_)
  refine ⟨_,rfl,lw,_,rfl,.inl l2,rfl,_,rfl,?_⟩
  refine a_ (fun c=>by rw [Oi] at c;simp at c) (fun _=> ?_)
  refine ⟨_,rfl,fA,C,dx,_,_,_,rfl,R2.obj,rfl,LD,_,rfl,_,rfl,sa,_,_,_,rfl,rfl,rP,iy,_,rfl,sa,_,_,_,rfl,rfl,rP,g9,?_⟩
  intro de d1 Kj N' ne1
  have s4:av H2 (upd (upd H2 d1 (.own de)) de (.ins CF d1 [])):=fun b o e=>by rw [ao (aq e Kj),ao (aq e N')];exact e
  have e4:(upd (upd H2 d1 (.own de)) de (.ins CF d1 [])) de =some (.ins CF d1 []):=ak
  generalize upd (upd H2 d1 (.own de)) de (.ins CF d1 [])=H4 at s4 e4 ⊢
  dsimp only [eI]
  exact fin (.ref de) H4 _ _ s4 (.inr ⟨de,CF,d1,_,["self"],gj K,rfl,e4,rfl,wF,fun H6 _ _ Q' an=>⟨de,rfl,by rw [hw] at an;exact an⟩⟩) fun H' k' W' =>q _ H' k' W'
def Kl (pins:List aF)(i:Nat)(b:bB):Bool:=decide ((pins[i]?).map (·.nm)=some b.one.nm) || decide ((pins[i]?).map (·.nm)=some b.other.nm)
def Km (pins:List aF)(ar:List bB)(i:Nat):Bool:= !(ar.any (Kl pins i))
theorem LL {pins:List aF}(np:(pins.map (·.nm)).Nodup){i j:Nat}{p:aF}(e:pins[j]? =some p):(pins[i]?).map (·.nm)=some p.nm ↔ i=j:=by
 constructor
 ·intro h
  have e1:(pins.map (·.nm))[i]? =some p.nm:=by rw [Wp];exact h
  have e2:(pins.map (·.nm))[j]? =some p.nm:=by rw [Wp,e];rfl
  exact cH np e1 e2
 ·rintro rfl
  rw [e]
  rfl
theorem j6 {α:Type}(g:aF→Str×α)(hg:∀p,(g p).1=p.nm):∀{pins:List aF} {k:Nat} {p:aF},(pins.map (·.nm)).Nodup→pins[k]? =some p→(pins.map g).filter (fun b=>decide (b.1≠p.nm))=(pins.eraseIdx k).map g
 | q::ps,0,p,nd,e=>by
  cases e
  rw [ac_,afs] at nd
  rw [ac_,afP (by rw [hg];simp),List.eraseIdx_cons_zero,List.filter_eq_self]
  intro b hb
  obtain ⟨r,hr,rfl⟩:=aah.mp hb
  rw [hg]
  exact decide_eq_true (fun z=>nd.1 (by rw [← z];exact aah.mpr ⟨r,hr,rfl⟩))
 | q::ps,k+1,p,nd,e=>by
  rw [ac_,afs] at nd
  have e' :ps[k]? =some p:=by simpa using e
  have ne:q.nm≠p.nm:=fun z=>nd.1 (by rw [z];exact aah.mpr ⟨p,ir e',rfl⟩)
  rw [ac_,afO (by rw [hg];exact decide_eq_true ne),List.eraseIdx_cons_succ,ac_,j6 g hg nd.2 e']
theorem nX {pins:List aF}{k i:Nat}(h:i≠k):(pins.eraseIdx k)[if k < i then i - 1 else i]? =pins[i]? :=by
 rw [afT]
 by_cases c:k < i
 ·rw [if_pos c,if_neg (by omega),show i - 1+1=i by omega]
 ·rw [if_neg c,if_pos (by omega)]
theorem eA.erase {pins:List aF}(g:eA pins)(k:Nat):eA (pins.eraseIdx k):=by
 have sub:ane (pins.eraseIdx k) pins:=anE _ _
 exact ⟨g.np.sublist (sub.map _),g.ns.sublist (sub.map _),fun p hp=>g.sz p (sub.subset hp),fun p hp=>g.ws p (sub.subset hp)⟩
theorem uR {H:Hp}:∀fs:List Nat,dS K H (fs.map fun i:Nat=>Da.v (.int (i:Int))) (fs.map fun i:Nat=>V.int (i:Int))
 | []=>by
  unfold dS
  trivial
 | i::fs=>by
  show dS K H (_::_) (_::_)
  unfold dS
  refine ⟨?_,uR fs⟩
  unfold Is
  exact ⟨rfl,rfl⟩
theorem LM {x y z:V}:fL [x,y,z] (some 1) (some 3)=[y,z]:=rfl
theorem ZC {x y z:V}:fL [x,y,z] (some 3) none=[]:=rfl
theorem vX {X:Cx}{K:Frag}(h:X.K=K)(hc:X.calm=true):eK X (.builtin "any") (Nm K):=by subst h;exact yL hc
inductive FR (K:Frag)(C:Addr)(vs:List V)(H:Hp)(Q:VK)(E_:XK):Prop where
 | mk (fA dx pP pW pB lP lB:Addr) (us dN :List V) (pins:List aF) (ar:List bB) (c:Int) (_:vs=[.ref fA,.ref lP,.ref lB,.int c]) (_:WS K H C fA dx pP pW pB lP lB us dN pins ar) (_:(∀H',av H H' →Q .cb H')) (_:∀(k:Nat) (p:aF) (y:V) (iz ZD:List V) (H' :Hp),pins[k]? =some p→KO pP pW pB lP lB H H' →WS K H' C fA dx pP pW pB lP lB iz ZD (pins.eraseIdx k) ar→jz K H' lP lB y p→Q y H'):FR K C vs H Q E_
theorem bW:aD ["_law_frame_here","_law_pins_here","_law_bars_here","_law_cell","_law_free","_law_at","_law_gone","_law_k","_law_one_here","_law_other"] ["_law_frame_here","_law_pins_here","_law_bars_here","_law_cell"] (ag cB):=sq
theorem nY {C:Addr}(D:Def K mg "_law_pin_out" cB ["_law_frame_here","_law_pins_here","_law_bars_here","_law_cell"])(bE:mg "len"=none)(bQ:mg "range"=none)(FT:mg "any"=none)(iC:mg "int"=none)(dc:Fn P w K mg base (a8 P w) 1 "_law_field" ["_law_cell","_law_prime","_law_many"] d3)
  (ZE:bI P w K mg base (a8 P w) 2 C "take_pin" ["self","name"] (gm K C)):
  Fn P w K mg base (a8 P w) 3 "_law_pin_out" ["_law_frame_here","_law_pins_here","_law_bars_here","_law_cell"] (FR K C):=by
 refine D.ok bW (fun vs H Q E h=> ?_) (fun f bC A outer s H vs Q E hr h=> ?_)
 ·obtain ⟨fA,dx,pP,pW,pB,lP,lB,us,dN,pins,ar,c,rfl,_⟩:=h
  rfl
 obtain ⟨fA,dx,pP,pW,pB,lP,lB,us,dN,pins,ar,c,rfl,st,q0,q⟩:=h
 have L3:3≤sizeLine:=by decide
 have lu:us.length=pins.length:=Paired.length st.pp
 have lv:dN.length=ar.length:=Paired.length st.pb
 have lp8:=st.lp
 have lb8:=st.lb
 obtain ⟨kP,kW,kB,R,W,nW⟩:=st.fr
 refine ⟨_,(ae (EF (i:=4) bW.nd rfl (ab_ rfl) (yc:="_law_k") (tn:=["_law_k"]) (fr:=["_law_bars_here"]) (caps:=[2]) rfl ⟨rfl,rfl,by decide+kernel,by decide+kernel,rfl,⟨(by first | exact ab_ rfl | exact afx rfl),trivial⟩,⟨(by first | exact ab_ rfl | exact afx rfl),trivial⟩,fun _ _=>rfl,fun _=>rfl,by decide+kernel,by decide+kernel⟩ (dP rfl bQ (au (aU a9 rfl bE dD (au (pv 1) aa)) aa)) (fun _ _ _ _=>(aE (i:=0) (show (["_law_k","_law_bars_here"]:List Str).Nodup from by decide+kernel) rfl (afx rfl))) (fun _ _ _ _=>(CN (c7 (cn (aU (vX (K:=K) rfl rfl) rfl FT QM (au (dX (tn:=["_law_bar"]) (fr:=["_law_k"]) (caps:=[0]) rfl ⟨rfl,by decide+kernel,rfl,by decide+kernel,by decide+kernel,rfl,⟨(by first | exact ab_ rfl | exact afx rfl),trivial⟩,⟨(by first | exact ab_ rfl | exact afx rfl),trivial⟩⟩ (DB (K:=K) rfl (pv 1)) (fun _ _ _ _=>(aE (i:=0) (show (["_law_bar","_law_k"]:List Str).Nodup from by decide+kernel) rfl (ab_ rfl))) (fun _ _ _ _=>fb) (fun _ _ _ _=>(gX (vw (K:=K) rfl) (pv 1) (fK (JL (K:=K) rfl) (pv 0) (fk ah) (fk ah)) rfl))) aa)))))) (fun _ _ _ _=>(pv 0)))
  (ae (bf (aQ (i_ hr.units) (pv 4) (cu aa) (aV _)) (aj (aG l_)) aJ)
  (ae (aH (i:=5) bW.nd rfl (ab_ rfl) (bD bu (pv 4) (aC dc hr.mo (pY P w) (au (pv 3) (au ah (au (aU a9 rfl bE dD (au (pv 4) aa)) aa)))) (fun _ _=>rfl)))
  (ae (aH (i:=6) bW.nd rfl (ab_ rfl) (i7 PySem.F.plainAttrs_list PySem.F.slot_list_pop PySem.F.type_list_pop CB (pv 1) (au (pv 5) aa)))
  (ae (bg (c8 (k:=2) (pv 0) hr.mo (pY P w) (au (aK (pv 6)) aa)))
  (ae (bF PassesOwn.never rfl (dP rfl bQ (au (aU a9 rfl bE dD (au (pv 2) aa)) aa)) (aE (i:=7) bW.nd rfl (ab_ rfl)) (ae (qE (fK vk (bD bu (pv 2) (pv 7) (fun _ _=>rfl)) (fk ah) (fk ah)) (dO rfl (aX (aE (i:=8) bW.nd rfl (ab_ rfl)) (aX (aE (i:=9) bW.nd rfl (ab_ rfl)) cQ))))
   (aj (qE (aL Jh (aR (au (aK (bD bu (pv 2) (pv 7) (fun _ _=>rfl))) (au (aL dR (pv 8) (cz pE rfl iC w8 (au (gX wK (pv 8) (pv 5) (aV _)) aa))) (au (aL dR (pv 9) (cz pE rfl iC w8 (au (gX wK (pv 9) (pv 5) (aV _)) aa))) aa)))) (fK vk (bD bu (pv 2) (pv 7) (fun _ _=>rfl)) (fk ah) lH)) (u6 (pv 2) (pv 7) set_list)))))
  (aj (aG (pv 6))))))))),?_⟩
 refine ⟨_,rfl,lP,_,rfl,.inl (ba.of st.hp),((us.length:Nat):Int),rfl,by omega,by omega,fun lF nF=> ?_⟩
 refine um (n:=us.length) (cap:=[some (.ref lB)]) (Km pins ar) nF (afe (show us.length≤1000 by omega) (by decide)) (fun i H1 RR hi s1 kk=> ?_) (fun i H1 RR r=>⟨_,rfl,r⟩) fun H1 s1 eF=> ?_
 ·have Lu:=s1 _ _ st.hb
  refine ⟨_,rfl,lB,rfl,⟨_,ba.of Lu⟩,fun D2 n2=> ?_⟩
  refine fN (cap:=[some (.int (i:Int))]) (K:=K) (a:=lB) (xs:=dN) (fun j v _=>∀b,ar[j]? =some b→v=.bl (Kl pins i b)) n2 (afe (show dN.length≤1000 by omega) (by decide)) (fun H2 s2=>ba.of (s2 _ _ Lu)) (fun _ _ _ _ _ _ _ h=>h) ?_ ?_
  ·intro j u H2 R2 hu s2 k2
   obtain ⟨b,eb,a,i1,j1,rfl,h1,g1,g2⟩:=aA st.pb hu
   have h2:=Ty.av.cy (s1.trans s2) h1
   refine ⟨_,rfl,_,rfl,1,rfl,3,rfl,a,_,rfl,h2,(by show ¬ (HT.dB 3 0 (some 1)=0∧HT.dB 3 3 (some 3)=3);decide),?_⟩
   rw [LM]
   intro p3 n3;generalize eX:upd _ p3 _=H3;have ⟨s3,e3⟩:=nw n3 eX;clear eX
   refine ⟨p3,_,rfl,.inr (bK.of e3),rfl,rfl,k2 _ _ s3 fun b' HM => ?_⟩
   rw [eb] at HM
   cases HM
   congr 1
   have a1:=LL st.gp.np (i:=i) g1
   have a2:=LL st.gp.np (i:=i) g2
   show OX (.int (i:Int)) [.int (i1:Int),.int (j1:Int)]=Kl pins i b
   unfold Kl OX
   simp only [ah_,List.any_nil,om,anL]
   have d1:((i1:Int)==(i:Int))=decide ((pins[i]?).map (·.nm)=some b.one.nm):=by
    rw [afA,decide_eq_true_iff,a1,beq_iff_eq]
    omega
   have d2:((j1:Int)==(i:Int))=decide ((pins[i]?).map (·.nm)=some b.other.nm):=by
    rw [afA,decide_eq_true_iff,a2,beq_iff_eq]
    omega
   rw [d1,d2]
  ·intro zs H2 lz hz s2 hD
   have ez:zs=(ar.map (Kl pins i)).map V.bl:=by
    refine afI fun j=> ?_
    by_cases cj:j < zs.length
    ·obtain ⟨b,eb⟩:∃b,ar[j]? =some b:=⟨_,gE (by omega)⟩
     have e1:zs[j]? =some zs[j]:=gE cj
     rw [e1,hz j _ e1 b eb,Wp,Wp,eb]
     rfl
    ·rw [aal (by omega),aal (by rw [aaa,aaa];omega)]
   rw [ez] at hD
   refine ⟨D2,_,rfl,ba.of hD,_,rfl,?_⟩
   have:=kk _ s2
   unfold Km at this
   rw [List.any_map]
   exact this
 have st1:=st.same s1
 have R1:=R.same s1
 have W1:=W.same s1
 generalize ef:(afz us.length).filter (Km pins ar)=fs at eF
 dsimp only [cD]
 refine eG (fun σ' H' =>σ' =[some (.ref fA),some (.ref lP),some (.ref lB),some (.int c),some (.ref lF),none,none,none,none,none]∧av H1 H' ∧fs≠[]) (fun Nx sG=> ?_) ?_
 ·refine ⟨_,rfl,(by show 0≤sizeLine;decide),?_⟩
  intro l2 n2;generalize eX:upd _ l2 _=H2;have ⟨s2,e2⟩:=nw n2 eX;clear eX
  refine ⟨fs.map fun i:Nat=>Da.v (.int (i:Int)),[],.inr ⟨?_,?_⟩,by cases fs <;> rfl,?_,_,rfl,?_⟩
  ·unfold Is
   exact ⟨lF,_,rfl,ba.of (s2 _ _ eF),uR fs⟩
  ·unfold Is
   refine ⟨l2,_,rfl,ba.of e2,?_⟩
   unfold dS
   trivial
  ·have:∀l:List Nat,eM (l.map fun i:Nat=>Da.v (.int (i:Int)))≤60:=fun l=>by
    induction l with
    | nil=>exact aft _
    | cons i l ih=>
     show max (dep (Da.v (.int (i:Int)))) (eM (l.map fun i:Nat=>Da.v (.int (i:Int))))≤60
     have:dep (Da.v (.int (i:Int)))=0:=rfl
     omega
   exact this fs
  ·refine a_ (fun _=> ?_) (fun cc=> ?_)
   ·exact q0 _ (s1.trans s2)
   ·refine sG _ _ ⟨rfl,s2,fun z=>cc ?_⟩
    rw [z]
    rfl
 rintro σ' H2 ⟨rfl,s2,nfs⟩
 have eF2:=s2 _ _ eF
 have h_:=st1.same s2
 have R2:=R1.same s2
 have W2:=W1.same s2
 have lf:0 < fs.length:=by
  cases fs with
  | nil=>exact absurd rfl nfs
  | cons a l=>exact Nat.succ_pos _
 refine ⟨_,rfl,_,rfl,_,rfl,lF,_,rfl,.inl (ba.of eF2),_,_,_,rfl,by decide,by decide,(by rw [aaa];omega),?_⟩
 have fi:=aY (c:=c) (p:=7001) (m:=(((fs.map fun i:Nat=>V.int (i:Int)).length:Nat):Int)) (by rw [aaa];omega)
 generalize field c 7001 (((fs.map fun i:Nat=>V.int (i:Int)).length:Nat):Int)=fv at fi ⊢
 rw [aaa] at fi
 obtain ⟨fn,rfl⟩:∃n:Nat,fv=(n:Int):=⟨fv.toNat,by omega⟩
 have Pz:fn < fs.length:=by omega
 obtain ⟨k,ek⟩:∃k,fs[fn]? =some k:=⟨_,gE Pz⟩
 have mk:=ir ek
 rw [← ef] at mk
 obtain ⟨mk1,ZF⟩:=afG.mp mk
 have hk:k < us.length:=afJ.mp mk1
 have af:i6 (fs.map fun i:Nat=>V.int (i:Int)) (fn:Int)=some (.int (k:Int)):=dC (by rw [Wp,ek];rfl)
 refine ⟨lF,_,_,_,rfl,rfl,ba.of eF2,af,?_⟩
 obtain ⟨p,ep⟩:∃p,pins[k]? =some p:=⟨_,gE (by omega)⟩
 have mp:=ir ep
 obtain ⟨y,ey,hy⟩:=aA (cN h_.pp) ep
 have hy:jz K H2 lP lB y p:=hy
 have free:∀b∈ar,p.nm≠b.one.nm∧p.nm≠b.other.nm:=fun b hb=>by
  have h1:Kl pins k b=false:=by
   cases hc:Kl pins k b with
   | false=>rfl
   | true=>
    have:(ar.any (Kl pins k))=true:=am5.mpr ⟨b,hb,hc⟩
    unfold Km at ZF
    rw [this] at ZF
    cases ZF
  unfold Kl at h1
  rw [Bool.or_eq_false_iff] at h1
  have e1:(pins[k]?).map (·.nm)=some p.nm:=by rw [ep];rfl
  refine ⟨fun z=> ?_,fun z=> ?_⟩
  ·exact absurd (by rw [e1,z]) (of_decide_eq_false h1.1)
  ·exact absurd (by rw [e1,z]) (of_decide_eq_false h1.2)
 refine ⟨_,rfl,.inl ⟨rfl,_,ba.of h_.hp⟩,_,rfl,lP,us,(k:Int),k,y,rfl,rfl,h_.hp,by omega,by omega,Nq hk,ey,?_⟩
 have k3:KO pP pW pB lP lB H2 (upd H2 lP (.lst (us.eraseIdx k))):=fun b o _ _ _ n4 _ e=>by rw [ao n4];exact e
 have e3:(upd H2 lP (.lst (us.eraseIdx k))) lP=some (.lst (us.eraseIdx k)):=ak
 have nP:pP≠lP:=fun z=>by have h:=R2.pl;rw [z,h_.hp] at h;cases h
 have LK:pW≠lP:=fun z=>by have h:=R2.wy;rw [z,h_.hp] at h;cases h
 have nB:pB≠lP:=fun z=>by have h:=R2.br;rw [z,h_.hp] at h;cases h
 have Oh :pP≠lB:=fun z=>by have h:=R2.pl;rw [z,h_.hb] at h;cases h
 have W8 :pW≠lB:=fun z=>by have h:=R2.wy;rw [z,h_.hb] at h;cases h
 have ZG :pB≠lB:=fun z=>by have h:=R2.br;rw [z,h_.hb] at h;cases h
 have ot:∀b o,b≠lP→H2 b=some o→(upd H2 lP (.lst (us.eraseIdx k))) b=some o:=fun b o n e=>by rw [ao n];exact e
 generalize upd H2 lP (.lst (us.eraseIdx k))=H3 at k3 e3 ot ⊢
 have t3:=h_.t k3
 have R3:d6 K H3 C fA dx pP pW pB (LJ pins) (W7 ar) kP kW kB:=R2.cM t3 ((k3.at (h_.away R2.obj (fun _ z=>nomatch z) fun _ z=>nomatch z) R2.obj).trans R2.obj.symm) ((ot _ _ nP R2.pl).trans R2.pl.symm) ((ot _ _ LK R2.wy).trans R2.wy.symm) ((ot _ _ nB R2.br).trans R2.br.symm)
 have W3:=h_.wys k3 W2 nW
 have hy3:=h_.FQ k3 hy
 obtain ⟨ta,la,sv,ws,rfl,h1,h2,h3,h4,h5,h6⟩:=id hy3
 refine ⟨_,rfl,fA,C,dx,_,_,_,rfl,R3.obj,rfl,ZE,_,rfl,ta,_,_,_,rfl,rfl,h1,rfl,?_⟩
 dsimp only [eI]
 refine ⟨fA,dx,pP,pW,pB,LJ pins,W7 ar,kP,kW,kB,Pj pins,p.nm,rfl,R3,W3,by rw [afj,afj];rfl,by rw [afj];exact aah.mpr ⟨p,mp,rfl⟩,fun b hb=> ?_,fun H4 uz jG k4 R4 W4 sub=> ?_⟩
 ·obtain ⟨b',gC,rfl⟩:=aah.mp hb
  exact free b' gC
 rw [j6 (fun p=>(p.nm,iW p.sp)) (fun _=>rfl) st.gp.np ep] at R4
 rw [j6 (fun p=>(p.nm,p.ws)) (fun _=>rfl) st.gp.np ep] at W4
 have W9:KO pP pW pB lP lB H2 H4:=fun b o m1 m2 m3 m4 m5 e=>k4 b o m1 m2 (k3 b o m1 m2 m3 m4 m5 e)
 have BF:H4 lB=some (.lst dN):=k4 _ _ (afk Oh) (afk W8) (ot _ _ (afk st.ne) h_.hb)
 have hp4:H4 lP=some (.lst (us.eraseIdx k)):=k4 _ _ (afk nP) (afk LK) e3
 have t24:=h_.t W9
 have pe:∀{us:List V} {l:List aF} {j:Nat},Paired (jz K H4 lP lB) us l→Paired (jz K H4 lP lB) (us.eraseIdx j) (l.eraseIdx j):=fun {us l j} h=>by
  induction h generalizing j with
  | nil=>exact .nil
  | cons x t ih=>
   cases j with
   | zero=>exact t
   | succ j=>exact .cons x ih
 have Jq:∀(H5:Hp) (W_:List V),(∀b o,b≠lB→H4 b=some o→H5 b=some o)→H5 lB=some (.lst W_)→Paired (ie K H5 (pins.eraseIdx k)) W_ ar→WS K H5 C fA dx pP pW pB lP lB (us.eraseIdx k) W_ (pins.eraseIdx k) ar∧KO pP pW pB lP lB H H5:=fun H5 W_ k5 LN ZH=>by
  have k25:KO pP pW pB lP lB H2 H5:=fun b o m1 m2 m3 m4 m5 e=>k5 b o m5 (W9 b o m1 m2 m3 m4 m5 e)
  have t5:bh H4 H5:=fun b xs r=>by
   rcases r with r | ⟨o',r⟩
   ·exact .inl (k5 _ _ (fun z=>by rw [z,BF] at r;cases r) r)
   ·exact .inr ⟨o',k5 _ _ (fun z=>by rw [z,BF] at r;cases r) r⟩
  have nw:∀kv∈jG,kv.2≠.ref lP∧kv.2≠.ref lB:=fun kv u3=>nW kv (sub kv u3)
  refine ⟨⟨⟨uz,jG,kB,R4.cM t5 ((k5 _ _ (fun z=>by have h:=R4.obj;rw [z,BF] at h;cases h) R4.obj).trans R4.obj.symm) ((k5 _ _ Oh R4.pl).trans R4.pl.symm) ((k5 _ _ W8 R4.wy).trans R4.wy.symm) ((k5 _ _ ZG R4.br).trans R4.br.symm),?_,nw⟩,k5 _ _ st.ne hp4,Paired.bq (pe (j:=k) (Paired.bq h_.pp fun _ _ z=>h_.FQ W9 z)) fun _ _ z=> ?_,LN,ZH,st.gp.erase k,⟨st.gb.nb,fun b hb=> ?_⟩,?_,st.lb,st.ne⟩,(KO.of (s1.trans s2)).trans k25⟩
  ·refine bN (Paired.length W4) fun i p' kv e1 e2=> ?_
   obtain ⟨Lq,S7,z1,l,iz,z2,z3,z4⟩:=aA W4 e1
   rw [e2] at S7
   cases S7
   exact ⟨z1,l,iz,z2,k5 _ _ (fun z=>(nw _ (ir e2)).2 (by rw [z2,z])) z3,z4.aS t5⟩
  ·obtain ⟨a',l',SH,ZI,ZJ,c1,c2,c3,c4,c5,c6⟩:=z
   exact ⟨a',l',SH,ZI,ZJ,t5.cy c1,c2.aS t5,k5 _ _ c6 c3,c4.aS t5,c5,c6⟩
  ·obtain ⟨m1,m2,m3⟩:=st.gb.ends b hb
   obtain ⟨f1,f2⟩:=free b hb
   have ins:∀r∈pins,p.nm≠r.nm→r∈pins.eraseIdx k:=fun r hr ne=>by
    obtain ⟨i,ei⟩:=aak hr
    have ik:i≠k:=fun z=>by
     rw [z,ep] at ei
     cases ei
     exact ne rfl
    exact ir ((nX ik).trans ei)
   exact ⟨ins _ m1 f1,ins _ m2 f2,m3⟩
  ·rw [af5]
   split <;> omega
 refine ⟨_,rfl,lB,_,rfl,.inl (ba.of BF),((dN.length:Nat):Int),rfl,by omega,by omega,fJ (lo:=0) (n:=((dN.length:Nat):Int).toNat) (fun i σ H' =>∃(o7 o8 o9:Option V) (xs:List V),σ=[some (.ref fA),some (.ref lP),some (.ref lB),some (.int c),some (.ref lF),some (.int (k:Int)),some (.ref ta),o7,o8,o9]∧(∀b o,b≠lB→H4 b=some o→H' b=some o)∧H' lB=some (.lst xs)∧xs.length=dN.length∧(∀(j:Nat) (u:V) (b:bB),j < i→xs[j]? =some u→ar[j]? =some b→ie K H' (pins.eraseIdx k) u b)∧∀j,i≤j→xs[j]? =dN[j]?) ⟨none,none,none,dN,rfl,fun _ _ _ e=>e,BF,rfl,fun j u b h=>absurd h (afW _),fun _ _=>rfl⟩ ?_ ?_⟩
 ·rintro i σ H5 hi ⟨o7,o8,o9,xs,rfl,k5,LN,lx,Xa,rest⟩
  have ei:(0:Int)+(i:Int)=(i:Int):=afU _
  rw [ei]
  have Ye:i < dN.length:=by omega
  obtain ⟨u,eu⟩:∃u,dN[i]? =some u:=⟨_,gE Ye⟩
  obtain ⟨b,eb,a,i1,j1,rfl,Lu,g1,g2⟩:=aA h_.pb eu
  obtain ⟨f1,f2⟩:=free b (ir eb)
  have t5:bh H4 H5:=fun b xs r=>by
   rcases r with r | ⟨o',r⟩
   ·exact .inl (k5 _ _ (fun z=>by rw [z,BF] at r;cases r) r)
   ·exact .inr ⟨o',k5 _ _ (fun z=>by rw [z,BF] at r;cases r) r⟩
  have ha5:bK K H5 a [.str b.nm,.int (i1:Int),.int (j1:Int)]:=t5.cy (t24.cy Lu)
  have ax:i6 xs (i:Int)=some (.ref a):=dC (by rw [rest i (aai _)];exact eu)
  have n1k:i1≠k:=fun z=>by rw [z,ep] at g1;cases g1;exact f1 rfl
  have n2k:j1≠k:=fun z=>by rw [z,ep] at g2;cases g2;exact f2 rfl
  refine ⟨_,rfl,_,rfl,lB,_,_,_,rfl,rfl,ba.of LN,ax,1,rfl,3,rfl,a,_,rfl,ha5,(by show ¬ (HT.dB 3 0 (some 1)=0∧HT.dB 3 3 (some 3)=3);decide),?_⟩
  rw [LM]
  intro p6 n6;generalize eX:upd _ p6 _=H6;have ⟨s6,e6⟩:=nw n6 eX;clear eX
  refine ⟨p6,_,rfl,bK.of e6,rfl,_,_,rfl,_,_,rfl,rfl,?_⟩
  have ZK:=s6 _ _ LN
  have ha6:=Ty.av.cy s6 ha5
  refine ⟨_,rfl,_,rfl,lB,_,_,_,rfl,rfl,ba.of ZK,ax,a,_,_,_,rfl,rfl,ha6,jy,?_⟩
  refine ⟨_,rfl,_,rfl,_,rfl,_,_,rfl,rfl,.inr ⟨_,rfl,_,_,rfl,rfl,?_⟩⟩
  refine ⟨_,rfl,_,rfl,_,rfl,_,_,rfl,rfl,.inr ⟨_,rfl,_,_,rfl,rfl,L3,?_⟩⟩
  intro p7 n7;generalize eX:upd _ p7 _=H7;have ⟨s7,e7⟩:=nw n7 eX;clear eX
  have Sd:=s7 _ _ ZK
  have ha7:=Ty.av.cy s7 ha6
  refine ⟨_,rfl,_,rfl,lB,_,_,_,rfl,rfl,ba.of Sd,ax,3,rfl,a,_,rfl,ha7,(by show ¬ (HT.dB 3 0 (some 3)=0∧HT.dB 3 3 none=3);decide),?_⟩
  rw [ZC]
  intro p8 n8;generalize eX:upd _ p8 _=H8;have ⟨s8,e8⟩:=nw n8 eX;clear eX
  have e78:=s8 _ _ e7
  have hb8:=s8 _ _ Sd
  refine ⟨p7,p8,_,_,rfl,rfl,bK.of e78,bK.of e8,by simp,(by show 3≤sizeLine;decide),fun _=> ?_,fun z=>absurd rfl z⟩
  have ixn:HH xs.length (i:Int)=some i:=vK (by omega)
  refine ⟨_,rfl,_,rfl,lB,_,_,i,rfl,rfl,hb8,ixn,?_⟩
  have s58:=s6.trans (s7.trans s8)
  have sh:∀m:Nat,((m:Int) - (if decide ((k:Int) < (m:Int))=true then 1 else 0))=(((if k < m then m - 1 else m:Nat)):Int):=fun m=>by
   by_cases cm:k < m
   ·rw [if_pos (decide_eq_true (by omega)),if_pos cm]
    omega
   ·rw [if_neg (by simpa using cm),if_neg cm]
    omega
  have k9:∀b o,b≠lB→H5 b=some o→(upd H8 lB (.lst (xs.set i (.ref p7)))) b=some o:=fun b o n e=>by rw [ao n];exact s58 _ _ e
  have np7:p7≠lB:=fun z=>by rw [z,ZK] at n7;cases n7
  have e79:(upd H8 lB (.lst (xs.set i (.ref p7)))) p7=some (.tup [.str b.nm,.int (((if k < i1 then i1 - 1 else i1:Nat)):Int),.int (((if k < j1 then j1 - 1 else j1:Nat)):Int)]):=by
   rw [ao np7,e78, ← sh i1, ← sh j1]
  have t9:bh H5 (upd H8 lB (.lst (xs.set i (.ref p7)))):=fun b' ys r=>by
   rcases r with r | ⟨o',r⟩
   ·exact .inl (k9 _ _ (fun z=>by rw [z,LN] at r;cases r) r)
   ·exact .inr ⟨o',k9 _ _ (fun z=>by rw [z,LN] at r;cases r) r⟩
  refine ⟨_,_,_,xs.set i (.ref p7),rfl,fun b' o' n e=>k9 _ _ n (k5 _ _ n e),ak,by rw [an'];exact lx,fun j u' b' hj LF HM => ?_,fun j hj=> ?_⟩
  ·by_cases cj:j=i
   ·subst cj
    rw [al_ (by omega)] at LF
    cases LF
    rw [eb] at HM
    cases HM
    exact ⟨p7,_,_,rfl,bK.of e79,(nX n1k).trans g1,(nX n2k).trans g2⟩
   ·rw [agA (afk cj)] at LF
    obtain ⟨a',i',j',e',c1,c2,c3⟩:=Xa j u' b' (by omega) LF HM
    exact ⟨a',i',j',e',t9.cy c1,c2,c3⟩
  ·rw [agA (by omega)]
   exact rest j (by omega)
 ·rintro σ H5 ⟨o7,o8,o9,xs,rfl,k5,LN,lx,Xa,rest⟩
  have en:((dN.length:Nat):Int).toNat=dN.length:=by omega
  rw [en] at Xa
  have ZH:Paired (ie K H5 (pins.eraseIdx k)) xs ar:=bN (by omega) fun j u b e1 e2=>Xa j u b (by have:=(be.mp e1).1;omega) e1 e2
  obtain ⟨w5,ko⟩:=Jq H5 xs k5 LN ZH
  refine ⟨_,rfl,q k p (.ref ta) _ xs H5 ep ko w5 ?_⟩
  have ta4:=h_.FQ W9 hy
  obtain ⟨a',l',SH,ZI,ZJ,c1,c2,c3,c4,c5,c6⟩:=ta4
  have t5:bh H4 H5:=fun b xs r=>by
   rcases r with r | ⟨o',r⟩
   ·exact .inl (k5 _ _ (fun z=>by rw [z,BF] at r;cases r) r)
   ·exact .inr ⟨o',k5 _ _ (fun z=>by rw [z,BF] at r;cases r) r⟩
  exact ⟨a',l',SH,ZI,ZJ,t5.cy c1,c2.aS t5,k5 _ _ c6 c3,c4.aS t5,c5,c6⟩
theorem Kn (r:Rat)(n:Int):fC (qr r) (n,1)=qr (r+(n:Rat)):=by
 have e:fC (qr r) (n,1)=((qr r).1+n*(qr r).2,(qr r).2):=by
  unfold fC
  simp
 have g:afE ((qr r).1+n*(qr r).2) (qr r).2=1:=by
  have:=mT r
  rw [← this]
  simp
 rw [e,qf (q:=((qr r).1+n*(qr r).2,(qr r).2)) (c9 r) g]
 congr 1
 have z:=vv (r:=r)
 have v:=gx r
 unfold vl at v ⊢
 push_cast
 grind
inductive Oj (K:Frag)(C:Addr)(vs:List V)(H:Hp)(Q:VK)(E_:XK):Prop where
 | mk (fA dx pP pW pB lP lB:Addr) (us dN :List V) (pins:List aF) (ar:List bB) (g:V) (c:Int) (_:vs=[.ref fA,.ref lP,g,.int c]) (_:WS K H C fA dx pP pW pB lP lB us dN pins ar) (_:pins.length≤7) (_:((g=.cb∧∀p∈pins,p.nm≠ "far"∧p.sp.1≤1000001)∨∃p,jz K H lP lB g p∧p.nm∉pins.map (·.nm)∧p.sp∉pins.map (·.sp)∧Sz 44 p.sp.1∧Sz 20 p.sp.2∧ -500002≤p.sp.2∧∀q∈pins,q.sp.2≤500002)) (_:∀(p:aF) (iz :List V) (H' :Hp),KO pP pW pB lP lB H H' →WS K H' C fA dx pP pW pB lP lB iz dN (pins++[p]) ar→Q .cb H'):Oj K C vs H Q E_
theorem fD:aD ["_law_frame_here","_law_pins_here","_law_gone","_law_cell","_law_spot_here","_law_up"] ["_law_frame_here","_law_pins_here","_law_gone","_law_cell"] (ag cW):=sq
theorem oO {C:Addr}(D:Def K mg "_law_pin_in" cW ["_law_frame_here","_law_pins_here","_law_gone","_law_cell"])(dc:Fn P w K mg base (a8 P w) 1 "_law_field" ["_law_cell","_law_prime","_law_many"] d3)(Kg:Fn P w K mg base (a8 P w) 34 "_law_ways" ["_law_cell"] (lY K))(rO:Fn P w K mg base (a8 P w) 1 "_law_sum" ["_law_one_here","_law_other"] (c_ K fC))
  (iD:Fn P w K mg base (a8 P w) 4 "_law_put_pin" ["_law_frame_here","_law_pins_here","_law_name_here","_law_spot_here","_law_ways_here"] (vW K C)):
  Fn P w K mg base (a8 P w) 35 "_law_pin_in" ["_law_frame_here","_law_pins_here","_law_gone","_law_cell"] (Oj K C):=by
 refine D.ok fD (fun vs H Q E h=> ?_) (fun f bC A outer s H vs Q E hr h=> ?_)
 ·obtain ⟨fA,dx,pP,pW,pB,lP,lB,us,dN,pins,ar,g,c,rfl,_⟩:=h
  rfl
 obtain ⟨fA,dx,pP,pW,pB,lP,lB,us,dN,pins,ar,g,c,rfl,st,Zy,hg,q⟩:=h
 have L2:2≤sizeLine:=by decide
 refine ⟨_,(aj (bf (aQ vb (pv 2) l_ (aV _)) (ae (aH (i:=4) fD.nd rfl (ab_ rfl) (aR (au (aR (au ah (au ah aa))) (au (aR (au (aC dc hr.mo pX (au (pv 3) (au ah (au ah aa)))) (au ah aa))) aa))))
   (aj (bg (aC iD hr.mo pX (au (pv 0) (au (pv 1) (au ft (au (pv 4) (au (aC Kg hr.mo pX (au (pv 3) aa)) aa))))))))) (ae (aH (i:=5) fD.nd rfl (ab_ rfl) (aC rO hr.mo pX (au (aK (aK (pv 2))) (au (aR (au (aL cE ah (aC dc hr.mo pX (au (pv 3) (au ah (au ah aa))))) (au ah aa))) aa))))
   (aj (bg (aC iD hr.mo pX (au (pv 0) (au (pv 1) (au (aK (pv 2)) (au (aR (au (aK (aK (pv 2))) (au (pv 5) aa))) (au (aC Kg hr.mo pX (au (pv 3) aa)) aa))))))))))),?_⟩
 refine ⟨_,rfl,rfl,_,rfl,?_⟩
 rcases hg with ⟨rfl,hf⟩ | ⟨p,hy,N1,oB,z1,z2,yb,qb⟩
 ·refine a_ (fun _=> ?_) (fun cc=>absurd (by decide) cc)
  have i2:=aY (c:=c) (p:=2003) (m:=99) (by decide)
  refine ⟨L2,?_⟩
  intro p1 n1;generalize eX:upd _ p1 _=H1;have ⟨s1,e1⟩:=nw n1 eX;clear eX
  refine ⟨_,rfl,_,_,_,rfl,by decide,by decide,by decide,L2,?_⟩
  intro p2 n2;generalize eX:upd _ p2 _=H2;have ⟨s2,e2⟩:=nw n2 eX;clear eX
  refine ⟨L2,?_⟩
  intro p3 n3;generalize eX:upd _ p3 _=H3;have ⟨s3,e3⟩:=nw n3 eX;clear eX
  have S8:=s1.trans (s2.trans s3)
  refine ⟨_,rfl,_,rfl,_,rfl,_,rfl,_,rfl,fun l8 SI ws H8 wk s8 n8 e8 p8=> ?_⟩
  try dsimp only [eI]
  have S9:dZ K H3 (.ref p3) (((2000003:Int):Rat),((field c 2003 99:Int):Rat)):=iB e3 ((iS _ e1).same (s2.trans s3)) ((iS _ e2).same s3)
  have fr:=(st.same S8).fresh n8
  refine ⟨fA,dx,pP,pW,pB,lP,lB,us,dN,pins,ar,.ref p3,l8,SI,⟨"far",(((2000003:Int):Rat),((field c 2003 99:Int):Rat)),ws⟩,rfl,st.same (S8.trans s8),S9.same s8,e8,p8,⟨fr.2.2.2.1,fr.2.2.2.2⟩,fun z=> ?_,fun z=> ?_,⟨?_,?_⟩,wk,Zy,fun iz H' k' W' =>q _ iz H' ((KO.of (S8.trans s8)).trans k') W'⟩
  ·obtain ⟨p',nh,e'⟩:=aah.mp z
   exact (hf p' nh).1 e'
  ·obtain ⟨p',nh,e'⟩:=aah.mp z
   have h1:=(hf p' nh).2
   rw [e'] at h1
   have h2:((2000003:Int):Rat)≤1000001:=h1
   exact absurd h2 (by decide+kernel)
  ·exact gf (by decide) (by decide)
  ·exact gf (afc (show _ < 128 by omega) (by decide)) (by decide)
 ·obtain ⟨ta,la,sv,ws0,rfl,h1,h2,h3,h4,h5,h6⟩:=id hy
  obtain ⟨sa,x1,y1,rfl,rP,HP,yn⟩:=h2
  refine a_ (fun cc=>absurd (of_decide_eq_true cc) (fun z=>nomatch z)) (fun _=> ?_)
  have i2:=aY (c:=c) (p:=3001) (m:=2) (by decide)
  refine ⟨_,rfl,ta,_,_,_,rfl,rfl,h1,rfl,sa,_,_,_,rfl,rfl,rP,g9,_,rfl,_,_,_,rfl,by decide,by decide,by decide,_,_,rfl,rfl,⟨by decide+kernel,aaj (intBits_le_64 (by omega) (by omega)) (by decide)⟩,L2,?_⟩
  intro p2 n2;generalize eX:upd _ p2 _=H2;have ⟨s2,e2⟩:=nw n2 eX;clear eX
  try dsimp only [eI]
  generalize field c 3001 2=fv at i2 e2 ⊢
  have nb:Ns 22 (4000037*fv,(1:Int)):=⟨by show (4000037*fv).natAbs≤4194304;omega,by show 1≤2^22;decide⟩
  refine ⟨y1,.ref p2,qr p.sp.2,(4000037*fv,1),20,22,rfl,yn.same s2,⟨p2,rfl,bK.of e2⟩,LC z2,nb,by decide,fun p5 H5 s5 e5=> ?_⟩
  rw [Kn] at e5
  have EV:=s2.trans s5
  have de :=Ty.av.cy EV h1
  have ZL :=Ty.av.cy EV rP
  refine ⟨_,rfl,_,rfl,_,rfl,ta,_,_,_,rfl,rfl,de,jy,_,rfl,ta,_,_,_,rfl,rfl,de,rfl,sa,_,_,_,rfl,rfl,ZL,iy,_,rfl,L2,?_⟩
  intro p6 n6;generalize eX:upd _ p6 _=H6;have ⟨s6,e6⟩:=nw n6 eX;clear eX
  have Pe:=EV.trans s6
  refine ⟨_,rfl,_,rfl,fun l8 SI ws H8 wk s8 n8 e8 p8=> ?_⟩
  try dsimp only [eI]
  have S9:dZ K H6 (.ref p6) (p.sp.1,p.sp.2+((4000037*fv:Int):Rat)):=iB e6 (HP.same Pe) ((jv e5).same s6)
  have fr:=(st.same Pe).fresh n8
  refine ⟨fA,dx,pP,pW,pB,lP,lB,us,dN,pins,ar,.ref p6,l8,SI,⟨p.nm,(p.sp.1,p.sp.2+((4000037*fv:Int):Rat)),ws⟩,rfl,st.same (Pe.trans s8),S9.same s8,e8,p8,⟨fr.2.2.2.1,fr.2.2.2.2⟩,N1,fun z=> ?_,⟨z1,?_⟩,wk,Zy,fun iz H' k' W' =>q _ iz H' ((KO.of (Pe.trans s8)).trans k') W'⟩
  ·obtain ⟨p',nh,e'⟩:=aah.mp z
   have two:fv=0∨fv=1:=by omega
   rcases two with rfl | rfl
   ·refine oB (aah.mpr ⟨p',nh,e'.trans ?_⟩)
    refine agj rfl ?_
    show p.sp.2+((4000037*0:Int):Rat)=p.sp.2
    have:((4000037*0:Int):Rat)=0:=by decide+kernel
    rw [this]
    grind
   ·have h1:=qb p' nh
    rw [e'] at h1
    have h2:p.sp.2+((4000037*1:Int):Rat)≤500002:=h1
    have:((4000037*1:Int):Rat)=4000037:=by decide+kernel
    rw [this] at h2
    grind
  ·exact (z2.add (gf (i:=4000037*fv) (k:=22) (by show _ < 4194304;omega) (by decide))).up (by decide)
mutual
theorem Ko {H:Hp}:∀(d:Da) (x:V),Is K H d x→alike d d=true∧fB d d=true
 | .v a,x,h=>by
  unfold Is at h
  unfold alike fB
  exact ⟨rfl,tf h.2⟩
 | .t ds,x,h=>by
  unfold Is at h
  unfold alike fB
  obtain ⟨p,xs,_,_,k⟩:=h
  exact gW ds xs k
 | .l ds,x,h=>by
  unfold Is at h
  unfold alike fB
  obtain ⟨p,xs,_,_,k⟩:=h
  exact gW ds xs k
theorem gW {H:Hp}:∀(ds:List Da) (xs:List V),dS K H ds xs→cK ds ds=true∧cg ds ds=true
 | [],_,_=>⟨rfl,rfl⟩
 | d::ds,[],h=>by unfold dS at h;exact h.elim
 | d::ds,x::xs,h=>by
  unfold dS at h
  unfold cK cg
  obtain ⟨a1,a2⟩:=Ko d x h.1
  obtain ⟨b1,b2⟩:=gW ds xs h.2
  rw [a1,a2,b1,b2]
  exact ⟨rfl,rfl⟩
end
theorem nZ {α:Type}{f:α→Da}(h:∀a,dep (f a)≤60):∀l:List α,eM (l.map f)≤60
 | []=>aft _
 | a::l=>by
  show max (dep (f a)) (eM (l.map f))≤60
  have h1:=h a
  have h2:=nZ h l
  omega
theorem h7 {α:Type}{H:Hp}{f:α→Da}{R:V→α→Prop}(h:∀u a,R u a→Is K H (f a) u):∀{us:List V} {l:List α},Paired R us l→dS K H (l.map f) us
 | [],[],.nil=>by
  unfold dS
  trivial
 | _::_,_::_,.cons z t=>by
  show dS K H (_::_) _
  unfold dS
  exact ⟨h _ _ z,h7 h t⟩
theorem Ol {H:Hp}(x:Str):Is K H (.v (.str x)) (.str x):=by
 unfold Is
 exact ⟨rfl,rfl⟩
theorem ZM {H:Hp}{ds:List Da}{x y:V}{Q:VK}(h1:Is K H (.l ds) x)(h2:Is K H (.l ds) y)(hd:eM ds≤60)(q:Q (.bl false) H):tj K x y H Q:=by
 have h:=h1
 unfold Is at h
 obtain ⟨p,xs,_,_,k⟩:=h
 obtain ⟨b1,b2⟩:=gW ds xs k
 refine ⟨ds,ds,.inr ⟨h1,h2⟩,b1,hd,?_⟩
 rw [b2]
 exact q
structure Kp (K:Frag)(H:Hp)(lP lB dm:Addr)(us vs:List V)(pins:List aF)(ar:List bB)(kT:List (List Key×V))(ms:List cP)(N:Nat):Prop where
 hp:H lP=some (.lst us)
 pp:Paired (gw K H) us pins
 gp:eA pins
 hb:H lB=some (.lst vs)
 pb:Paired (ie K H pins) vs ar
 lp:pins.length≤9
 lb:ar.length≤14
 mo:eQ K H pins ar kT ms N
 hN:N≤1000000
theorem Kp.same {H H' :Hp}{lP lB dm:Addr}{us vs:List V}{pins:List aF}{ar:List bB}{kT:List (List Key×V)}{ms:List cP}{N:Nat}(h:Kp K H lP lB dm us vs pins ar kT ms N)(s:av H H'):Kp K H' lP lB dm us vs pins ar kT ms N:=
 ⟨s _ _ h.hp,Paired.bq h.pp fun _ _ z=>z.same s,h.gp,s _ _ h.hb,Paired.bq h.pb fun _ _ z=>z.same s,h.lp,h.lb,h.mo.same s,h.hN⟩
theorem Kp.ks {H H' :Hp}{lP lB dm:Addr}{us vs:List V}{pins:List aF}{ar:List bB}{kT:List (List Key×V)}{ms:List cP}{N:Nat}{u:HO}(h:Kp K H lP lB dm us vs pins ar kT ms N)(e:H dm=some u)(hu:u=.dT kT∨∃o,u=.cf o (.dT kT))(k:aT dm H H'):Kp K H' lP lB dm us vs pins ar kT ms N:=by
 have nt:iA u:=by
  rcases hu with rfl | ⟨o,rfl⟩
  ·exact nH
  ·exact FD
 have nK:∀kM,u≠.dK kM:=fun kM z=>by
  rcases hu with rfl | ⟨o,rfl⟩ <;> cases z
 have nl:∀{b:Addr} {xs:List V},H b=some (.lst xs)→b≠dm:=fun {b xs} q z=>by
  rw [z,e] at q
  rcases hu with rfl | ⟨o,rfl⟩ <;> cases q
 have t:=cM e nt k
 refine ⟨k _ _ (nl h.hp) h.hp,Paired.bq h.pp fun _ _ z=> ?_,h.gp,k _ _ (nl h.hb) h.hb,Paired.bq h.pb fun _ _ z=> ?_,h.lp,h.lb,⟨Paired.bq h.mo.pr fun _ _ z=>z.ks e nt nK k,h.mo.nk,h.mo.mo,h.mo.WQ,h.mo.lm,h.mo.sub,h.mo.WR,h.mo.ones,h.mo.only⟩,h.hN⟩
 ·obtain ⟨a,l,sv,iz,e',h1,h2,h3,h4⟩:=z
  exact ⟨a,l,sv,iz,e',t.cy h1,h2.aS t,k _ _ (nl h3) h3,h4.aS t⟩
 ·obtain ⟨a,i,j,e',h1,h2,h3⟩:=z
  exact ⟨a,i,j,e',t.cy h1,h2,h3⟩
theorem jA {H:Hp}{b:Addr}{x:Str×Nat}(h:bK K H b [.str x.1,.int (x.2:Int)]):Is K H (.t [.v (.str x.1),.v (.int (x.2:Int))]) (.ref b):=by
 unfold Is
 refine ⟨b,_,rfl,h,?_⟩
 unfold dS
 refine ⟨by unfold Is;exact ⟨rfl,rfl⟩,?_⟩
 unfold dS
 refine ⟨by unfold Is;exact ⟨rfl,rfl⟩,?_⟩
 unfold dS
 trivial
theorem Kq (x y:Str×Nat):cg [.v (.str x.1),.v (.int (x.2:Int))] [.v (.str y.1),.v (.int (y.2:Int))]=decide (x=y):=by
 obtain ⟨a,i⟩:=x
 obtain ⟨b,j⟩:=y
 simp only [cg,fB,om,anr]
 rw [afA,decide_eq_true_iff,afB,aou]
 constructor
 ·rintro ⟨h1,h2⟩
  have Jo :(i:Int)=(j:Int):=by simpa using h2
  exact ⟨by simpa using h1,by omega⟩
 ·rintro ⟨rfl,rfl⟩
  simp
theorem vY {H:Hp}{u:V}{p:Addr}{r:Rat}{q:Int×Int}{Q:VK}(h:gA K H u r)(e:qr r=q)(hp:H p=some (.tup [.int q.1,.int q.2]))(k:Q (.bl false) H):tj K u (.ref p) H Q:=by
 refine ⟨_,_,.inl ⟨g7 (q:=q) (by rw [← e];exact h),g7 (q:=q) ⟨p,rfl,bK.of hp⟩⟩,rfl,w_,?_⟩
 rw [xV q]
 exact k
theorem rV {kT:List (List Key×V)}{ms:List cP}{R:List Key×V→cP→Prop}(pr:Paired R kT ms)(hR:∀kv m,R kv m→kv.1=[.inr m.1.1,.inl (m.1.2:Int)])(x:Str×Nat):(bO kT [.inr x.1,.inl (x.2:Int)]).isSome=decide (x∈ms.map (·.1)):=by
 rw [afA,decide_eq_true_iff,ag_]
 constructor
 ·rintro ⟨v,e⟩
  obtain ⟨i,ei⟩:=aak (tU e)
  obtain ⟨m,em,hm⟩:=aA pr ei
  have:=hR _ _ hm
  injection this with h1 h2
  injection h2 with h2 _
  have f1:x.1=m.1.1:=afV h1
  have f2:x.2=m.1.2:=by
   have:=aj_ h2
   omega
  exact aah.mpr ⟨m,ir em,(agj f1 f2).symm⟩
 ·intro h
  obtain ⟨m,hm,rfl⟩:=aah.mp h
  obtain ⟨i,ei⟩:=aak hm
  obtain ⟨kv,ek,hk⟩:=gs pr ei
  exact eS (aah.mpr ⟨kv,ir ek,hR _ _ hk⟩)
inductive FU (K:Frag)(vs:List V)(H:Hp)(Q:VK)(E_:XK):Prop where
 | mk (lP lB lR dm b:Addr) (us dN ps:List V) (pins:List aF) (ar:List bB) (kT:List (List Key×V)) (ms:List cP) (N i:Nat) (m:cP) (_:vs=[.ref lP,.ref lB,.ref lR,.ref dm,.ref b]) (_:Kp K H lP lB dm us dN pins ar kT ms N) (_:Rd H dm (.dT kT)) (_:H lR=some (.lst ps)) (_:Paired (dk H) ps (bG pins)) (_:ms[i]? =some m) (_:H b=some (.tup [.str m.1.1,.int (m.1.2:Int)])) (_:∀H',av H H' →Q (.bl true) H'):FU K vs H Q E_
theorem dy:aD ["_law_pins_here","_law_bars_here","_law_pairs","_law_told","_law_pair","_law_motion","_law_bar","_law_behind","_law_other","_law_here"] ["_law_pins_here","_law_bars_here","_law_pairs","_law_told","_law_pair"] (ag eT):=sq
theorem vZ (D:Def K mg "_law_one" eT ["_law_pins_here","_law_bars_here","_law_pairs","_law_told","_law_pair"])(ZN:Fn P w K mg base (a8 P w) 35 "_law_is_motion" ["_law_pins_here","_law_motion"] (FP K))(ZO:Fn P w K mg base (a8 P w) 3 "_law_longer" ["_law_pins_here","_law_bar","_law_motion"] (nO K))(ZP:Fn P w K mg base (a8 P w) 3 "_law_keeps" ["_law_pins_here","_law_motion"] (rT K)):
  Fn P w K mg base (a8 P w) 36 "_law_one" ["_law_pins_here","_law_bars_here","_law_pairs","_law_told","_law_pair"] (FU K):=by
 refine D.ok dy (fun vs H Q E h=> ?_) (fun f bC A outer s H vs Q E hr h=> ?_)
 ·obtain ⟨lP,lB,lR,dm,b,us,dN,ps,pins,ar,kT,ms,N,i,m,rfl,_⟩:=h
  rfl
 obtain ⟨lP,lB,lR,dm,b,us,dN,ps,pins,ar,kT,ms,N,i,m,rfl,T,hm,hR,pR,em,hb,q⟩:=h
 have L2:2≤sizeLine:=by decide
 have lpp:=T.lp
 have mm:=ir em
 refine ⟨_,(ae (aH (i:=5) dy.nd rfl (ab_ rfl) (cF (bT hr) (pv 3) (pv 4) (fun _ _=>rfl)))
  (ae (bf (PW.pt (gF (c7 (cn (aC ZN hr.mo pX (au (pv 0) (au (pv 5) aa))))) (fu (c7 (cn (aC ZP hr.mo pX (au (pv 0) (au (pv 5) aa)))))))) (aj (aG cI)) aJ)
  (ae (bF PassesOwn.never rfl (bw (pv 1)) (aE (i:=6) dy.nd rfl (ab_ rfl)) (aj (bf (aQ kh (aK (aC ZO hr.mo pX (au (pv 0) (au (pv 6) (au (pv 5) aa))))) ah (aV _)) (aj (aG cI)) aJ)))
  (ae (aH (i:=7) dy.nd rfl (ab_ rfl) cI)
  (ae (bF PassesOwn.never rfl (bw (pv 2)) (aE (i:=8) dy.nd rfl (ab_ rfl)) (ae (aH (i:=9) dy.nd rfl (ab_ rfl) (bD jN (cF (bT hr) (pv 5) (aK (pv 8)) (fun _ _=>rfl)) (aK (pv 8)) (fun _ _=>rfl)))
   (aj (bf (aQ (i_ hr.units) (pv 8) (pv 4) (aV _)) (ae (aH (i:=7) dy.nd rfl (ab_ rfl) cI)
    (aj (bf (aQ (lK hr.units) (pv 9) (aR (au ah (au ah aa))) (aV _)) (aj (aG cI)) aJ))) (aj (bf (PW.pt (u5 (PW.pt (gF (cn (pv 7)) (fu (f9 (qX (bT hr) (pv 8) (pv 3)))))) (qD (aQ (lK hr.units) (pv 9) (aR (au ah (au ah aa))) (aV _))))) (aj (aG cI)) aJ))))))
  (aj (aG cI))))))),?_⟩
 obtain ⟨kv,ek,dM,kM,uw,hM⟩:=gs T.mo.pr em
 have rd:∀{H' :Hp},av H H' →Rd H' dm (.dT kT):=fun {H'} s' =>hm.imp (s' _ _) fun ⟨o,z⟩=>⟨o,s' _ _ z⟩
 have dgo:∀{H' :Hp} {b' :Addr} {x:Str×Nat},av H H' →H' b' =some (.tup [.str x.1,.int (x.2:Int)])→di H' dm (.ref b') (bO kT [.inr x.1,.inl (x.2:Int)]):=fun {H' b' x} s' e=>.inr ⟨kT,[.inr x.1,.inl (x.2:Int)],b',rd s',rfl,e,rfl⟩
 have dg:di H dm (.ref b) (some (.ref dM)):=by
  have:=dgo (x:=m.1) (av.refl H) hb
  rw [mV T.mo.nk (by rw [ek,uw])] at this
  exact this
 refine ⟨_,rfl,_,rfl,dm,_,rfl,dg,?_⟩
 refine ⟨_,rfl,_,rfl,lP,dM,us,pins,kM,m.2,N,rfl,T.hp,T.pp,by omega,hM,fun H1 s1=>⟨_,rfl,?_⟩⟩
 refine a_ (fun c=>nomatch c) (fun _=> ?_)
 have T1:=T.same s1
 have mv:=T.mo.mo m mm
 refine ⟨_,rfl,_,rfl,lP,dM,us,pins,kM,m.2,N,rfl,T1.hp,T1.pp,T.gp,hM.same s1,mv.R9,fun H2 s2=>⟨_,rfl,?_⟩⟩
 refine a_ (fun c=>nomatch c) (fun _=> ?_)
 have xF:=s1.trans s2
 have T2:=T1.same s2
 refine ⟨_,rfl,lB,rfl,⟨_,ba.of T2.hb⟩,bM (K:=K) (a:=lB) (xs:=dN) (fun j σ H' =>∃(o6:Option V),σ=[some (.ref lP),some (.ref lB),some (.ref lR),some (.ref dm),some (.ref b),some (.ref dM),o6,none,none,none]∧av H H') ⟨none,rfl,xF⟩ (fun j σ H' _ h=>by
   obtain ⟨_,_,s⟩:=h
   exact ba.of (T.same s).hb) ?_ ?_⟩
 ·rintro j u σ H3 hu ⟨o6,rfl,s3⟩
  have T3:=T.same s3
  obtain ⟨br,Ph,Ob⟩:=aA T3.pb hu
  refine ⟨_,rfl,_,rfl,_,rfl,lP,dM,us,pins,u,br,kM,m.2,N,rfl,T3.hp,T3.pp,T.gp,Ob,hM.same s3,fun v H4 s4 n4=> ?_⟩
  obtain ⟨z,⟨pz,rfl,k1⟩,k2,k3,_⟩:=n4
  rw [mv.ar br (ir Ph)] at k3
  have z0:z.1=0:=(xP k2).mpr k3
  rw [z0] at k1
  refine ⟨pz,_,_,_,rfl,rfl,k1,iy,rfl,_,rfl,?_⟩
  refine a_ (fun c=>by simp at c) (fun _=> ?_)
  exact ⟨_,rfl,s3.trans s4⟩
 rintro σ H3 ⟨o6,rfl,s3⟩
 refine ⟨_,rfl,lR,rfl,⟨_,ba.of (s3 _ _ hR)⟩,?_⟩
 obtain ⟨c,ec⟩:∃c,(bG pins)[c]? =some m.1:=aak (T.mo.sub.subset (aah.mpr ⟨m,mm,rfl⟩))
 have ndp:=hV T.gp.np
 refine bM (K:=K) (a:=lR) (xs:=ps) (fun t σ H' =>∃(o8 o9:Option V),σ=[some (.ref lP),some (.ref lB),some (.ref lR),some (.ref dm),some (.ref b),some (.ref dM),o6,some (.bl (decide (c < t))),o8,o9]∧av H H') ⟨none,none,rfl,s3⟩ (fun t σ H' _ h=>by
   obtain ⟨_,_,_,s⟩:=h
   exact ba.of (s _ _ hR)) ?_ ?_
 ·rintro t u σ H4 hu ⟨o8,o9,rfl,s4⟩
  obtain ⟨x,ex,b2,rfl,hb2⟩:=aA pR hu
  have BF:=s4 _ _ hb2
  obtain ⟨hxn,hax⟩:=j0 (ir ex)
  obtain ⟨p,mp,epn⟩:=aah.mp hxn
  obtain ⟨tm,v1,v2,gv,et,m1,m2⟩:=(hM.same s4).get mp
  rw [epn] at gv m1 m2
  obtain ⟨ua,ea,na⟩:∃ua,i6 [v1,v2] (x.2:Int)=some ua∧gA K H4 ua (qv x.2 (m.2 x.1)):=by
   have two:x.2=0∨x.2=1:=by omega
   rcases two with z | z
   ·rw [z]
    exact ⟨v1,rfl,m1⟩
   ·rw [z]
    exact ⟨v2,rfl,m2⟩
  have ZQ:=bK.of (K:=K) BF
  refine ⟨_,rfl,_,rfl,b2,_,_,_,rfl,rfl,ZQ,jy,dM,_,rfl,gv,_,rfl,b2,_,_,_,rfl,rfl,ZQ,g9,tm,_,_,_,rfl,rfl,bK.of et,ea,?_⟩
  refine ⟨_,rfl,_,rfl,_,_,.inl ⟨jA ZQ,jA (x:=m.1) (bK.of (s4 _ _ hb))⟩,rfl,(by show max 0 (max 0 0)≤60;decide),_,rfl,?_⟩
  rw [Kq]
  by_cases cx:x=m.1
  ·have tc:t=c:=cH ndp (by rw [ex,cx]) ec
   refine a_ (fun _=> ?_) (fun z=>absurd (decide_eq_true cx) z)
   have on:=T.mo.ones i i m m em em
   rw [if_pos rfl, ← cx] at on
   rw [on] at na
   refine ⟨_,rfl,L2,?_⟩
   intro p5 n5;generalize eX:upd _ p5 _=H5;have ⟨s5,e5⟩:=nw n5 eX;clear eX
   refine vY (na.same s5) m8 e5 ⟨_,rfl,?_⟩
   refine a_ (fun z=>nomatch z) (fun _=> ?_)
   exact ⟨_,_,by rw [decide_eq_true (show c < t+1 by omega)];rfl,s4.trans s5⟩
  ·refine a_ (fun z=>absurd (of_decide_eq_true z) cx) (fun _=> ?_)
   have tc:t≠c:=fun z=>cx (by rw [z,ec] at ex;exact (aff ex).symm)
   have ed:decide (c < t)=decide (c < t+1):=by
    rw [afA,decide_eq_true_iff,decide_eq_true_iff]
    omega
   refine ⟨_,rfl,_,rfl,?_⟩
   refine a_ (fun z=> ?_) (fun z=> ?_)
   ·have z0:=T.mo.WR m mm c t x ec (of_decide_eq_true z) ex
    rw [z0] at na
    refine a_ (fun _=> ?_) (fun y=>absurd rfl y)
    refine ⟨_,rfl,L2,?_⟩
    intro p5 n5;generalize eX:upd _ p5 _=H5;have ⟨s5,e5⟩:=nw n5 eX;clear eX
    refine vY (na.same s5) cC e5 ⟨_,rfl,?_⟩
    refine a_ (fun z=>nomatch z) (fun _=> ?_)
    exact ⟨_,_,by rw [ed];rfl,s4.trans s5⟩
   ·refine ⟨_,rfl,_,rfl,dm,_,rfl,dgo (x:=x) s4 BF,_,rfl,?_⟩
    rw [rV T.mo.pr (fun kv n ⟨_,_,e,_⟩=>by rw [e]) x]
    by_cases cm:x∈ms.map (·.1)
    ·obtain ⟨n,hn,enx⟩:=aah.mp cm
     obtain ⟨j,ej⟩:=aak hn
     have ij:¬ i=j:=fun y=>by
      rw [y,ej] at em
      cases em
      exact cx enx.symm
     have on:=T.mo.ones i j m n em ej
     rw [if_neg ij,enx] at on
     rw [on] at na
     refine a_ (fun _=> ?_) (fun y=>absurd (decide_eq_true cm) y)
     refine ⟨_,rfl,L2,?_⟩
     intro p5 n5;generalize eX:upd _ p5 _=H5;have ⟨s5,e5⟩:=nw n5 eX;clear eX
     refine vY (na.same s5) cC e5 ⟨_,rfl,?_⟩
     refine a_ (fun z=>nomatch z) (fun _=> ?_)
     exact ⟨_,_,by rw [ed];rfl,s4.trans s5⟩
    ·refine a_ (fun y=>absurd (of_decide_eq_true y) cm) (fun _=> ?_)
     refine a_ (fun z=>nomatch z) (fun _=> ?_)
     exact ⟨_,_,by rw [ed];rfl,s4⟩
 ·rintro σ H4 ⟨o8,o9,rfl,s4⟩
  exact q _ s4
theorem v3 {α:Type}[DecidableEq α]:∀{l' l:List α},ane l' l→l.Nodup→l.filter (fun x=>decide (x∈l'))=l' :=by
 intro l' l h
 induction h with
 | slnil=>
  intro _
  rfl
 | @cons l1 l2 a hs ih=>
  intro nd
  rw [afs] at nd
  rw [afP (by simpa using fun z=>nd.1 (hs.subset z)),ih nd.2]
 | @cons_cons l1 l2 a hs ih=>
  intro nd
  rw [afs] at nd
  rw [afO (by simp)]
  congr 1
  have e:l2.filter (fun x=>decide (x∈a::l1))=l2.filter (fun x=>decide (x∈l1)):=anZ fun x hx=>by
   rw [afA,decide_eq_true_iff,decide_eq_true_iff]
   constructor
   ·intro z
    rcases afo.mp z with z | z
    ·exact absurd (by rw [← z];exact hx) nd.1
    ·exact z
   ·exact fun z=>aa_ _ z
  rw [e,ih nd.2]
theorem FV {α:Type}[DecidableEq α]{l' l:List α}(h:ane l' l)(nd:l.Nodup){p:α→Bool}(hp:∀x,p x=true ↔ x∈l'):l.filter p=l' :=
 (anZ fun x _=>by rw [afA,hp,decide_eq_true_iff]).trans (v3 h nd)
def Pk (x:Str×Nat):Da:=.t [.v (.str x.1),.v (.int (x.2:Int))]
theorem xZ (x:Str×Nat):dep (Pk x)≤60:=by
 show max 0 (max 0 0)+1≤60
 decide
inductive rW (K:Frag)(vs:List V)(H:Hp)(Q:VK)(E_:XK):Prop where
 | mk (lP lB dm:Addr) (us dN :List V) (pins:List aF) (ar:List bB) (kT:List (List Key×V)) (ms:List cP) (N:Nat) (_:vs=[.ref lP,.ref lB,.ref dm]) (_:Kp K H lP lB dm us dN pins ar kT ms N) (_:H dm=some (.dT kT)) (_:∀H',av H H' →Q (.bl true) H'):rW K vs H Q E_
theorem n_:aD ["_law_pins_here","_law_bars_here","_law_told","_law_pairs","_law_name_here","_law_spot_here","_law_ways_here","_law_key"] ["_law_pins_here","_law_bars_here","_law_told"] (ag zH):=sq
theorem S_ (D:Def K mg "_law_right" zH ["_law_pins_here","_law_bars_here","_law_told"])(bc:mg "isinstance"=none)(j5:mg "dict"=none)(eR:mg "tuple"=none)(iC:mg "int"=none)(j4:mg "bool"=none)(bE:mg "len"=none)(bL:mg "list"=none)(FW:mg "all"=none)
  (AE:Fn P w K mg base (a8 P w) 36 "_law_one" ["_law_pins_here","_law_bars_here","_law_pairs","_law_told","_law_pair"] (FU K)):
  Fn P w K mg base (a8 P w) 37 "_law_right" ["_law_pins_here","_law_bars_here","_law_told"] (rW K):=by
 refine D.ok n_ (fun vs H Q E h=> ?_) (fun f bC A outer s H vs Q E hr h=> ?_)
 ·obtain ⟨lP,lB,dm,us,dN,pins,ar,kT,ms,N,rfl,_⟩:=h
  rfl
 obtain ⟨lP,lB,dm,us,dN,pins,ar,kT,ms,N,rfl,T,hm,q⟩:=h
 have L2:2≤sizeLine:=by decide
 have lpp:=T.lp
 have lu:us.length=pins.length:=Paired.length T.pp
 have lkm:kT.length=ms.length:=Paired.length T.mo.pr
 have lms:=T.mo.lm
 have cond:∀o' u',(H dm:Option HO)≠some (.cf o' u'):=fun o' u' z=>by
  rw [hm] at z
  cases z
 refine ⟨_,(ae (bf (c7 (cn (aU e_ rfl bc bP (au (pv 2) (au (ja rfl j5 CL) aa))))) (aj (aG cI)) aJ)
  (ae (aH (i:=3) n_.nd rfl (afx rfl) (cu aa))
  (ae (bF PassesOwn.never rfl (bw (pv 0)) (dO rfl (aX (aE (i:=4) n_.nd rfl (ab_ rfl)) (aX (aE (i:=5) n_.nd rfl (ab_ rfl)) (aX (aE (i:=6) n_.nd rfl (ab_ rfl)) cQ)))) (aj (aH (i:=3) n_.nd rfl (afx rfl) (aL CC (pv 3) (cu (au (aR (au (pv 4) (au ah aa))) (au (aR (au (pv 4) (au ah aa))) aa)))))))
  (ae (ED (bF PassesOwn.never rfl (mY (pv 2)) (aE (i:=7) n_.nd rfl (ab_ rfl)) (ae (bf (PW.pt (gF (c7 (cn (aU p_ rfl bc bP (au (pv 7) (au (ja rfl eR qR) aa))))) (fu (aQ kh (aU a9 rfl bE dD (au (pv 7) aa)) ah (aV _))))) (aj (aG cI)) aJ)
   (aj (bf (PW.pt (gF (c7 (cn (aU e_ rfl bc bP (au (aK (pv 7)) (au (ja rfl iC w8) aa))))) (fu (cn (aU e_ rfl bc bP (au (aK (pv 7)) (au (ja rfl j4 CK) aa))))))) (aj (aG cI)) aJ)))))
  (ae (bf (aQ (lK hr.units) (cz (ug rfl) rfl bL iK (au (pv 2) aa)) (dX (tn:=["_law_pair"]) (fr:=["_law_told"]) (caps:=[2]) rfl ⟨rfl,by decide+kernel,rfl,by decide+kernel,by decide+kernel,rfl,⟨(by first | exact ab_ rfl | exact afx rfl),trivial⟩,⟨(by first | exact ab_ rfl | exact afx rfl),trivial⟩⟩ (bw (pv 3)) (fun _ _ _ _=>(aE (i:=0) (show (["_law_pair","_law_told"]:List Str).Nodup from by decide+kernel) rfl (ab_ rfl))) (fun _ _ _ _=>(CN (f9 (qX (bT hr) (pv 0) (pv 1))))) (fun _ _ _ _=>(pv 0))) (aV _)) (aj (aG cI)) aJ)
  (aj (uk (aG (aU (yA rfl) rfl FW Qj (au (dX (tn:=["_law_pair"]) (fr:=["_law_told","_law_pins_here","_law_pairs","_law_bars_here"]) (caps:=[2,0,3,1]) rfl ⟨rfl,by decide+kernel,rfl,by decide+kernel,by decide+kernel,rfl,⟨(by first | exact ab_ rfl | exact afx rfl),⟨(by first | exact ab_ rfl | exact afx rfl),⟨(by first | exact ab_ rfl | exact afx rfl),⟨(by first | exact ab_ rfl | exact afx rfl),trivial⟩⟩⟩⟩,⟨(by first | exact ab_ rfl | exact afx rfl),⟨(by first | exact ab_ rfl | exact afx rfl),⟨(by first | exact ab_ rfl | exact afx rfl),⟨(by first | exact ab_ rfl | exact afx rfl),trivial⟩⟩⟩⟩⟩ (mY (pv 2)) (fun _ _ _ _=>(aE (i:=0) (show (["_law_pair","_law_told","_law_pins_here","_law_pairs","_law_bars_here"]:List Str).Nodup from by decide+kernel) rfl (ab_ rfl))) (fun _ _ _ _=>fb) (fun _ _ _ _=>(aC AE hr.mo (tE (by first | assumption | exact a8.qS) rfl) (au (pv 2) (au (pv 4) (au (pv 3) (au (pv 1) (au (pv 0) aa)))))))) aa)))))))))),?_⟩
 refine ⟨_,rfl,_,_,_,true,rfl,rfl,.dT hm,S3,_,rfl,?_⟩
 refine a_ (fun c=>nomatch c) (fun _=> ?_)
 refine ⟨(by show 0≤sizeLine;decide),?_⟩
 intro l1 n1;generalize eX:upd _ l1 _=H1;have ⟨s1,e1⟩:=nw n1 eX;clear eX
 refine ⟨_,rfl,lP,rfl,⟨_,ba.of (s1 _ _ T.hp)⟩,bM (K:=K) (a:=lP) (xs:=us) (fun i σ H' =>∃(o4 o5 o6:Option V) (lR:Addr) (ps:List V),σ=[some (.ref lP),some (.ref lB),some (.ref dm),some (.ref lR),o4,o5,o6,none]∧av H H' ∧H' lR=some (.lst ps)∧Paired (dk H') ps (bG (pins.take i))) ⟨none,none,none,l1,[],rfl,s1,e1,.nil⟩ (fun i σ H' _ h=>by
   obtain ⟨_,_,_,_,_,_,s,_⟩:=h
   exact ba.of (s _ _ T.hp)) ?_ ?_⟩
 ·rintro i u σ H2 hu ⟨o4,o5,o6,lR,ps,rfl,s2,hR,pR⟩
  obtain ⟨p,ep,N_⟩:=aA T.pp hu
  have il:=(be.mp ep).1
  obtain ⟨ta,l,sv,ws,rfl,h1,h2,h3,h4⟩:=N_.same s2
  refine ⟨ta,_,rfl,h1,rfl,_,_,rfl,_,_,rfl,_,_,rfl,rfl,?_⟩
  have lps:ps.length≤18:=by
   have h1:=Paired.length pR
   rw [b_,afv] at h1
   omega
  refine ⟨_,rfl,_,rfl,L2,?_⟩
  intro t5 n5;generalize eX:upd _ t5 _=H5;have ⟨s5,e5⟩:=nw n5 eX;clear eX
  refine ⟨_,rfl,L2,?_⟩
  intro t6 n6;generalize eX:upd _ t6 _=H6;have ⟨s6,e6⟩:=nw n6 eX;clear eX
  refine ⟨L2,?_⟩
  intro l7 n7;generalize eX:upd _ l7 _=H7;have ⟨s7,e7⟩:=nw n7 eX;clear eX
  have S':=s5.trans (s6.trans s7)
  refine ⟨lR,l7,_,_,rfl,rfl,S' _ _ hR,e7,(aaj (show ps.length+2≤40 by omega) (by decide)),?_⟩
  intro l8 n8;generalize eX:upd _ l8 _=H8;have ⟨s8,e8⟩:=nw n8 eX;clear eX
  have Xb:=S'.trans s8
  refine ⟨_,_,_,l8,_,rfl,s2.trans Xb,e8,?_⟩
  rw [take_snoc ep,nI]
  have p5:=cO (cO (Paired.bq pR fun _ _ z=>z.same Xb) (show dk H8 (.ref t5) (p.nm,0) from ⟨t5,rfl,(s6.trans (s7.trans s8)) _ _ e5⟩)) (show dk H8 (.ref t6) (p.nm,1) from ⟨t6,rfl,(s7.trans s8) _ _ e6⟩)
  rw [af6,af6] at p5
  exact p5
 rintro σ H2 ⟨o4,o5,o6,lR,ps,rfl,s2,hR,pR⟩
 rw [lu,afC] at pR
 have Ki:=s2 _ _ hm
 have T2:=T.same s2
 refine ⟨_,rfl,dm,kT,rfl,Ki,fun o=> ?_⟩
 have kf:aT dm H2 (upd H2 dm (.cf o (.dT kT))):=aT.upd
 have fz:(upd H2 dm (.cf o (.dT kT))) dm=some (.cf o (.dT kT)):=ak
 have bk:∀H' :Hp,av (upd H2 dm (.cf o (.dT kT))) H' →av H2 (upd H' dm (.dT kT)):=fun H' s' b o' e=>by
  by_cases c:b=dm
  ·rw [c,Ki] at e
   rw [c,ak]
   exact e
  ·rw [ao c]
   exact s' _ _ (kf _ _ c e)
 generalize upd H2 dm (.cf o (.dT kT))=Hf at kf fz bk ⊢
 have Tf:=T2.ks Ki (.inl rfl) kf
 refine yS (d:=dm) (o:=o) (kvs:=kT) (fun i σ H' =>∃(o7:Option V),σ=[some (.ref lP),some (.ref lB),some (.ref dm),some (.ref lR),o4,o5,o6,o7]∧H' =Hf) ⟨none,rfl,rfl⟩ (fun i σ H' _ h=>by
   obtain ⟨_,_,rfl⟩:=h
   exact fz) ?_ ?_
 ·rintro i k x b σ H3 ek hb ⟨o7,rfl,rfl⟩
  obtain ⟨m,em,dM,kM,vT,hM⟩:=aA Tf.mo.pr ek
  obtain ⟨rfl,rfl⟩:=an_ vT
  have gC :bK K H3 b [.str m.1.1,.int (m.1.2:Int)]:=bK.of hb
  refine ⟨_,rfl,b,_,rfl,gC,_,rfl,?_⟩
  refine a_ (fun c=>nomatch c) (fun _=> ?_)
  refine ⟨_,rfl,b,_,rfl,.inr gC,rfl,_,rfl,?_⟩
  refine CH rfl ?_
  refine ⟨_,rfl,b,_,_,_,rfl,rfl,gC,g9,_,_,_,true,rfl,rfl,.int _,S0,_,rfl,?_⟩
  refine a_ (fun c=>nomatch c) (fun _=> ?_)
  refine ⟨_,rfl,b,_,_,_,rfl,rfl,gC,g9,_,_,_,false,rfl,rfl,.int _,S1,_,rfl,?_⟩
  refine a_ (fun c=>nomatch c) (fun _=> ?_)
  exact ⟨_,rfl,rfl⟩
 rintro σ H3 ⟨o7,rfl,rfl⟩
 refine ⟨dm,o,kT,fz,cond,?_⟩
 dsimp only
 have s4:=bk H3 (av.refl _)
 generalize upd H3 dm (.dT kT)=H4 at s4 ⊢
 have BD:=s2.trans s4
 have T4:=T.same BD
 have hm4:=BD _ _ hm
 have ZR:=s4 _ _ hR
 have pR4:Paired (dk H4) ps (bG pins):=Paired.bq pR fun _ _ z=>z.same s4
 have lps:ps.length≤18:=by
  have h1:=Paired.length pR
  rw [b_] at h1
  omega
 refine eG (fun σ' H' =>σ' =[some (.ref lP),some (.ref lB),some (.ref dm),some (.ref lR),o4,o5,o6,o7]∧av H4 H') (fun Nx sG=> ?_) ?_
 ·refine ⟨_,rfl,dm,kT,rfl,.inl hm4,fun l5 Ta n5 pl=> ?_⟩
  have s5:=aI n5 (.lst Ta)
  have e5:(upd H4 l5 (.lst Ta)) l5=some (.lst Ta):=ak
  generalize upd H4 l5 (.lst Ta)=H5 at s5 e5 ⊢
  refine ⟨_,rfl,lR,rfl,⟨_,ba.of (s5 _ _ ZR)⟩,fun D6 n6=> ?_⟩
  refine vx (K:=K) (a:=lR) (cap:=[some (.ref dm)]) (Rl:=dk H5) (fun x=>decide (x∈ms.map (·.1))) (Paired.bq pR4 fun _ _ z=>z.same s5) n6 (afe (show ps.length≤1000 by omega) (by decide)) (fun H6 s6=>ba.of (s6 _ _ (s5 _ _ ZR))) (fun u x H6 R6 hx _ s6 k6=> ?_) (fun u x H6 R6 _ _ r=>⟨_,rfl,r⟩) fun ys H6 py s6 hD=> ?_
  ·obtain ⟨b,rfl,hb⟩:=hx
   have dg:di H6 dm (.ref b) (bO kT [.inr x.1,.inl (x.2:Int)]):=.inr ⟨kT,[.inr x.1,.inl (x.2:Int)],b,.inl (s6 _ _ (s5 _ _ hm4)),rfl,s6 _ _ hb,rfl⟩
   refine ⟨_,rfl,_,rfl,dm,_,rfl,dg,_,rfl,?_⟩
   rw [rV T.mo.pr (fun kv n ⟨_,_,e,_⟩=>by rw [e]) x]
   exact k6 _ (av.refl _)
  rw [FV T.mo.sub (hV T.gp.np) (fun x=>decide_eq_true_iff)] at py
  have i1:Is K H6 (.l ((ms.map (·.1)).map Pk)) (.ref l5):=by
   unfold Is
   refine ⟨l5,Ta,rfl,ba.of (s6 _ _ e5),?_⟩
   refine h7 (R:=fun u (x:Str×Nat)=>∃b,u=.ref b∧H4 b=some (.tup [.str x.1,.int (x.2:Int)])) (fun u x ⟨b,e,hb⟩=>by rw [e];exact jA (bK.of (s6 _ _ (s5 _ _ hb)))) ?_
   refine bN (by rw [aaa, ← lkm];exact Paired.length pl) fun i u x e1 e2=> ?_
   obtain ⟨kv,ek,b,e,hb⟩:=aA pl e1
   obtain ⟨m,em,dM,kM,vT,_⟩:=aA T.mo.pr ek
   rw [Wp,em] at e2
   cases e2
   rw [vT] at hb
   exact ⟨b,e,hb⟩
  have i2:Is K H6 (.l ((ms.map (·.1)).map Pk)) (.ref D6):=by
   unfold Is
   refine ⟨D6,ys,rfl,ba.of hD,?_⟩
   exact h7 (R:=dk H5) (fun u x ⟨b,e,hb⟩=>by rw [e];exact jA (bK.of (s6 _ _ hb))) py
  refine ZM i1 i2 (nZ xZ _) ⟨_,rfl,?_⟩
  refine a_ (fun c=>nomatch c) (fun _=> ?_)
  exact sG _ _ ⟨rfl,s5.trans s6⟩
 rintro σ' H5 ⟨rfl,s5⟩
 have EV:=BD.trans s5
 have T5:=T.same EV
 have Tb:=EV _ _ hm
 have ZS:=s5 _ _ ZR
 have pR5:Paired (dk H5) ps (bG pins):=Paired.bq pR4 fun _ _ z=>z.same s5
 refine ⟨_,rfl,dm,kT,rfl,Tb,fun o8 D8 n8=> ?_⟩
 have kg:aT dm H5 (upd H5 dm (.cf o8 (.dT kT))):=aT.upd
 have gz:(upd H5 dm (.cf o8 (.dT kT))) dm=some (.cf o8 (.dT kT)):=ak
 have bk8:∀H' :Hp,av (upd H5 dm (.cf o8 (.dT kT))) H' →av H5 (upd H' dm (.dT kT)):=fun H' s' b o' e=>by
  by_cases c:b=dm
  ·rw [c,Tb] at e
   rw [c,ak]
   exact e
  ·rw [ao c]
   exact s' _ _ (kg _ _ c e)
 have lRd:lR≠dm:=fun z=>by rw [z,Tb] at ZS;cases ZS
 generalize upd H5 dm (.cf o8 (.dT kT))=Hg at kg gz bk8 n8 ⊢
 have Tg:=T5.ks Tb (.inl rfl) kg
 have pRg:Paired (dk Hg) ps (bG pins):=Paired.bq pR5 fun _ _ z=>z.ks Tb nH kg
 refine mZ (cap:=[some (.ref dm),some (.ref lP),some (.ref lR),some (.ref lB)]) (fun _ v _=>v=.bl true) n8 (afe (show kT.length≤1000 by omega) (by decide)) gz (fun _ _ _ _ _ _ _ h=>h) ?_ ?_
 ·rintro i k y b H9 RR ek hb9 s9 _ kk
  obtain ⟨m,em,dM,kM,vT,hM⟩:=aA Tg.mo.pr ek
  obtain ⟨rfl,rfl⟩:=an_ vT
  refine ⟨_,rfl,_,rfl,_,rfl,_,rfl,_,rfl,?_⟩
  try dsimp only [eI]
  exact ⟨lP,lB,lR,dm,b,us,dN,ps,pins,ar,kT,ms,N,i,m,rfl,Tg.same s9,.inr ⟨o8,s9 _ _ gz⟩,s9 _ _ (kg _ _ lRd ZS),Paired.bq pRg fun _ _ z=>z.same s9,em,hb9,fun H' s' =>kk _ _ s' rfl⟩
 ·intro zs H9 lz hz s9 hD
  have ez:zs=(afh zs.length true).map V.bl:=by
   rw [List.map_replicate]
   exact List.eq_replicate_iff.mpr ⟨rfl,fun v hv=>by
    obtain ⟨i,ei⟩:=aak hv
    exact hz i v ei⟩
  rw [ez] at hD
  refine ⟨D8,_,rfl,ba.of hD,dm,o8,kT,s9 _ _ gz,cond,?_⟩
  have ea:(afh zs.length true).all id=true:=by
   rw [an8]
   intro b hb
   rw [(List.mem_replicate.mp hb).2]
   rfl
  rw [ea]
  exact q _ (EV.trans (bk8 H9 s9))
def ItM (K:Frag)(H:Hp)(M:Str→Rat×Rat)(x:V)(p:aF):Prop:=∃t v,x=.ref t∧H t=some (.tup [.str p.nm,v])∧dZ K H v (M p.nm)
def oP (K:Frag)(H0 H:Hp)(pins:List aF)(v:V)(m:cP):Prop:=∃(a b l:Addr) (xs:List V),v=.ref a∧H a=some (.tup [.ref b,.ref l])∧H b=some (.tup [.str m.1.1,.int (m.1.2:Int)])∧H l=some (.lst xs)∧H0 l=none∧Paired (ItM K H m.2) xs pins
theorem oP.same {H0 H H' :Hp}{pins:List aF}{v:V}{m:cP}(h:oP K H0 H pins v m)(s:av H H'):oP K H0 H' pins v m:=by
 obtain ⟨a,b,l,xs,e,h1,h2,h3,h4,h5⟩:=h
 refine ⟨a,b,l,xs,e,s _ _ h1,s _ _ h2,s _ _ h3,h4,Paired.bq h5 fun _ _ z=> ?_⟩
 obtain ⟨t,w,e,k1,k2⟩:=z
 exact ⟨t,w,e,s _ _ k1,k2.same s⟩
def Tc (pins:List aF)(m:cP):Da:=.t [Pk m.1,.l (pins.map fun p=>.t [.v (.str p.nm),.t (cG (iW (m.2 p.nm)))])]
theorem Kr (pins:List aF)(m:cP):dep (Tc pins m)≤60:=by
 have h:eM (pins.map fun p=>Da.t [.v (.str p.nm),.t (cG (iW (m.2 p.nm)))])≤10:=by
  induction pins with
  | nil=>exact aft _
  | cons p ps ih=>
   show max (dep (Da.t [.v (.str p.nm),.t (cG (iW (m.2 p.nm)))])) (eM (ps.map fun p=>Da.t [.v (.str p.nm),.t (cG (iW (m.2 p.nm)))]))≤10
   have:dep (Da.t [.v (.str p.nm),.t (cG (iW (m.2 p.nm)))])≤10:=by
    show max 0 (max (max (max 0 (max 0 0)+1) (max (max 0 (max 0 0)+1) 0)+1) 0)+1≤10
    decide
   omega
 have hp:=xZ m.1
 show max (dep (Pk m.1)) (max (eM (pins.map fun p=>Da.t [.v (.str p.nm),.t (cG (iW (m.2 p.nm)))])+1) 0)+1≤60
 have hd:dep (Pk m.1)≤1:=by
  show max 0 (max 0 0)+1≤1
  decide
 omega
theorem oP.is {H0 H:Hp}{pins:List aF}{v:V}{m:cP}(h:oP K H0 H pins v m):Is K H (Tc pins m) v:=by
 obtain ⟨a,b,l,xs,rfl,h1,h2,h3,h4,h5⟩:=h
 unfold Tc Is
 refine ⟨a,_,rfl,bK.of h1,?_⟩
 unfold dS
 refine ⟨jA (bK.of h2),?_⟩
 unfold dS
 refine ⟨?_,by unfold dS;trivial⟩
 unfold Is
 refine ⟨l,xs,rfl,ba.of h3,h7 (R:=ItM K H m.2) (fun u p z=> ?_) h5⟩
 obtain ⟨t,w,rfl,k1,k2⟩:=z
 unfold Is
 refine ⟨t,_,rfl,bK.of k1,?_⟩
 unfold dS
 refine ⟨Ol p.nm,?_⟩
 unfold dS
 refine ⟨Spot.is (p:=iW (m.2 p.nm)) k2,?_⟩
 unfold dS
 trivial
inductive v7 (K:Frag)(vs:List V)(H:Hp)(Q:VK)(E_:XK):Prop where
 | mk (dm:Addr) (pins:List aF) (ar:List bB) (kT:List (List Key×V)) (ms:List cP) (N:Nat) (_:vs=[.ref dm]) (_:eQ K H pins ar kT ms N) (_:(pins.map (·.nm)).Nodup) (_:pins.length≤9) (_:H dm=some (.dT kT)) (_:∀(lC:Addr) (zs:List V) (H' :Hp),av H H' →H lC=none→H' lC=some (.lst zs)→Paired (oP K H H' pins) zs ms→Q (.ref lC) H'):v7 K vs H Q E_
theorem uS:aD ["_law_told"] ["_law_told"] (ag dW):=sq
theorem uT (D:Def K mg "_law_copy" dW ["_law_told"])(bL:mg "list"=none):Fn P w K mg base (a8 P w) 1 "_law_copy" ["_law_told"] (v7 K):=by
 refine D.ok uS (fun vs H Q E h=> ?_) (fun f bC A outer s H vs Q E hr h=> ?_)
 ·obtain ⟨dm,pins,ar,kT,ms,N,rfl,_⟩:=h
  rfl
 obtain ⟨dm,pins,ar,kT,ms,N,rfl,mo,np,lpp,hm,q⟩:=h
 have L2:2≤sizeLine:=by decide
 have lkm:kT.length=ms.length:=Paired.length mo.pr
 have lms:=mo.lm
 refine ⟨_,(aj (uk (aG (dX (tn:=["_law_pair"]) (fr:=["_law_told"]) (caps:=[0]) rfl ⟨rfl,by decide+kernel,rfl,by decide+kernel,by decide+kernel,rfl,⟨(by first | exact ab_ rfl | exact afx rfl),trivial⟩,⟨(by first | exact ab_ rfl | exact afx rfl),trivial⟩⟩ (mY (pv 0)) (fun _ _ _ _=>(aE (i:=0) (show (["_law_pair","_law_told"]:List Str).Nodup from by decide+kernel) rfl (ab_ rfl))) (fun _ _ _ _=>fb) (fun _ _ _ _=>(aR (au (pv 0) (au (yP rfl rfl bL (cF (bT hr) (pv 1) (pv 0) (fun _ _=>rfl))) aa)))))))),?_⟩
 refine ⟨_,rfl,dm,kT,rfl,hm,fun o D1 n1=> ?_⟩
 have kf:aT dm H (upd H dm (.cf o (.dT kT))):=aT.upd
 have fz:(upd H dm (.cf o (.dT kT))) dm=some (.cf o (.dT kT)):=ak
 have bk:∀H' :Hp,av (upd H dm (.cf o (.dT kT))) H' →av H (upd H' dm (.dT kT)):=fun H' s' b o' e=>by
  by_cases c:b=dm
  ·rw [c,hm] at e
   rw [c,ak]
   exact e
  ·rw [ao c]
   exact s' _ _ (kf _ _ c e)
 have nb:∀{b:Addr},(upd H dm (.cf o (.dT kT))) b=none→H b=none:=fun {b} n=>by
  cases hq:H b with
  | none=>rfl
  | some u=>
   by_cases c:b=dm
   ·rw [c,ak] at n
    cases n
   ·rw [ao c,hq] at n
    cases n
 generalize upd H dm (.cf o (.dT kT))=Hf at kf fz bk nb n1 ⊢
 have pf:Paired (oK K Hf pins N) kT ms:=Paired.bq mo.pr fun _ _ z=>z.ks hm nH (fun _ z=>nomatch z) kf
 refine mZ (cap:=[some (.ref dm)]) (fun i v H' =>∀m,ms[i]? =some m→oP K H H' pins v m∧∀a b l,v=.ref a→H' a=some (.tup [.ref b,.ref l])→l≠D1) n1 (afe (show kT.length≤1000 by omega) (by decide)) fz ?_ ?_ ?_
 ·intro i v H1 H2 ys hD Om h m em
  obtain ⟨⟨a,b,l,xs,e,h1,h2,h3,h4,h5⟩,hl⟩:=h m em
  have nl:=hl a b l e h1
  have nt:∀{c:Addr} {zs:List V},H1 c=some (.tup zs)→c≠D1:=fun {c zs} z y=>by
   rw [y,hD] at z
   cases z
  have t12:bh H1 H2:=fun c zs r=>by
   rcases r with r | ⟨o',r⟩
   ·exact .inl (Om _ _ (nt r) r)
   ·exact .inr ⟨o',Om _ _ (fun y=>by rw [y,hD] at r;cases r) r⟩
  refine ⟨⟨a,b,l,xs,e,Om _ _ (nt h1) h1,Om _ _ (nt h2) h2,Om _ _ nl h3,h4,Paired.bq h5 fun _ _ z=> ?_⟩,fun a' b' l' e' h' => ?_⟩
  ·obtain ⟨t,w,e,k1,k2⟩:=z
   exact ⟨t,w,e,Om _ _ (nt k1) k1,k2.aS t12⟩
  ·rw [e] at e'
   cases e'
   rw [Om _ _ (nt h1) h1] at h'
   cases h'
   exact nl
 ·rintro i k y b H1 RR ek Lu s1 ⟨zs1,Y6⟩ kk
  obtain ⟨m,em,dM,kM,vT,hM⟩:=aA pf ek
  obtain ⟨rfl,rfl⟩:=an_ vT
  have R8:=hM.same s1
  have dg:di H1 dm (.ref b) (some (.ref dM)):=by
   have:=di.tR (s1 _ _ fz) Lu
   rw [mV mo.nk ek] at this
   exact this
  refine ⟨_,rfl,_,rfl,_,rfl,dm,_,rfl,dg,dM,kM,rfl,R8.hM,fun l xs H2 s2 nl el pl=>⟨L2,?_⟩⟩
  intro a3 n3;generalize eX:upd _ a3 _=H3;have ⟨s3,e3⟩:=nw n3 eX;clear eX
  have lD:l≠D1:=fun z=>by rw [z,Y6] at nl;cases nl
  refine kk _ _ (s2.trans s3) fun m' em' => ?_
  rw [em] at em'
  cases em'
  refine ⟨⟨a3,b,l,xs,rfl,e3,(s2.trans s3) _ _ Lu,s3 _ _ el,nb (s1.free nl),?_⟩,fun a' b' l' e' h' => ?_⟩
  ·have lk:=congrArg afH hM.keys
   rw [aaa,aaa] at lk
   refine bN (by rw [Paired.length pl];exact lk) fun j x p e1 e2=> ?_
   obtain ⟨kv,uw,t,ex,ht⟩:=aA pl e1
   have kj:(kM.map (·.1))[j]? =some (af1 p.nm:Key):=by rw [hM.keys,Wp,e2];rfl
   rw [Wp,uw] at kj
   have k1:kv.1=.inr p.nm:=aff kj
   have nk:(kM.map (·.1)).Nodup:=by
    rw [hM.keys]
    have:(pins.map fun p=>(af1 p.nm:Key))=(pins.map (·.nm)).map af1:=by rw [afj];rfl
    rw [this]
    exact List.Pairwise.map _ (fun a b n z=>n (by injection z)) np
   have v1:=jo nk (show kM[j]? =some (.inr p.nm,kv.2) by rw [uw, ← k1])
   obtain ⟨tt,w1,w2,hv,ht2,m1,m2⟩:=R8.tM p (ir e2)
   rw [v1] at hv
   have Ja :kv.2=.ref tt:=aff hv
   rw [k1] at ht
   have vJ:=s2.trans s3
   refine ⟨t,kv.2,ex,s3 _ _ ht,?_⟩
   rw [Ja]
   exact ⟨tt,w1,w2,rfl,bK.of (vJ _ _ ht2),m1.same vJ,m2.same vJ⟩
  ·cases e'
   rw [e3] at h'
   cases h'
   exact lD
 ·intro zs H1 lz hz s1 hD
  refine ⟨dm,o,kT,s1 _ _ fz,fun o' u' z=>(by have z' :H dm=some (.cf o' u'):=z;rw [hm] at z';cases z'),?_⟩
  have nD:D1≠dm:=fun z=>by rw [z,fz] at n1;cases n1
  have kt:aT dm H1 (upd H1 dm (.dT kT)):=aT.upd
  have t1:=cM (s1 _ _ fz) FD kt
  have nt:∀{c:Addr} {ys:List V},H1 c=some (.tup ys)→c≠dm:=fun {c ys} z y=>by
   rw [y,s1 _ _ fz] at z
   cases z
  refine q D1 zs _ (bk H1 s1) (nb n1) (kt _ _ nD hD) (bN (by omega) fun i v m e1 e2=> ?_)
  obtain ⟨a,b,l,xs,e,h1,h2,h3,h4,h5⟩:=(hz i v e1 m e2).1
  refine ⟨a,b,l,xs,e,kt _ _ (nt h1) h1,kt _ _ (nt h2) h2,kt _ _ (fun z=>by rw [z,s1 _ _ fz] at h3;cases h3) h3,h4,Paired.bq h5 fun _ _ z=> ?_⟩
  obtain ⟨t,w,e,k1,k2⟩:=z
  exact ⟨t,w,e,kt _ _ (nt k1) k1,k2.aS t1⟩
theorem Ks {H:Hp}{pins:List aF}{ar:List bB}{kT:List (List Key×V)}{ms:List cP}{N:Nat}(h:eQ K H pins ar kT ms N)(np:(pins.map (·.nm)).Nodup){p:aF}(hp:p∈pins)(hw:p.ws=[])(hb:∀b∈ar,b.one.nm≠p.nm∧b.other.nm≠p.nm){k:Nat}(hk:k≤1):(p.nm,k)∈ms.map (·.1):=by
 apply afw
 intro no
 let M:Str→Rat×Rat:=fun x=>if x=p.nm then (if k=0 then (1,0) else (0,1)) else (0,0)
 have mz:∀x,x≠p.nm→M x=(0,0):=fun x n=>if_neg n
 have mo:jY pins ar M:=⟨fun q hq w O_ =>by
  by_cases c:q.nm=p.nm
  ·have:=Nv (nm:=aF.nm) np hq hp c
   rw [this,hw] at O_
   cases O_
  ·rw [mz _ c]
   unfold dt
   grind,fun b gC =>by
  obtain ⟨n1,n2⟩:=hb b gC
  unfold EY
  rw [mz _ n1,mz _ n2]
  unfold dt
  grind⟩
 have key:=h.only M mo p hp
 have z:∀m∈ms,qv m.1.2 (M m.1.1)=0:=fun m hm=>by
  by_cases c:m.1.1=p.nm
  ·have n2:m.1.2≠k:=fun e=>no (aah.mpr ⟨m,hm,agj c e⟩)
   have i2:=(h.WQ m hm).2
   have e:M m.1.1=(if k=0 then (1,0) else (0,1)):=if_pos c
   rw [e]
   unfold qv
   by_cases k0:k=0
   ·rw [if_neg (show ¬ m.1.2=0 by omega),if_pos k0]
   ·rw [if_pos (show m.1.2=0 by omega),if_neg k0]
  ·rw [mz _ c]
   unfold qv
   split <;> rfl
 have s0:∀(f:cP→Rat),(ms.map fun m=>qv m.1.2 (M m.1.1)*f m).sum=0:=fun f=>by
  have e:(ms.map fun m=>qv m.1.2 (M m.1.1)*f m)=ms.map fun _=>(0:Rat):=agg fun m hm=>by
   rw [z m hm]
   grind
  rw [e]
  have:∀l:List cP,(l.map fun _=>(0:Rat)).sum=0:=fun l=>by
   induction l with
   | nil=>rfl
   | cons a l ih=>rw [ac_,aga,ih];grind
  exact this ms
 rw [s0 fun m=>(m.2 p.nm).1,s0 fun m=>(m.2 p.nm).2] at key
 have e:M p.nm=(if k=0 then (1,0) else (0,1)):=if_pos rfl
 rw [e] at key
 by_cases k0:k=0
 ·rw [if_pos k0] at key
  exact absurd (congrArg anG key) (by decide)
 ·rw [if_neg k0] at key
  exact absurd (congrArg anH key) (by decide)
structure uU (K:Frag)(H0 H:Hp)(dm lC:Addr)(kT:List (List Key×V))(ms:List cP)(zs:List V)(pins:List aF)(ar:List bB)(N:Nat):Prop where
 mo:eQ K H pins ar kT ms N
 fr:∀kv∈kT,∃dM,kv.2=.ref dM∧H0 dM=none
 hm:H dm=some (.dT kT)
 nm:H0 dm=none
 hC:H lC=some (.lst zs)
 nC:H0 lC=none
 pc:Paired (oP K H0 H pins) zs ms
theorem uU.same {H0 H H' :Hp}{dm lC:Addr}{kT:List (List Key×V)}{ms:List cP}{zs:List V}{pins:List aF}{ar:List bB}{N:Nat}(h:uU K H0 H dm lC kT ms zs pins ar N)(s:av H H'):uU K H0 H' dm lC kT ms zs pins ar N:=
 ⟨h.mo.same s,h.fr,s _ _ h.hm,h.nm,s _ _ h.hC,h.nC,Paired.bq h.pc fun _ _ z=>z.same s⟩
theorem uU.ko {H0 H H' :Hp}{dm lC:Addr}{kT:List (List Key×V)}{ms:List cP}{zs:List V}{pins:List aF}{ar:List bB}{N:Nat}(h:uU K H0 H dm lC kT ms zs pins ar N){C fA dx pP pW pB lP lB:Addr}{us vs us0 vs0:List V}{wC Td:List aF}{Te Th:List bB}(N5:WS K H0 C fA dx pP pW pB lP lB us0 vs0 Td Th)(st:WS K H C fA dx pP pW pB lP lB us vs wC Te)(k:KO pP pW pB lP lB H H'):uU K H0 H' dm lC kT ms zs pins ar N:=by
 have t:=st.t k
 have tp:∀{b:Addr} {xs:List V},H b=some (.tup xs)→H' b=some (.tup xs):=fun {b xs} e=>k.at (st.away e (fun _ z=>nomatch z) fun _ z=>nomatch z) e
 refine ⟨⟨bN (Paired.length h.mo.pr) fun i kv m e1 e2=> ?_,h.mo.nk,h.mo.mo,h.mo.WQ,h.mo.lm,h.mo.sub,h.mo.WR,h.mo.ones,h.mo.only⟩,h.fr,k.at (N5.fresh h.nm) h.hm,h.nm,k.at (N5.fresh h.nC) h.hC,h.nC,Paired.bq h.pc fun _ _ z=> ?_⟩
 ·obtain ⟨m',em,dM,kM,vT,hM⟩:=aA h.mo.pr e1
  rw [e2] at em
  cases em
  obtain ⟨LA,ed,nd⟩:=h.fr kv (ir e1)
  rw [vT] at ed
  have ed' :dM=LA :=by injection ed
  refine ⟨dM,kM,vT,k.at (N5.fresh (by rw [ed'];exact nd)) hM.hM,hM.keys,fun p hp=> ?_,hM.zb,hM.hN⟩
  obtain ⟨tt,v1,v2,a,b,c,d⟩:=hM.tM p hp
  exact ⟨tt,v1,v2,a,tp b,c.aS t,d.aS t⟩
 ·obtain ⟨a,b,l,xs,e,h1,h2,h3,h4,h5⟩:=z
  refine ⟨a,b,l,xs,e,tp h1,tp h2,k.at (N5.fresh h4) h3,h4,Paired.bq h5 fun _ _ z=> ?_⟩
  obtain ⟨tt,w,e,k1,k2⟩:=z
  exact ⟨tt,w,e,tp k1,k2.aS t⟩
theorem WS.Ti {H:Hp}{C fA dx pP pW pB lP lB dm:Addr}{us vs:List V}{pins:List aF}{ar:List bB}{kT:List (List Key×V)}{ms:List cP}(st:WS K H C fA dx pP pW pB lP lB us vs pins ar)(mo:eQ K H pins ar kT ms 33000):Kp K H lP lB dm us vs pins ar kT ms 33000:=
 ⟨st.hp,st.pr,st.gp,st.hb,st.pb,by have:=st.lp;omega,by have:=st.lb;omega,mo,by decide⟩
theorem eA.un {pins:List aF}(g:eA pins){k:Nat}{p:aF}(e:pins[k]? =some p):p.nm∉(pins.eraseIdx k).map (·.nm)∧p.sp∉(pins.eraseIdx k).map (·.sp):=by
 have hk:=(be.mp e).1
 have at' :∀q∈pins.eraseIdx k,∃i,i≠k∧pins[i]? =some q:=fun q hq=>by
  obtain ⟨j,ej⟩:=aak hq
  rw [afT] at ej
  by_cases c:j < k
  ·rw [if_pos c] at ej
   exact ⟨j,by omega,ej⟩
  ·rw [if_neg c] at ej
   exact ⟨j+1,by omega,ej⟩
 refine ⟨fun z=> ?_,fun z=> ?_⟩
 ·obtain ⟨q,hq,en⟩:=aah.mp z
  obtain ⟨i,ni,ei⟩:=at' q hq
  have e1:(pins.map (·.nm))[i]? =some p.nm:=by rw [Wp,ei, ← en];rfl
  have e2:(pins.map (·.nm))[k]? =some p.nm:=by rw [Wp,e];rfl
  exact ni (cH g.np e1 e2)
 ·obtain ⟨q,hq,en⟩:=aah.mp z
  obtain ⟨i,ni,ei⟩:=at' q hq
  have e1:(pins.map (·.sp))[i]? =some p.sp:=by rw [Wp,ei, ← en];rfl
  have e2:(pins.map (·.sp))[k]? =some p.sp:=by rw [Wp,e];rfl
  exact ni (cH g.ns e1 e2)
theorem fE:aD ["_law_script","_law_pins_here","_law_bars_here","_law_frame_here","_law_first","_law_kept","_law_motion","_law_place","_law_told","_law_gone"] ["_law_script"] (ag jk):=sq
theorem Oo {f:Addr}{fd:FuncData}{C:Addr}(F:mj K "law" "law" jk f fd)(bL:mg "list"=none)
  (nL:Fn P w K mg base (a8 P w) 1 "_law_cell_at" ["_law_script","_law_k"] (nJ K)) (dc:Fn P w K mg base (a8 P w) 1 "_law_field" ["_law_cell","_law_prime","_law_many"] d3)
  (ZT:Fn P w K mg base (a8 P w) 35 "_law_pins" ["_law_script"] (rN K)) (ZU:Fn P w K mg base (a8 P w) 3 "_law_bars" ["_law_script","_law_pins_here"] (rQ K)) (ZV:Fn P w K mg base (a8 P w) 4 "_law_frame" ["_law_pins_here","_law_bars_here"] (nN K C))
  (cY:Fn P w K mg base (a8 P w) 39 "motions_of" ["F"] (vR K C)) (FX:Fn P w K mg base (a8 P w) 37 "_law_right" ["_law_pins_here","_law_bars_here","_law_told"] (rW K)) (oa:Fn P w K mg base (a8 P w) 1 "_law_copy" ["_law_told"] (v7 K))
  (Kh:mS P w K mg base (a8 P w) 3 C "put_pin" ["self","name","x","y","hold"] [.none] (b9 P w K mg base C))
  (oQ:Fn P w K mg base (a8 P w) 3 "_law_pin_out" ["_law_frame_here","_law_pins_here","_law_bars_here","_law_cell"] (FR K C)) (rX:Fn P w K mg base (a8 P w) 35 "_law_pin_in" ["_law_frame_here","_law_pins_here","_law_gone","_law_cell"] (Oj K C)):
  cv P w K mg base (a8 P w) 42 f fd ["_law_script"] (CM K):=by
 refine F.okG fE (fun vs H Q E h=> ?_) (fun bC A outer s H vs Q E hr h=> ?_)
 ·obtain ⟨a,ns,rfl,_⟩:=h
  rfl
 obtain ⟨sA,ns,rfl,hS,hn,hb,q⟩:=h
 have L2:2≤sizeLine:=by decide
 have L3:3≤sizeLine:=by decide
 refine ⟨_,(ae (aH (i:=1) fE.nd rfl (ab_ rfl) (aC ZT hr.mo (pY P w) (au (pv 0) aa)))
  (ae (aH (i:=2) fE.nd rfl (ab_ rfl) (aC ZU hr.mo (pY P w) (au (pv 0) (au (pv 1) aa))))
  (ae (aH (i:=3) fE.nd rfl (ab_ rfl) (aC ZV hr.mo (pY P w) (au (pv 1) (au (pv 2) aa))))
  (ae (aH (i:=4) fE.nd rfl (ab_ rfl) (aC cY hr.mo (pY P w) (au (pv 3) aa)))
  (ae (bf (c7 (cn (aC FX hr.mo (pY P w) (au (pv 1) (au (pv 2) (au (pv 4) aa)))))) (aj (aG cI)) aJ)
  (ae (aH (i:=5) fE.nd rfl (ab_ rfl) (aC oa hr.mo (pY P w) (au (pv 4) aa)))
  (ae (bF PassesOwn.never rfl (bw (yW rfl rfl bL (aC cY hr.mo (pY P w) (au (pv 3) aa)))) (aE (i:=6) fE.nd rfl (ab_ rfl)) (aj (bg (yQ (pv 6)))))
  (ae (bf (c7 (cn (aC FX hr.mo (pY P w) (au (pv 1) (au (pv 2) (au (aC cY hr.mo (pY P w) (au (pv 3) aa)) aa)))))) (aj (aG cI)) aJ)
  (ae (aH (i:=7) fE.nd rfl (ab_ rfl) (aR (au (aR (au ah (au ah aa))) (au (aR (au (aC dc hr.mo (pY P w) (au (aC nL hr.mo (pY P w) (au (pv 0) (au ah aa))) (au ah (au ah aa)))) (au ah aa))) aa))))
  (ae (bg (q_ (k:=3) (pv 3) hr.mo (pY P w) (au ft (au (aK (pv 7)) (au (aK (pv 7)) aa)))))
  (ae (bg (i7 PySem.F.plainAttrs_list PySem.F.slot_list_append PySem.F.type_list_append dz (pv 1) (au (aR (au ft (au (pv 7) (au (cu aa) aa)))) aa)))
  (ae (aH (i:=8) fE.nd rfl (ab_ rfl) (aC cY hr.mo (pY P w) (au (pv 3) aa)))
  (ae (bf (PW.pt (gF (c7 (cn (aC FX hr.mo (pY P w) (au (pv 1) (au (pv 2) (au (pv 8) aa)))))) (gF (f9 (fS (bT hr) (aR (au ft (au ah aa))) (pv 8))) (fu (f9 (fS (bT hr) (aR (au ft (au ah aa))) (pv 8))))))) (aj (aG cI)) aJ)
  (ae (aH (i:=9) fE.nd rfl (ab_ rfl) (aC oQ hr.mo (pY P w) (au (pv 3) (au (pv 1) (au (pv 2) (au (aC nL hr.mo (pY P w) (au (pv 0) (au ah aa))) aa))))))
  (ae (bf (c7 (cn (aC FX hr.mo (pY P w) (au (pv 1) (au (pv 2) (au (aC cY hr.mo (pY P w) (au (pv 3) aa)) aa)))))) (aj (aG cI)) aJ)
  (ae (bg (aC rX hr.mo (pY P w) (au (pv 3) (au (pv 1) (au (pv 9) (au (aC nL hr.mo (pY P w) (au (pv 0) (au ah aa))) aa))))))
  (aj (aG (BK (aC FX hr.mo (pY P w) (au (pv 1) (au (pv 2) (au (aC cY hr.mo (pY P w) (au (pv 3) aa)) aa)))) (BJ (gX (i_ hr.units) (aC oa hr.mo (pY P w) (au (pv 4) aa)) (pv 5) (aV _)))))))))))))))))))))),?_⟩
 refine ⟨_,rfl,sA,ns,rfl,hS,fun lP us pins H1 s1 nP eP pp gp lp pn=> ?_⟩
 have lu:us.length=pins.length:=Paired.length pp
 refine ⟨_,rfl,_,rfl,sA,lP,ns,us,pins,rfl,s1.seq hS,eP,lu,gp.np,by omega,fun lB vs ar H2 s2 nB eB pb gb lb=> ?_⟩
 have ZW:Paired (gw K H2) us pins:=Paired.bq pp fun _ _ z=>z.r.same s2
 have ZX:=s2 _ _ eP
 refine ⟨_,rfl,_,rfl,lP,lB,us,vs,pins,ar,rfl,ZX,ZW,eB,pb,gp,gb,by omega,by omega,fun fA dx pP pW pB kP kW kB H3 s3 R3 W3 nwq nP3 nW3 nB3=> ?_⟩
 have S8:=s1.trans (s2.trans s3)
 have OV:lP≠lB:=fun z=>by rw [← z,eP] at nB;cases nB
 have sN:WS K H3 C fA dx pP pW pB lP lB us vs pins ar:=⟨⟨kP,kW,kB,R3,W3,fun kv h=>⟨nwq kv h _ _ ZX,nwq kv h _ _ eB⟩⟩,s3 _ _ ZX,Paired.bq pp fun u p z=>by
  obtain ⟨a,l,sv,xs,e,h1,h2,h3,h4,h5⟩:=z
  have vJ:=s2.trans s3
  exact ⟨a,l,sv,xs,e,Ty.av.cy vJ h1,h2.same vJ,vJ _ _ h3,h4.same vJ,h5,fun y=>by rw [y,nB] at h3;cases h3⟩,s3 _ _ eB,Paired.bq pb fun _ _ z=>z.same s3,gp,gb,by omega,by omega,OV⟩
 refine ⟨_,rfl,fA,pins,ar,rfl,sN.fa,sN.g,fun dm kT ms H4 s4 nm4 ZY ZZ fr4=> ?_⟩
 have Jq:=sN.same s4
 refine ⟨_,rfl,_,rfl,_,rfl,lP,lB,dm,us,vs,pins,ar,kT,ms,33000,rfl,Jq.Ti ZZ,ZY,fun H5 s5=>⟨_,rfl,?_⟩⟩
 refine a_ (fun c=>nomatch c) (fun _=> ?_)
 have Z0:=s4.trans s5
 refine ⟨_,rfl,dm,pins,ar,kT,ms,33000,rfl,ZZ.same s5,gp.np,by omega,s5 _ _ ZY,fun lC zs H6 s6 nC eC pc=> ?_⟩
 have kp6:uU K H3 H6 dm lC kT ms zs pins ar 33000:=⟨ZZ.same (s5.trans s6),fr4,(s5.trans s6) _ _ ZY,nm4,eC,Z0.free nC,Paired.bq pc fun _ _ z=>by
  obtain ⟨a,b,l,xs,e,h1,h2,h3,h4,h5⟩:=z
  exact ⟨a,b,l,xs,e,h1,h2,h3,Z0.free h4,h5⟩⟩
 have Og:=Z0.trans s6
 have Z1:=sN.same Og
 refine ⟨_,rfl,fA,pins,ar,rfl,Z1.fa,Z1.g,fun dm2 LO ms2 H7 s7 nd7 ed7 mo7 Jr=>⟨dm2,LO,rfl,ed7,fun lV nV=> ?_⟩⟩
 have tV:=aI nV (.lst (LO.map fun kv=>kv.2))
 have eV:(upd H7 lV (.lst (LO.map fun kv=>kv.2))) lV=some (.lst (LO.map fun kv=>kv.2)):=ak
 generalize upd H7 lV (.lst (LO.map fun kv=>kv.2))=H8 at tV eV ⊢
 refine ⟨lV,rfl,⟨_,ba.of eV⟩,bM (K:=K) (a:=lV) (xs:=LO.map fun kv=>kv.2) (fun i σ H' =>∃(o6:Option V),σ=[some (.ref sA),some (.ref lP),some (.ref lB),some (.ref fA),some (.ref dm),some (.ref lC),o6,none,none,none]∧av H6 H' ∧H' lV=some (.lst (LO.map fun kv=>kv.2))∧∀kv∈LO,∃dM kM,kv.2=.ref dM∧H6 dM=none∧H' dM=some (.dK kM)) ⟨none,rfl,s7.trans tV,eV,fun kv u3=> ?_⟩ (fun i σ H' _ h=>by
   obtain ⟨_,_,_,h,_⟩:=h
   exact ba.of h) ?_ ?_⟩
 ·obtain ⟨dM,e,n⟩:=Jr kv u3
  obtain ⟨i,ei⟩:=aak u3
  obtain ⟨m,em,LA,kM,vT,hM⟩:=aA mo7.pr ei
  rw [vT] at e
  have e' :LA =dM:=by injection e
  exact ⟨dM,kM,by rw [vT,e'],n,tV _ _ (by rw [← e'];exact hM.hM)⟩
 ·rintro i u σ H9 hu ⟨o6,rfl,s9,v9,d9⟩
  rw [Wp] at hu
  obtain ⟨kv,ek,rfl⟩:=ae9.mp hu
  obtain ⟨dM,kM,e,n,hd⟩:=d9 kv (ir ek)
  rw [e]
  refine ⟨_,rfl,dM,kM,rfl,hd,?_⟩
  refine ⟨_,rfl,fun b o z=> ?_,?_,fun Lq Z2 => ?_⟩
  ·rw [ao (aq z n)]
   exact s9 _ _ z
  ·rw [ao (fun z=>by rw [z,hd] at v9;cases v9)]
   exact v9
  ·obtain ⟨LA,WW,e',n',yi⟩:=d9 Lq Z2
   by_cases c:LA =dM
   ·exact ⟨LA,[],e',n',by rw [c,ak]⟩
   ·exact ⟨LA,WW,e',n',by rw [ao c];exact yi⟩
 rintro σ H9 ⟨o6,rfl,Pf,_,_⟩
 have Xc:=Z1.same Pf
 have kp9:=kp6.same Pf
 have s09:=(S8.trans Og).trans Pf
 refine ⟨_,rfl,_,rfl,_,rfl,fA,pins,ar,rfl,Xc.fa,Xc.g,fun dm3 kT3 ms3 Wv OY _ Z3 Z4 _=> ?_⟩
 try dsimp only [eI]
 refine ⟨lP,lB,dm3,us,vs,pins,ar,kT3,ms3,33000,rfl,(Xc.same OY).Ti Z4,Z3,fun Ww X9=>⟨_,rfl,?_⟩⟩
 refine a_ (fun c=>nomatch c) (fun _=> ?_)
 have Oq:=OY.trans X9
 have Z5:=Xc.same Oq
 have Z6:=kp9.same Oq
 have Tj:=s09.trans Oq
 have i2:=aY (c:=cell ns 2) (p:=1009) (m:=99) (by decide)
 refine ⟨L2,?_⟩
 intro Z7 n12;generalize eX:upd _ Z7 _=H12;have ⟨A_,e12⟩:=nw n12 eX;clear eX
 refine ⟨_,rfl,sA,ns,2,rfl,(Tj.trans A_).seq hS,by decide,by decide,_,_,_,rfl,by decide,by decide,by decide,L2,?_⟩
 intro Z8 n13;generalize eX:upd _ Z8 _=H13;have ⟨vJ,e13⟩:=nw n13 eX;clear eX
 refine ⟨L2,?_⟩
 intro Kt n14;generalize eX:upd _ Kt _=Tn;have ⟨Z9,e14⟩:=nw n14 eX;clear eX
 generalize field (cell ns 2) 1009 99=fv at i2 e13
 have FY:=A_.trans (vJ.trans Z9)
 have ig:=Z5.same FY
 have Z_:=Z6.same FY
 obtain ⟨kP4,kW4,kB4,R4,W4,nW4⟩:=ig.fr
 have To:=bK.of (K:=K) e14
 have HP:gA K Tn (.ref Z7) ((1000001:Int):Rat):=(iS _ e12).same (vJ.trans Z9)
 have yn:gA K Tn (.ref Z8) ((fv:Int):Rat):=(iS _ e13).same Z9
 have S9:dZ K Tn (.ref Kt) (((1000001:Int):Rat),((fv:Int):Rat)):=iB e14 HP yn
 have LP:("free":Str)∉pins.map (·.nm):=fun z=>by
  obtain ⟨p,hp,e⟩:=aah.mp z
  exact (pn p hp).1.1 e
 have LQ:(((1000001:Int):Rat),((fv:Int):Rat))∉pins.map (·.sp):=fun z=>by
  obtain ⟨p,hp,e⟩:=aah.mp z
  have h1:=(pn p hp).2.1
  rw [e] at h1
  have h2:((1000001:Int):Rat)≤500010:=h1
  exact absurd h2 (by decide+kernel)
 refine ⟨_,rfl,fA,C,dx,_,_,_,rfl,R4.obj,rfl,Kh,_,rfl,Kt,_,_,_,rfl,rfl,To,iy,_,rfl,Kt,_,_,_,rfl,rfl,To,g9,?_⟩
 dsimp only [eI]
 refine ⟨fA,dx,pP,pW,pB,_,_,kP4,kW4,kB4,_,"free",.ref Z7,.ref Z8,.cb,iW (((1000001:Int):Rat),((fv:Int):Rat)),[],rfl,R4,W4,by rw [afj,afj];rfl,HP,yn,fun z=>LP (by rw [afj] at z;exact z),fun z hz e=> ?_,by rw [aaa];omega,.inl ⟨rfl,rfl⟩,fun Z' kP5 kW5 Xd R5 W5 nl5=> ?_⟩
 ·obtain ⟨p',nh,e'⟩:=aah.mp hz
  rw [← e'] at e
  exact LQ (aah.mpr ⟨p',nh,agj (ff (congrArg anG e)) (ff (congrArg anH e))⟩)
 have Oh :pP≠lP:=fun z=>by have h:=R4.pl;rw [z,ig.hp] at h;cases h
 have LK:pW≠lP:=fun z=>by have h:=R4.wy;rw [z,ig.hp] at h;cases h
 have ZG :pB≠lP:=fun z=>by have h:=R4.br;rw [z,ig.hp] at h;cases h
 have nPB:pP≠lB:=fun z=>by have h:=R4.pl;rw [z,ig.hb] at h;cases h
 have nWB:pW≠lB:=fun z=>by have h:=R4.wy;rw [z,ig.hb] at h;cases h
 have v8:=Xd _ _ (afk Oh) (afk LK) ig.hp
 have Tp:=Xd _ _ (afk nPB) (afk nWB) ig.hb
 have agx:∀{b:Addr} {xs:List V},Tn b=some (.tup xs)→Z' b=some (.tup xs):=fun {b xs} e=>by
  obtain ⟨a1,a2,_⟩:=ig.away e (fun _ z=>nomatch z) fun _ z=>nomatch z
  exact Xd _ _ a1 a2 e
 refine ⟨_,rfl,.inl ⟨rfl,_,ba.of v8⟩,_,rfl,(by show 0≤sizeLine;decide),?_⟩
 intro Pl Tq;generalize eX:upd _ Pl _=H16;have ⟨RH,e16⟩:=nw Tq eX;clear eX
 refine ⟨L3,?_⟩
 intro BG n17;generalize eX:upd _ BG _=Pm;have ⟨s17,e17⟩:=nw n17 eX;clear eX
 have FZ:=RH.trans s17
 have aab:=FZ _ _ v8
 refine ⟨lP,_,_,rfl,rfl,aab,(by rw [lu];exact afe (show pins.length≤1000 by omega) (by decide)),?_⟩
 have Tr:KO pP pW pB lP lB Tn (upd Pm lP (.lst (us++[.ref BG]))):=fun b o m1 m2 m3 m4 m5 e=>by rw [ao m4];exact FZ _ _ (Xd b o m1 m2 e)
 have ot:∀b o,b≠lP→Z' b=some o→(upd Pm lP (.lst (us++[.ref BG]))) b=some o:=fun b o n e=>by rw [ao n];exact FZ _ _ e
 have Ts:(upd Pm lP (.lst (us++[.ref BG]))) lP=some (.lst (us++[.ref BG])):=ak
 have aac:BG≠lP:=fun z=>by rw [z,RH _ _ v8] at n17;cases n17
 have Tt:Pl≠lP:=fun z=>by rw [z,v8] at Tq;cases Tq
 have Tu :Pl≠lB:=fun z=>by rw [z,Tp] at Tq;cases Tq
 have Tv :(upd Pm lP (.lst (us++[.ref BG]))) BG=some (.tup [.str "free",.ref Kt,.ref Pl]):=by rw [ao aac];exact e17
 have Tw :(upd Pm lP (.lst (us++[.ref BG]))) Pl=some (.lst []):=by rw [ao Tt];exact s17 _ _ e16
 generalize upd Pm lP (.lst (us++[.ref BG]))=Xe at Tr ot Ts Tv Tw ⊢
 have t18:=ig.t Tr
 have LR:bh Z' Xe:=fun b xs r=>by
  rcases r with r | ⟨o',r⟩
  ·exact .inl (ot _ _ (fun z=>by rw [z,v8] at r;cases r) r)
  ·exact .inr ⟨o',ot _ _ (fun z=>by rw [z,v8] at r;cases r) r⟩
 obtain ⟨l9,ekw,n9⟩:=nl5
 have nwk:∀kv∈kW5,kv.2≠.ref lP∧kv.2≠.ref lB:=fun kv u3=>by
  rw [ekw] at u3
  rcases afg.mp u3 with h | h
  ·exact nW4 kv h
  ·rw [ae_.mp h]
   refine ⟨fun z=> ?_,fun z=> ?_⟩
   ·injection z with z
    rw [z,ig.hp] at n9
    cases n9
   ·injection z with z
    rw [z,ig.hb] at n9
    cases n9
 have F_:WS K Xe C fA dx pP pW pB lP lB (us++[.ref BG]) vs (pins++[⟨"free",(((1000001:Int):Rat),((fv:Int):Rat)),[]⟩]) ar:=by
  refine ⟨⟨kP5,kW5,kB4,?_,?_,nwk⟩,Ts,eE (Paired.bq ig.pp fun _ _ z=>ig.FQ Tr z) ⟨BG,Pl,.ref Kt,[],rfl,bK.of Tv,S9.aS t18,Tw,.nil,Tt,Tu⟩,ot _ _ (afk OV) Tp,Paired.bq ig.pb fun u b z=> ?_,gp.snoc LP LQ ⟨gf (by decide) (by decide),gf (afc (show _ < 128 by omega) (by decide)) (by decide)⟩ (.inl rfl),⟨gb.nb,fun b hb=> ?_⟩,by rw [afi];simp;omega,by omega,OV⟩
  ·rw [show LJ (pins++[⟨"free",(((1000001:Int):Rat),((fv:Int):Rat)),[]⟩])=LJ pins++[(("free":Str),iW (((1000001:Int):Rat),((fv:Int):Rat)))] from afq]
   exact R5.cM LR ((ot _ _ (fun z=>by have h:=R5.obj;rw [z,v8] at h;cases h) R5.obj).trans R5.obj.symm) ((ot _ _ Oh R5.pl).trans R5.pl.symm) ((ot _ _ LK R5.wy).trans R5.wy.symm) ((ot _ _ ZG R5.br).trans R5.br.symm)
  ·rw [show Pj (pins++[⟨"free",(((1000001:Int):Rat),((fv:Int):Rat)),[]⟩])=Pj pins++[(("free":Str),([]:List (Rat×Rat)))] from afq]
   refine bN (Paired.length W5) fun i p' kv e1 e2=> ?_
   obtain ⟨Lq,S7,z1,l,iz,z2,z3,z4⟩:=aA W5 e1
   rw [e2] at S7
   cases S7
   exact ⟨z1,l,iz,z2,ot _ _ (fun z=>(nwk _ (ir e2)).1 (by rw [z2,z])) z3,z4.aS LR⟩
  ·obtain ⟨a,i,j,e,h1,g1,g2⟩:=z
   exact ⟨a,i,j,e,t18.cy h1,by rw [afd (be.mp g1).1];exact g1,by rw [afd (be.mp g2).1];exact g2⟩
  ·obtain ⟨m1,m2,m3⟩:=gb.ends b hb
   exact ⟨afr _ m1,afr _ m2,m3⟩
 have aad:=Z_.ko sN ig Tr
 have aae:=Tj.trans FY
 have np0:=(s1.trans s2).free nP3
 have nw0:=(s1.trans s2).free nW3
 have nb0:=(s1.trans s2).free nB3
 have aaf:=s1.free nB
 have F':∀{Hx:Hp},KO pP pW pB lP lB H Hx→ba K Hx sA (ns.map V.int):=fun {Hx} k=>by
  rcases hS with r | r
  ·have ne:∀{o:HO},H sA=some o→sA≠pP∧sA≠pW∧sA≠pB∧sA≠lP∧sA≠lB:=fun {o} e=>⟨aq e np0,aq e nw0,aq e nb0,aq e nP,aq e aaf⟩
   rcases r with r | ⟨o,r⟩
   ·exact .inl (.inl (k.at (ne r) r))
   ·exact .inl (.inr ⟨o,k.at (ne r) r⟩)
  ·exact .inr r
 have aag:KO pP pW pB lP lB H Xe:=(KO.of aae).trans Tr
 have GB:∀p∈pins++[(⟨"free",(((1000001:Int):Rat),((fv:Int):Rat)),[]⟩:aF)],p.nm≠ "far"∧p.sp.1≤1000001∧Sz 20 p.sp.2∧ -500002≤p.sp.2∧p.sp.2≤500002:=fun p hp=>by
  rcases afg.mp hp with h | h
  ·obtain ⟨⟨_,h1⟩,h2,h3,h4⟩:=pn p h
   exact ⟨h1,by grind,h3,h4⟩
  ·rw [ae_.mp h]
   refine ⟨(by show ("free":Str)≠ "far";decide+kernel),(by show ((1000001:Int):Rat)≤1000001;decide+kernel),gf (afc (show _ < 128 by omega) (by decide)) (by decide),?_⟩
   exact uN (by omega) (by omega)
 refine ⟨_,rfl,fA,_,ar,rfl,F_.fa,F_.g,fun LS Tx ms4 H19 s19 _ Ot Ku _=> ?_⟩
 have fin:∀{k:Nat},k≤1→(("free":Str),k)∈ms4.map (·.1):=fun {k} hk=>Ks Ku F_.gp.np (p:=⟨"free",(((1000001:Int):Rat),((fv:Int):Rat)),[]⟩) (afl _ ae') rfl (fun b hb=>by
  obtain ⟨m1,m2,_⟩:=gb.ends b hb
  exact ⟨(pn _ m1).1.1,(pn _ m2).1.1⟩) hk
 dsimp only [cD]
 refine eG (fun σ' H' =>σ' =[some (.ref sA),some (.ref lP),some (.ref lB),some (.ref fA),some (.ref dm),some (.ref lC),o6,some (.ref Kt),some (.ref LS),none]∧av Xe H') (fun Nx sG=> ?_) ?_
 ·refine ⟨_,rfl,_,rfl,_,rfl,lP,lB,LS,_,vs,_,ar,Tx,ms4,33000,rfl,(F_.same s19).Ti Ku,Ot,fun H20 s20=>⟨_,rfl,?_⟩⟩
  refine a_ (fun c=>nomatch c) (fun _=> ?_)
  refine ⟨L2,?_⟩
  intro t21 n21;generalize eX:upd _ t21 _=H21;have ⟨s21,e21⟩:=nw n21 eX;clear eX
  have Zs:di H21 LS (.ref t21) (bO Tx [.inr ("free":Str),.inl ((0:Nat):Int)]):=.inr ⟨Tx,[.inr ("free":Str),.inl ((0:Nat):Int)],t21,.inl (s21 _ _ (s20 _ _ Ot)),rfl,e21,rfl⟩
  refine ⟨_,rfl,LS,_,rfl,Zs,_,rfl,?_⟩
  rw [rV Ku.pr (fun kv n ⟨_,_,e,_⟩=>by rw [e]) (("free":Str),0),decide_eq_true (fin (aft _))]
  refine a_ (fun c=>nomatch c) (fun _=> ?_)
  refine ⟨L2,?_⟩
  intro t22 n22;generalize eX:upd _ t22 _=H22;have ⟨Pn,e22⟩:=nw n22 eX;clear eX
  have Zt:di H22 LS (.ref t22) (bO Tx [.inr ("free":Str),.inl ((1:Nat):Int)]):=.inr ⟨Tx,[.inr ("free":Str),.inl ((1:Nat):Int)],t22,.inl (Pn _ _ (s21 _ _ (s20 _ _ Ot))),rfl,e22,rfl⟩
  refine ⟨_,rfl,LS,_,rfl,Zt,_,rfl,?_⟩
  rw [rV Ku.pr (fun kv n ⟨_,_,e,_⟩=>by rw [e]) (("free":Str),1),decide_eq_true (fin (aai _))]
  refine a_ (fun c=>nomatch c) (fun _=> ?_)
  exact sG _ _ ⟨rfl,s19.trans (s20.trans (s21.trans Pn))⟩
 rintro σ' H22 ⟨rfl,Pn⟩
 have GG:=F_.same Pn
 have Tz:=aad.same Pn
 have Ou:=aag.trans (KO.of (pP:=pP) (pW:=pW) (pB:=pB) (lP:=lP) (lB:=lB) Pn)
 refine eG (fun σ' H' =>∃(g:V) (iE:List aF) (Xf TB:List V),σ' =[some (.ref sA),some (.ref lP),some (.ref lB),some (.ref fA),some (.ref dm),some (.ref lC),o6,some (.ref Kt),some (.ref LS),some g]∧KO pP pW pB lP lB H H' ∧WS K H' C fA dx pP pW pB lP lB Xf TB iE ar∧uU K H3 H' dm lC kT ms zs pins ar 33000∧iE.length≤7∧((g=.cb∧∀p∈iE,p.nm≠ "far"∧p.sp.1≤1000001)∨∃p,jz K H' lP lB g p∧p.nm∉iE.map (·.nm)∧p.sp∉iE.map (·.sp)∧Sz 44 p.sp.1∧Sz 20 p.sp.2∧ -500002≤p.sp.2∧∀q∈iE,q.sp.2≤500002)) (fun Nx sG=> ?_) ?_
 ·refine ⟨_,rfl,_,rfl,_,rfl,_,rfl,sA,ns,15,rfl,F' Ou,by decide,by decide,?_⟩
  try dsimp only [eI]
  refine ⟨fA,dx,pP,pW,pB,lP,lB,_,vs,_,ar,_,rfl,GG,fun H23 WX=> ?_,fun k p y iz ZD H23 ek ko AF py=> ?_⟩
  ·exact sG _ _ ⟨.cb,_,_,vs,rfl,Ou.trans (KO.of WX),GG.same WX,Tz.same WX,by rw [afi];simp;omega,.inl ⟨rfl,fun p hp=>⟨(GB p hp).1,(GB p hp).2.1⟩⟩⟩
  ·have mp:=ir ek
   obtain ⟨u1,u2⟩:=GG.gp.un ek
   have sub:∀q∈(pins++[(⟨"free",(((1000001:Int):Rat),((fv:Int):Rat)),[]⟩:aF)]).eraseIdx k,q∈pins++[(⟨"free",(((1000001:Int):Rat),((fv:Int):Rat)),[]⟩:aF)]:=fun q hq=>(anE _ _).subset hq
   refine sG _ _ ⟨y,_,iz,ZD,rfl,Ou.trans ko,AF,Tz.ko sN GG ko,?_,.inr ⟨p,py,u1,u2,(GG.gp.sz p mp).1,(GB p mp).2.2.1,(GB p mp).2.2.2.1,fun q hq=>(GB q (sub q hq)).2.2.2.2⟩⟩
   have:=ak_ (pins++[(⟨"free",(((1000001:Int):Rat),((fv:Int):Rat)),[]⟩:aF)]) k
   rw [afi,anB] at this
   omega
 rintro σ' H23 ⟨g,iE,Xf,TB,rfl,aam,AF,aan,lG,alt⟩
 refine eG (fun σ' H' =>σ' =[some (.ref sA),some (.ref lP),some (.ref lB),some (.ref fA),some (.ref dm),some (.ref lC),o6,some (.ref Kt),some (.ref LS),some g]∧av H23 H') (fun Nx sG=> ?_) ?_
 ·refine ⟨_,rfl,_,rfl,_,rfl,fA,iE,ar,rfl,AF.fa,AF.g,fun dm5 kT5 ms5 H24 Pg _ aao aap _=> ?_⟩
  try dsimp only [eI]
  refine ⟨lP,lB,dm5,Xf,TB,iE,ar,kT5,ms5,33000,rfl,(AF.same Pg).Ti aap,aao,fun H25 Po=>⟨_,rfl,?_⟩⟩
  exact a_ (fun c=>nomatch c) (fun _=>sG _ _ ⟨rfl,Pg.trans Po⟩)
 rintro σ' H25 ⟨rfl,Po⟩
 have TC:=AF.same Po
 have aaq:=aan.same Po
 have aar:=aam.trans (KO.of (pP:=pP) (pW:=pW) (pB:=pB) (lP:=lP) (lB:=lB) Po)
 refine ⟨_,rfl,_,rfl,_,rfl,_,rfl,sA,ns,15,rfl,F' aar,by decide,by decide,?_⟩
 try dsimp only [eI]
 refine ⟨fA,dx,pP,pW,pB,lP,lB,Xf,TB,iE,ar,g,_,rfl,TC,lG,alt.imp id (fun ⟨p,a,b⟩=>⟨p,a.same Po,b⟩),fun p iz H26 ko Ov=> ?_⟩
 have aas:=aaq.ko sN TC ko
 refine ⟨_,rfl,_,rfl,_,rfl,fA,_,ar,rfl,Ov.fa,Ov.g,fun dm6 kT6 ms6 H27 S' _ aat aau _=> ?_⟩
 try dsimp only [eI]
 refine ⟨lP,lB,dm6,iz,TB,_,ar,kT6,ms6,33000,rfl,(Ov.same S').Ti aau,aat,fun H28 Xb=>⟨_,rfl,?_⟩⟩
 refine a_ (fun _=> ?_) (fun c=>absurd rfl c)
 have Ow:=aas.same (S'.trans Xb)
 refine ⟨_,rfl,dm,pins,ar,kT,ms,33000,rfl,Ow.mo,gp.np,by omega,Ow.hm,fun lD zs2 Xg s29 nD eD pD=> ?_⟩
 have TF:=Ow.same s29
 have i1:Is K Xg (.l (ms.map (Tc pins))) (.ref lD):=by
  unfold Is
  exact ⟨lD,zs2,rfl,ba.of eD,h7 (R:=oP K H28 Xg pins) (fun _ _ z=>z.is) pD⟩
 have i2:Is K Xg (.l (ms.map (Tc pins))) (.ref lC):=by
  unfold Is
  exact ⟨lC,zs,rfl,ba.of TF.hC,h7 (R:=oP K H3 Xg pins) (fun _ _ z=>z.is) TF.pc⟩
 have i3:=i1
 unfold Is at i3
 obtain ⟨_,xs,_,_,k⟩:=i3
 obtain ⟨b1,b2⟩:=gW _ xs k
 refine ⟨_,rfl,_,_,.inr ⟨i1,i2⟩,b1,nZ (Kr pins) _,?_⟩
 rw [b2]
 exact q _
end
theorem all_mk {l:PySem.W.OpenLaw}{w:World}{K:Frag}{h:Heap}{mg:Str→Option Value}{fa:Addr}(X:K.In h)(G:h.Ns mainGlobals mg)(hfa:mg "law"=some (.ref fa))
  (aav:nsIn K mainGlobals "difference_of"=some (some (.ref TH))) (aaw:K.lookup TH=some ⟨agE,agF,.func (fnOf "difference_of" "difference_of" (ay vF) (aw vF) (ag vF) .none agG agH agI agJ TJ agK),agL⟩) (aax:codeIn K TJ "difference_of"=true) (aay:keepIn K (.ref TH)=true) (aaz:nsIn K mainGlobals "lowest_terms"=some (some (.ref TK))) (aaA:K.lookup TK=some ⟨agM,agN,.func (fnOf "lowest_terms" "lowest_terms" (ay uo) (aw uo) (ag uo) .none agO agP agQ agR TL agS),agT⟩) (aaB:codeIn K TL "lowest_terms"=true) (aaC:keepIn K (.ref TK)=true) (aaD:nsIn K mainGlobals "greatest_shared"=some (some (.ref TM))) (aaE:K.lookup TM=some ⟨agU,agV,.func (fnOf "greatest_shared" "greatest_shared" (ay yX) (aw yX) (ag yX) .none agW agX agY agZ TN ag0),ag1⟩) (aaF:codeIn K TN "greatest_shared"=true) (aaG:keepIn K (.ref TM)=true) (aaH:nsIn K mainGlobals "arm_between"=some (some (.ref TQ))) (aaI:K.lookup TQ=some ⟨ag2,ag3,.func (fnOf "arm_between" "arm_between" (ay yY) (aw yY) (ag yY) .none ag4 ag5 ag6 ag7 TR ag8),ag9⟩) (aaJ:codeIn K TR "arm_between"=true) (aaK:keepIn K (.ref TQ)=true) (aaL:nsIn K mainGlobals "pair_difference"=some (some (.ref TU))) (aaM:K.lookup TU=some ⟨ag',aha,.func (fnOf "pair_difference" "pair_difference" (ay vG) (aw vG) (ag vG) .none ahb ahc ahd ahe TV ahf),ahg⟩) (aaN:codeIn K TV "pair_difference"=true) (aaO:keepIn K (.ref TU)=true) (v_:nsIn K mainGlobals "pairs_of"=some (some (.ref og))) (wc:K.lookup og=some ⟨LU,LV,.func (fnOf "pairs_of" "pairs_of" (ay dU) (aw dU) (ag dU) .none LW LX LY LZ uV L6),L7⟩) (wd:codeIn K uV "pairs_of"=true) (we:keepIn K (.ref og)=true) (aaP:nsIn K mainGlobals "pair_row"=some (some (.ref TX))) (aaQ:K.lookup TX=some ⟨ahh,ahi,.func (fnOf "pair_row" "pair_row" (ay yZ) (aw yZ) (ag yZ) .none ahj ahk ahl ahm TY ahn),aho⟩) (aaR:codeIn K TY "pair_row"=true) (aaS:keepIn K (.ref TX)=true) (aaT:nsIn K mainGlobals "bar_row"=some (some (.ref TZ))) (aaU:K.lookup TZ=some ⟨ahp,ahq,.func (fnOf "bar_row" "bar_row" (ay y4) (aw y4) (ag y4) .none ahr ahs aht ahu T6 ahv),ahw⟩) (aaV:codeIn K T6 "bar_row"=true) (aaW:keepIn K (.ref TZ)=true) (aaX:nsIn K mainGlobals "draw_rows"=some (some (.ref T7))) (aaY:K.lookup T7=some ⟨ahx,ahy,.func (fnOf "draw_rows" "draw_rows" (ay y6) (aw y6) (ag y6) .none ahz ahA ahB ahC T8 ahD),ahE⟩) (aaZ:codeIn K T8 "draw_rows"=true) (aa0:keepIn K (.ref T7)=true) (aa1:nsIn K mainGlobals "motion_from"=some (some (.ref T9))) (aa2:K.lookup T9=some ⟨ahF,ahG,.func (fnOf "motion_from" "motion_from" (ay y8) (aw y8) (ag y8) .none ahH ahI ahJ ahK T_ ahL),ahM⟩) (aa3:codeIn K T_ "motion_from"=true) (aa4:keepIn K (.ref T9)=true) (kY:nsIn K mainGlobals "spare_columns"=some (some (.ref gy))) (kZ:K.lookup gy=some ⟨AG,AH,.func (fnOf "spare_columns" "spare_columns" (ay bY) (aw bY) (ag bY) .none AI AJ AK AL j7 AM),AN⟩) (k7:codeIn K j7 "spare_columns"=true) (k8:keepIn K (.ref gy)=true) (rY:nsIn K mainGlobals "spare_list"=some (some (.ref jB))) (rZ:K.lookup jB=some ⟨HQ,HR,.func (fnOf "spare_list" "spare_list" (ay cU) (aw cU) (ag cU) .none HS HU HV HW oR HX),HY⟩) (r6:codeIn K oR "spare_list"=true) (r8:keepIn K (.ref jB)=true) (aa5:nsIn K mainGlobals "whole_row"=some (some (.ref T'))) (aa6:K.lookup T'=some ⟨ahN,ahO,.func (fnOf "whole_row" "whole_row" (ay y_) (aw y_) (ag y_) .none ahP ahQ ahR ahS Ua ahT),ahU⟩) (aa7:codeIn K Ua "whole_row"=true) (aa8:keepIn K (.ref T')=true) (aa9:nsIn K mainGlobals "reduced"=some (some (.ref Ub))) (aa':K.lookup Ub=some ⟨ahV,ahW,.func (fnOf "reduced" "reduced" (ay za) (aw za) (ag za) .none ahX ahY ahZ ah0 Uc ah1),ah2⟩) (aba:codeIn K Uc "reduced"=true) (abb:keepIn K (.ref Ub)=true) (abc:nsIn K mainGlobals "first_not_nought"=some (some (.ref Ud))) (abd:K.lookup Ud=some ⟨ah3,ah4,.func (fnOf "first_not_nought" "first_not_nought" (ay zc) (aw zc) (ag zc) .none ah5 ah6 ah7 ah8 Ue ah9),ah'⟩) (abe:codeIn K Ue "first_not_nought"=true) (abf:keepIn K (.ref Ud)=true) (abg:nsIn K mainGlobals "cleared"=some (some (.ref Ug))) (abh:K.lookup Ug=some ⟨aia,aib,.func (fnOf "cleared" "cleared" (ay zd) (aw zd) (ag zd) .none aic aid aie aif Uh aih),aii⟩) (abi:codeIn K Uh "cleared"=true) (abj:keepIn K (.ref Ug)=true) (abk:nsIn K mainGlobals "divided"=some (some (.ref Ui))) (abl:K.lookup Ui=some ⟨aij,aik,.func (fnOf "divided" "divided" (ay ze) (aw ze) (ag ze) .none ail aim ain aio Uj aip),aiq⟩) (abm:codeIn K Uj "divided"=true) (abn:keepIn K (.ref Ui)=true) (r9:nsIn K mainGlobals "motions_of"=some (some (.ref jC))) (r_:K.lookup jC=some ⟨HZ,H_,.func (fnOf "motions_of" "motions_of" (ay cV) (aw cV) (ag cV) .none Iv Iw Iy Iz oS IA),IC⟩) (se:codeIn K oS "motions_of"=true) (sf:keepIn K (.ref jC)=true) (abo:nsIn K mainGlobals "_law_cell_at"=some (some (.ref Uk))) (abp:K.lookup Uk=some ⟨air,ais,.func (fnOf "_law_cell_at" "_law_cell_at" (ay zf) (aw zf) (ag zf) .none ait aiu aiv aiw Ul aix),aiy⟩) (abq:codeIn K Ul "_law_cell_at"=true) (abr:keepIn K (.ref Uk)=true) (abt:nsIn K mainGlobals "_law_field"=some (some (.ref Um))) (abu:K.lookup Um=some ⟨aiz,aiA,.func (fnOf "_law_field" "_law_field" (ay zg) (aw zg) (ag zg) .none aiB aiC aiD aiE Uo aiF),aiG⟩) (abv:codeIn K Uo "_law_field"=true) (abw:keepIn K (.ref Um)=true) (abx:nsIn K mainGlobals "_law_lowest"=some (some (.ref Up))) (aby:K.lookup Up=some ⟨aiH,aiI,.func (fnOf "_law_lowest" "_law_lowest" (ay zh) (aw zh) (ag zh) .none aiJ aiK aiL aiM Uq aiN),aiO⟩) (abz:codeIn K Uq "_law_lowest"=true) (abA:keepIn K (.ref Up)=true) (abB:nsIn K mainGlobals "_law_sum"=some (some (.ref Ur))) (abC:K.lookup Ur=some ⟨aiP,aiQ,.func (fnOf "_law_sum" "_law_sum" (ay zi) (aw zi) (ag zi) .none aiR aiS aiT aiU Us aiV),aiW⟩) (abD:codeIn K Us "_law_sum"=true) (abE:keepIn K (.ref Ur)=true) (abF:nsIn K mainGlobals "_law_times"=some (some (.ref Ut))) (abG:K.lookup Ut=some ⟨aiX,aiY,.func (fnOf "_law_times" "_law_times" (ay zk) (aw zk) (ag zk) .none aiZ ai0 ai1 ai2 Uu ai3),ai4⟩) (abH:codeIn K Uu "_law_times"=true) (abI:keepIn K (.ref Ut)=true) (abJ:nsIn K mainGlobals "_law_turned"=some (some (.ref Uv))) (abK:K.lookup Uv=some ⟨ai5,ai6,.func (fnOf "_law_turned" "_law_turned" (ay zl) (aw zl) (ag zl) .none ai7 ai8 ai9 ai' Uw aja),ajb⟩) (abL:codeIn K Uw "_law_turned"=true) (abM:keepIn K (.ref Uv)=true) (abN:nsIn K mainGlobals "_law_name"=some (some (.ref Ux))) (abO:K.lookup Ux=some ⟨ajc,ajd,.func (fnOf "_law_name" "_law_name" (ay vH) (aw vH) (ag vH) .none aje ajf ajg ajh Uy aji),ajj⟩) (abP:codeIn K Uy "_law_name"=true) (abQ:keepIn K (.ref Ux)=true) (abR:nsIn K mainGlobals "_law_spot"=some (some (.ref Uz))) (abS:K.lookup Uz=some ⟨ajk,ajl,.func (fnOf "_law_spot" "_law_spot" (ay zo) (aw zo) (ag zo) .none ajm ajn ajo ajp UA ajq),ajr⟩) (abT:codeIn K UA "_law_spot"=true) (abU:keepIn K (.ref Uz)=true) (abV:nsIn K mainGlobals "_law_ways"=some (some (.ref UB))) (abW:K.lookup UB=some ⟨ajs,ajt,.func (fnOf "_law_ways" "_law_ways" (ay zq) (aw zq) (ag zq) .none aju ajv ajw ajx UC ajy),ajz⟩) (abX:codeIn K UC "_law_ways"=true) (abY:keepIn K (.ref UB)=true) (abZ:nsIn K mainGlobals "_law_pins"=some (some (.ref UD))) (ab0:K.lookup UD=some ⟨ajA,ajB,.func (fnOf "_law_pins" "_law_pins" (ay zu) (aw zu) (ag zu) .none ajC ajD ajE ajF UE ajG),ajH⟩) (ab1:codeIn K UE "_law_pins"=true) (ab2:keepIn K (.ref UD)=true) (ab3:nsIn K mainGlobals "_law_bars"=some (some (.ref UG))) (ab4:K.lookup UG=some ⟨ajI,ajJ,.func (fnOf "_law_bars" "_law_bars" (ay zv) (aw zv) (ag zv) .none ajK ajL ajM ajN UH ajO),ajP⟩) (ab5:codeIn K UH "_law_bars"=true) (ab6:keepIn K (.ref UG)=true) (ab7:nsIn K mainGlobals "_law_frame"=some (some (.ref UI))) (ab8:K.lookup UI=some ⟨ajQ,ajR,.func (fnOf "_law_frame" "_law_frame" (ay zA) (aw zA) (ag zA) .none ajS ajT ajU ajV UJ ajW),ajX⟩) (ab9:codeIn K UJ "_law_frame"=true) (ab':keepIn K (.ref UI)=true) (aca:nsIn K mainGlobals "_law_arm"=some (some (.ref UK))) (acb:K.lookup UK=some ⟨ajY,ajZ,.func (fnOf "_law_arm" "_law_arm" (ay zB) (aw zB) (ag zB) .none aj0 aj1 aj2 aj3 UL aj4),aj5⟩) (acd:codeIn K UL "_law_arm"=true) (ace:keepIn K (.ref UK)=true) (acf:nsIn K mainGlobals "_law_number"=some (some (.ref UM))) (acg:K.lookup UM=some ⟨aj6,aj7,.func (fnOf "_law_number" "_law_number" (ay zC) (aw zC) (ag zC) .none aj8 aj9 aj' aka UN akb),akc⟩) (ach:codeIn K UN "_law_number"=true) (aci:keepIn K (.ref UM)=true) (acj:nsIn K mainGlobals "_law_is_motion"=some (some (.ref UO))) (ack:K.lookup UO=some ⟨akd,ake,.func (fnOf "_law_is_motion" "_law_is_motion" (ay zD) (aw zD) (ag zD) .none akf akg akh aki UP akj),akk⟩) (acm:codeIn K UP "_law_is_motion"=true) (acn:keepIn K (.ref UO)=true) (aco:nsIn K mainGlobals "_law_dot"=some (some (.ref UQ))) (acp:K.lookup UQ=some ⟨akl,akm,.func (fnOf "_law_dot" "_law_dot" (ay zE) (aw zE) (ag zE) .none akn ako akp akq UR akr),aks⟩) (acq:codeIn K UR "_law_dot"=true) (acr:keepIn K (.ref UQ)=true) (acs:nsIn K mainGlobals "_law_longer"=some (some (.ref US))) (acu:K.lookup US=some ⟨akt,aku,.func (fnOf "_law_longer" "_law_longer" (ay zF) (aw zF) (ag zF) .none akv akw akx aky UT akz),akA⟩) (acv:codeIn K UT "_law_longer"=true) (acw:keepIn K (.ref US)=true) (acx:nsIn K mainGlobals "_law_keeps"=some (some (.ref UU))) (acy:K.lookup UU=some ⟨akB,akC,.func (fnOf "_law_keeps" "_law_keeps" (ay zG) (aw zG) (ag zG) .none akD akE akF akG UW akH),akI⟩) (acz:codeIn K UW "_law_keeps"=true) (acA:keepIn K (.ref UU)=true) (AO:nsIn K mainGlobals "_law_one"=some (some (.ref qz))) (AQ:K.lookup qz=some ⟨Ox,Oy,.func (fnOf "_law_one" "_law_one" (ay eT) (aw eT) (ag eT) .none Oz OA OB OC wg OD),OE⟩) (AR:codeIn K wg "_law_one"=true) (AS:keepIn K (.ref qz)=true) (acB:nsIn K mainGlobals "_law_right"=some (some (.ref UX))) (acC:K.lookup UX=some ⟨akJ,akK,.func (fnOf "_law_right" "_law_right" (ay zH) (aw zH) (ag zH) .none akL akM akN akO UY akP),akQ⟩) (acD:codeIn K UY "_law_right"=true) (acE:keepIn K (.ref UX)=true) (wj:nsIn K mainGlobals "_law_copy"=some (some (.ref oh))) (wm:K.lookup oh=some ⟨L8,L9,.func (fnOf "_law_copy" "_law_copy" (ay dW) (aw dW) (ag dW) .none L_ L' Ma Mb uW Mc),Md⟩) (wo:codeIn K uW "_law_copy"=true) (wt:keepIn K (.ref oh)=true) (oT:nsIn K mainGlobals "_law_put_pin"=some (some (.ref iF))) (oU:K.lookup iF=some ⟨GH,GJ,.func (fnOf "_law_put_pin" "_law_put_pin" (ay cA) (aw cA) (ag cA) .none GK GL GN GO oi GP),GQ⟩) (oV:codeIn K oi "_law_put_pin"=true) (oW:keepIn K (.ref iF)=true) (oX:nsIn K mainGlobals "_law_pin_out"=some (some (.ref iG))) (oY:K.lookup iG=some ⟨GS,GU,.func (fnOf "_law_pin_out" "_law_pin_out" (ay cB) (aw cB) (ag cB) .none GV GX GY GZ oj G_),G'⟩) (oZ:codeIn K oj "_law_pin_out"=true) (o_:keepIn K (.ref iG)=true) (si:nsIn K mainGlobals "_law_pin_in"=some (some (.ref jD))) (sj:K.lookup jD=some ⟨ID,IE,.func (fnOf "_law_pin_in" "_law_pin_in" (ay cW) (aw cW) (ag cW) .none IF IG IH II pd IJ),IK⟩) (sk:codeIn K pd "_law_pin_in"=true) (so:keepIn K (.ref jD)=true) (UZ:nsIn K mainGlobals "law"=some (some (.ref Me))) (U0:K.lookup Me=some ⟨acF,acG,.func (fnOf "law" "law" (ay jk) (aw jk) (ag jk) .none OF OG OH OI HA OJ),acH⟩) (U1:codeIn K HA "law"=true) (U2:keepIn K (.ref Me)=true) (acI:nsIn K mainGlobals "MOST_PINS"=some (some (.int 24 akR))) (acJ:nsIn K mainGlobals "MOST_BARS"=some (some (.int 60 akS))) (acK:nsIn K mainGlobals "NOUGHT"=some (some (.ref OK))) (acL:K.lookup OK=some ⟨.type "tuple",akT,.seq #[.int 0 acM,.int 1 acN] akU,akV⟩) (acO:nsIn K mainGlobals "ONE"=some (some (.ref OL))) (acP:K.lookup OL=some ⟨.type "tuple",akW,.seq #[.int 1 acQ,.int 1 acR] akX,akY⟩) (acS:nsIn K mainGlobals "NO_MOVE"=some (some (.ref OM))) (acT:K.lookup OM=some ⟨.type "tuple",akZ,.seq #[.ref U3,.ref U4] ak0,ak1⟩) (acU:K.lookup U3=some ⟨.type "tuple",ak2,.seq #[.int 0 acV,.int 1 acW] ak3,ak4⟩) (acX:K.lookup U4=some ⟨.type "tuple",ak5,.seq #[.int 0 acY,.int 1 acZ] ak6,ak7⟩) (sr:nsIn K mainGlobals "ValueError"=some none) (U5:nsIn K mainGlobals "abs"=some none) (U6:nsIn K mainGlobals "all"=some none) (U7:nsIn K mainGlobals "any"=some none) (ON:nsIn K mainGlobals "bool"=some none) (OO:nsIn K mainGlobals "dict"=some none) (uX:nsIn K mainGlobals "enumerate"=some none) (U8:nsIn K mainGlobals "int"=some none) (sx:nsIn K mainGlobals "isinstance"=some none) (U9:nsIn K mainGlobals "len"=some none) (OP:nsIn K mainGlobals "list"=some none) (U_:nsIn K mainGlobals "min"=some none) (Kv:nsIn K mainGlobals "range"=some none) (U':nsIn K mainGlobals "str"=some none) (Kw:nsIn K mainGlobals "tuple"=some none) (Va:nsIn K mainGlobals "zip"=some none) (ac0:nsIn K mainGlobals "YardError"=some (some (.ref ac1))) (ac2:nsIn K mainGlobals "NoWay"=some (some (.ref ac3))) (ac4:nsIn K mainGlobals "PinThere"=some (some (.ref ac5))) (ac6:nsIn K mainGlobals "SpotTaken"=some (some (.ref ac7))) (ac8:nsIn K mainGlobals "NoPin"=some (some (.ref ac9))) (AU:nsIn K mainGlobals "PinBusy"=some (some (.ref AV))) (ac':nsIn K mainGlobals "BarThere"=some (some (.ref ada))) (adb:nsIn K mainGlobals "NoBar"=some (some (.ref ade))) (adf:nsIn K mainGlobals "NoLength"=some (some (.ref adg))) (adh:nsIn K mainGlobals "TooMany"=some (some (.ref adi))) (adj:nsIn K mainGlobals "Frame"=some (some (.ref bJ))) (adk:nsIn K mainGlobals "Hold"=some (some (.ref k_))) (adl:nsIn K mainGlobals "Roller"=some (some (.ref ip))) (adm:nsIn K mainGlobals "Fixed"=some (some (.ref j8))) (Vb:PySem.W.plainGet K bJ Str.empty=true) (Vc:PySem.W.hasDictIn K bJ=true) (Vd:PySem.W.plainOver K bJ=true) (Ve:PySem.W.findIn K (.ref bJ) "__setattr__"=some (some (.builtin "object.__setattr__"))) (Vf:PySem.W.makesIn K bJ=true) (Vg:keepIn K (.ref bJ)=true) (Vh:PySem.W.findIn K (.ref bJ) "__init__"=some (some (.ref HB))) (Vi:PySem.W.isFn K (.ref HB)=true) (adn:K.lookup HB=some ⟨ak8,ak9,.func (fnOf "__init__" "Frame.__init__" (ay zI) (aw zI) (ag zI) .none ak' ala alb alc Vj ald),ale⟩) (ado:codeIn K Vj "Frame.__init__"=true) (Vk:keepIn K (.ref HB)=true) (adp:PySem.W.findIn K (.ref bJ) "put_pin"=some (some (.ref Kx))) (adq:PySem.W.isFn K (.ref Kx)=true) (ads:K.lookup Kx=some ⟨alf,alg,.func (fnOf "put_pin" "Frame.put_pin" (ay kQ) (aw kQ) (ag kQ) (.ref HC) Mf Mg Mh Mi HD Mj),alh⟩) (Vl:K.lookup HC=some ⟨ali,adt,.seq #[.none] alj,adu⟩) (adv:codeIn K HD "Frame.put_pin"=true) (Vm:keepIn K (.ref Kx)=true) (adw:PySem.W.findIn K (.ref bJ) "put_bar"=some (some (.ref Ky))) (adx:PySem.W.isFn K (.ref Ky)=true) (ady:K.lookup Ky=some ⟨alk,alm,.func (fnOf "put_bar" "Frame.put_bar" (ay zJ) (aw zJ) (ag zJ) .none aln alo alp alq Vn alr),als⟩) (adz:codeIn K Vn "Frame.put_bar"=true) (Vo:keepIn K (.ref Ky)=true) (adA:PySem.W.findIn K (.ref bJ) "check_bar"=some (some (.ref Kz))) (adB:PySem.W.isFn K (.ref Kz)=true) (adC:K.lookup Kz=some ⟨alu,alv,.func (fnOf "check_bar" "Frame.check_bar" (ay zK) (aw zK) (ag zK) .none alw alx aly alz Vp alA),alB⟩) (adD:codeIn K Vp "Frame.check_bar"=true) (Vq:keepIn K (.ref Kz)=true) (adE:PySem.W.findIn K (.ref bJ) "check_pin"=some (some (.ref KA))) (adF:PySem.W.isFn K (.ref KA)=true) (adG:K.lookup KA=some ⟨alC,alD,.func (fnOf "check_pin" "Frame.check_pin" (ay zL) (aw zL) (ag zL) .none alE alF alG alH Vr alI),alJ⟩) (adH:codeIn K Vr "Frame.check_pin"=true) (Vs:keepIn K (.ref KA)=true) (j9:PySem.W.findIn K (.ref bJ) "take_pin"=some (some (.ref cZ))) (j_:PySem.W.isFn K (.ref cZ)=true) (ka:K.lookup cZ=some ⟨x3,x4,.func (fnOf "take_pin" "Frame.take_pin" (ay bU) (aw bU) (ag bU) .none x6 x8 x9 x_ jE ya),yd⟩) (kb:codeIn K jE "Frame.take_pin"=true) (fY:keepIn K (.ref cZ)=true) (adI:PySem.W.findIn K (.ref bJ) "pins"=some (some (.ref KC))) (adJ:PySem.W.isFn K (.ref KC)=true) (adK:K.lookup KC=some ⟨alK,alL,.func (fnOf "pins" "Frame.pins" (ay zM) (aw zM) (ag zM) .none alM alN alO alP Vt alQ),alR⟩) (adL:codeIn K Vt "Frame.pins"=true) (Vu:keepIn K (.ref KC)=true) (adM:PySem.W.findIn K (.ref bJ) "bars"=some (some (.ref KD))) (adN:PySem.W.isFn K (.ref KD)=true) (adO:K.lookup KD=some ⟨alS,alT,.func (fnOf "bars" "Frame.bars" (ay zN) (aw zN) (ag zN) .none alU alV alW alX Vv alY),alZ⟩) (adP:codeIn K Vv "Frame.bars"=true) (Vw:keepIn K (.ref KD)=true) (adQ:PySem.W.findIn K (.ref bJ) "place"=some (some (.ref KG))) (adR:PySem.W.isFn K (.ref KG)=true) (adS:K.lookup KG=some ⟨al0,al1,.func (fnOf "place" "Frame.place" (ay zO) (aw zO) (ag zO) .none al2 al3 al4 al5 Vx al6),al7⟩) (adT:codeIn K Vx "Frame.place"=true) (Vy:keepIn K (.ref KG)=true) (adU:PySem.W.findIn K (.ref bJ) "ways"=some (some (.ref KH))) (adV:PySem.W.isFn K (.ref KH)=true) (adW:K.lookup KH=some ⟨al8,al9,.func (fnOf "ways" "Frame.ways" (ay zP) (aw zP) (ag zP) .none al' ama amb amc Vz amd),ame⟩) (adX:codeIn K Vz "Frame.ways"=true) (VA:keepIn K (.ref KH)=true) (adY:PySem.W.findIn K (.ref bJ) "ends"=some (some (.ref KI))) (adZ:PySem.W.isFn K (.ref KI)=true) (ad0:K.lookup KI=some ⟨amf,amg,.func (fnOf "ends" "Frame.ends" (ay zQ) (aw zQ) (ag zQ) .none amh ami amj amk VB aml),amm⟩) (ad1:codeIn K VB "Frame.ends"=true) (VC:keepIn K (.ref KI)=true) (VD:PySem.W.plainGet K k_ Str.empty=true) (VE:PySem.W.hasDictIn K k_=true) (VF:PySem.W.plainOver K k_=true) (VG:PySem.W.findIn K (.ref k_) "__setattr__"=some (some (.builtin "object.__setattr__"))) (VH:PySem.W.makesIn K k_=true) (VI:keepIn K (.ref k_)=true) (VJ:PySem.W.findIn K (.ref k_) "__init__"=some (some (.builtin "object.__init__"))) (ad2:PySem.W.findIn K (.ref k_) "ways"=some (some (.ref KJ))) (ad3:PySem.W.isFn K (.ref KJ)=true) (ad4:K.lookup KJ=some ⟨amn,amo,.func (fnOf "ways" "Hold.ways" (ay JM) (aw JM) (ag JM) .none amq amr ams amt VL amu),amv⟩) (ad5:codeIn K VL "Hold.ways"=true) (VM:keepIn K (.ref KJ)=true) (VN:PySem.W.plainGet K ip Str.empty=true) (VO:PySem.W.hasDictIn K ip=true) (VP:PySem.W.plainOver K ip=true) (VQ:PySem.W.findIn K (.ref ip) "__setattr__"=some (some (.builtin "object.__setattr__"))) (VR:PySem.W.makesIn K ip=true) (VS:keepIn K (.ref ip)=true) (VT:PySem.W.findIn K (.ref ip) "__init__"=some (some (.ref HE))) (VU:PySem.W.isFn K (.ref HE)=true) (ad6:K.lookup HE=some ⟨amw,amx,.func (fnOf "__init__" "Roller.__init__" (ay zR) (aw zR) (ag zR) .none amy amz amA amB VW amC),amD⟩) (ad7:codeIn K VW "Roller.__init__"=true) (VX:keepIn K (.ref HE)=true) (ad8:PySem.W.findIn K (.ref ip) "ways"=some (some (.ref KL))) (ad9:PySem.W.isFn K (.ref KL)=true) (ad':K.lookup KL=some ⟨amE,amF,.func (fnOf "ways" "Roller.ways" (ay zS) (aw zS) (ag zS) .none amG amH amI amJ VY amK),amL⟩) (aea:codeIn K VY "Roller.ways"=true) (VZ:keepIn K (.ref KL)=true) (V0:PySem.W.plainGet K j8 Str.empty=true) (V1:PySem.W.hasDictIn K j8=true) (V2:PySem.W.plainOver K j8=true) (V3:PySem.W.findIn K (.ref j8) "__setattr__"=some (some (.builtin "object.__setattr__"))) (V4:PySem.W.makesIn K j8=true) (V5:keepIn K (.ref j8)=true) (V6:PySem.W.findIn K (.ref j8) "__init__"=some (some (.builtin "object.__init__"))) (aeb:PySem.W.findIn K (.ref j8) "ways"=some (some (.ref KN))) (aec:PySem.W.isFn K (.ref KN)=true) (aed:K.lookup KN=some ⟨amM,amN,.func (fnOf "ways" "Fixed.ways" (ay zT) (aw zT) (ag zT) .none amO amP amQ amR V7 amS),amT⟩) (aee:codeIn K V7 "Fixed.ways"=true) (V8:keepIn K (.ref KN)=true) (HF:PySem.W.findIn K (.ref bJ) "pin_places"=some none) (OQ:PySem.W.findIn K (.ref bJ) "pin_ways"=some none) (OR:PySem.W.findIn K (.ref bJ) "bar_ends"=some none) (Ml:PySem.W.findIn K (.ref ip) "way"=some none) (ht:l.prog.given.tree=none):
  ∃fd:FuncData,(∀(s:Shared) (v:Value),BindsTo s fd ⟨[v],[]⟩ [("_law_script",v)])∧∀base:Heap,K.In base→base.Ns mainGlobals mg→cv l.prog w K mg base (a8 l.prog w) 42 fa fd ["_law_script"] (CM K):=by
 have e:=hfa.symm.trans (mg_of X G UZ)
 cases e
 have aef:Def K mg "difference_of" vF ["one","other"]:=fF X G aaw aax aay aav
 have aeg:Def K mg "lowest_terms" uo ["top","bottom"]:=fF X G aaA aaB aaC aaz
 have aeh:Def K mg "greatest_shared" yX ["one","other"]:=fF X G aaE aaF aaG aaD
 have aei:Def K mg "arm_between" yY ["F","one","other"]:=fF X G aaI aaJ aaK aaH
 have aej:Def K mg "pair_difference" vG ["one","other"]:=fF X G aaM aaN aaO aaL
 have wu:Def K mg "pairs_of" dU ["F"]:=fF X G wc wd we v_
 have aek:Def K mg "pair_row" yZ ["F","draws"]:=fF X G aaQ aaR aaS aaP
 have ael:Def K mg "bar_row" y4 ["F","one","other"]:=fF X G aaU aaV aaW aaT
 have aem:Def K mg "draw_rows" y6 ["F"]:=fF X G aaY aaZ aa0 aaX
 have aen:Def K mg "motion_from" y8 ["F","numbers"]:=fF X G aa2 aa3 aa4 aa1
 have lh:Def K mg "spare_columns" bY ["rows","many"]:=fF X G kZ k7 k8 kY
 have sy:Def K mg "spare_list" cU ["needed","column","many"]:=fF X G rZ r6 r8 rY
 have aeo:Def K mg "whole_row" y_ ["row"]:=fF X G aa6 aa7 aa8 aa5
 have aep:Def K mg "reduced" za ["lines","many"]:=fF X G aa' aba abb aa9
 have aeq:Def K mg "first_not_nought" zc ["lines","column"]:=fF X G abd abe abf abc
 have aer:Def K mg "cleared" zd ["line","lead","column"]:=fF X G abh abi abj abg
 have aes:Def K mg "divided" ze ["line"]:=fF X G abl abm abn abk
 have sC:Def K mg "motions_of" cV ["F"]:=fF X G r_ se sf r9
 have aet:Def K mg "_law_cell_at" zf ["_law_script","_law_k"]:=fF X G abp abq abr abo
 have aeu:Def K mg "_law_field" zg ["_law_cell","_law_prime","_law_many"]:=fF X G abu abv abw abt
 have aev:Def K mg "_law_lowest" zh ["_law_top","_law_bottom"]:=fF X G aby abz abA abx
 have aew:Def K mg "_law_sum" zi ["_law_one_here","_law_other"]:=fF X G abC abD abE abB
 have aex:Def K mg "_law_times" zk ["_law_one_here","_law_other"]:=fF X G abG abH abI abF
 have aey:Def K mg "_law_turned" zl ["_law_one_here"]:=fF X G abK abL abM abJ
 have aez:Def K mg "_law_name" vH ["_law_cell","_law_k"]:=fF X G abO abP abQ abN
 have aeA:Def K mg "_law_spot" zo ["_law_cell","_law_kind"]:=fF X G abS abT abU abR
 have aeB:Def K mg "_law_ways" zq ["_law_cell"]:=fF X G abW abX abY abV
 have aeC:Def K mg "_law_pins" zu ["_law_script"]:=fF X G ab0 ab1 ab2 abZ
 have aeD:Def K mg "_law_bars" zv ["_law_script","_law_pins_here"]:=fF X G ab4 ab5 ab6 ab3
 have aeE:Def K mg "_law_frame" zA ["_law_pins_here","_law_bars_here"]:=fF X G ab8 ab9 ab' ab7
 have aeF:Def K mg "_law_arm" zB ["_law_pins_here","_law_bar","_law_axis"]:=fF X G acb acd ace aca
 have aeG:Def K mg "_law_number" zC ["_law_x"]:=fF X G acg ach aci acf
 have aeH:Def K mg "_law_is_motion" zD ["_law_pins_here","_law_motion"]:=fF X G ack acm acn acj
 have aeI:Def K mg "_law_dot" zE ["_law_one_here","_law_other"]:=fF X G acp acq acr aco
 have aeJ:Def K mg "_law_longer" zF ["_law_pins_here","_law_bar","_law_motion"]:=fF X G acu acv acw acs
 have aeK:Def K mg "_law_keeps" zG ["_law_pins_here","_law_motion"]:=fF X G acy acz acA acx
 have AW:Def K mg "_law_one" eT ["_law_pins_here","_law_bars_here","_law_pairs","_law_told","_law_pair"]:=fF X G AQ AR AS AO
 have aeL:Def K mg "_law_right" zH ["_law_pins_here","_law_bars_here","_law_told"]:=fF X G acC acD acE acB
 have wz:Def K mg "_law_copy" dW ["_law_told"]:=fF X G wm wo wt wj
 have ph:Def K mg "_law_put_pin" cA ["_law_frame_here","_law_pins_here","_law_name_here","_law_spot_here","_law_ways_here"]:=fF X G oU oV oW oT
 have pj:Def K mg "_law_pin_out" cB ["_law_frame_here","_law_pins_here","_law_bars_here","_law_cell"]:=fF X G oY oZ o_ oX
 have sD:Def K mg "_law_pin_in" cW ["_law_frame_here","_law_pins_here","_law_gone","_law_cell"]:=fF X G sj sk so si
 have eJ:sS K bJ:=⟨Vb,Vc,Vd,Ve⟩
 have N6:Mk K bJ HB:=⟨Vf,Vh,Vi,Vg⟩
 have V9:=cJ (st:=zI) adn ado Vk
 have N8:=V9.xx (ps:=["self"])
 have aqo:Meth K bJ "__init__" HB:=⟨Vh,Vi,Vk⟩
 have aeM:=JD (st:=kQ) ads adv Vm
 have aeN:Binds K (fnOf "put_pin" "Frame.put_pin" (ay kQ) (aw kQ) (ag kQ) (.ref HC) Mf Mg Mh Mi HD Mj) ["self","name","x","y","hold"] []:=fun s us X hl=>match us,hl with | [_,_,_,_,_],_=>BindsTo.of_defaults rfl (X _ _ Vl) rfl rfl rfl
 have V_:Binds K (fnOf "put_pin" "Frame.put_pin" (ay kQ) (aw kQ) (ag kQ) (.ref HC) Mf Mg Mh Mi HD Mj) ["self","name","x","y","hold"] [.none]:=fun s us X hl=>match us,(show us.length=4 by simpa using hl) with | [_,_,_,_],_=>BindsTo.of_defaults rfl (X _ _ Vl) rfl rfl rfl
 have V':Meth K bJ "put_pin" Kx:=⟨adp,adq,Vm⟩
 have Wa:=cJ (st:=zJ) ady adz Vo
 have aeO:=Wa.xx (ps:=["self","name","one","other"])
 have aeP:Meth K bJ "put_bar" Ky:=⟨adw,adx,Vo⟩
 have Wb:=cJ (st:=zK) adC adD Vq
 have aeQ:=Wb.xx (ps:=["self","name","one","other"])
 have aeR:Meth K bJ "check_bar" Kz:=⟨adA,adB,Vq⟩
 have Wc:=cJ (st:=zL) adG adH Vs
 have aeS:=Wc.xx (ps:=["self","pin"])
 have aeT:Meth K bJ "check_pin" KA:=⟨adE,adF,Vs⟩
 have fZ:=cJ (st:=bU) ka kb fY
 have kc:=fZ.xx (ps:=["self","name"])
 have kd:Meth K bJ "take_pin" cZ:=⟨j9,j_,fY⟩
 have Wd:=cJ (st:=zM) adK adL Vu
 have aeU:=Wd.xx (ps:=["self"])
 have aeV:Meth K bJ "pins" KC:=⟨adI,adJ,Vu⟩
 have We:=cJ (st:=zN) adO adP Vw
 have aeW:=We.xx (ps:=["self"])
 have aeX:Meth K bJ "bars" KD:=⟨adM,adN,Vw⟩
 have Wf:=cJ (st:=zO) adS adT Vy
 have aeY:=Wf.xx (ps:=["self","pin"])
 have aeZ:Meth K bJ "place" KG:=⟨adQ,adR,Vy⟩
 have Wg:=cJ (st:=zP) adW adX VA
 have ae0:=Wg.xx (ps:=["self","pin"])
 have ae1:Meth K bJ "ways" KH:=⟨adU,adV,VA⟩
 have Wh:=cJ (st:=zQ) ad0 ad1 VC
 have ae2:=Wh.xx (ps:=["self","bar"])
 have ae3:Meth K bJ "ends" KI:=⟨adY,adZ,VC⟩
 have cls_cm:sS K k_:=⟨VD,VE,VF,VG⟩
 have aqp:OZ K k_:=⟨VH,VJ,VI⟩
 have ae4:=cJ (st:=JM) ad4 ad5 VM
 have aqq:=ae4.xx (ps:=["self"])
 have aqr:Meth K k_ "ways" KJ:=⟨ad2,ad3,VM⟩
 have wA:sS K ip:=⟨VN,VO,VP,VQ⟩
 have AB:Mk K ip HE:=⟨VR,VT,VU,VS⟩
 have Wi:=cJ (st:=zR) ad6 ad7 VX
 have AD:=Wi.xx (ps:=["self","x","y"])
 have aqs:Meth K ip "__init__" HE:=⟨VT,VU,VX⟩
 have Wj:=cJ (st:=zS) ad' aea VZ
 have ae5:=Wj.xx (ps:=["self"])
 have ae6:Meth K ip "ways" KL:=⟨ad8,ad9,VZ⟩
 have OS:sS K j8:=⟨V0,V1,V2,V3⟩
 have AA:OZ K j8:=⟨V4,V6,V5⟩
 have Wk:=cJ (st:=zT) aed aee V8
 have ae7:=Wk.xx (ps:=["self"])
 have ae8:Meth K j8 "ways" KN:=⟨aeb,aec,V8⟩
 have NJ:=mg_of X G acI
 have NL:=mg_of X G acJ
 have NV:mg "NOUGHT"=some (.ref OK):=mg_of X G acK
 have NW:mg "ONE"=some (.ref OL):=mg_of X G acO
 have NM:mg "NO_MOVE"=some (.ref OM):=mg_of X G acS
 have aqt:mg "YardError"=some (.ref ac1):=mg_of X G ac0
 have aqu:mg "NoWay"=some (.ref ac3):=mg_of X G ac2
 have aqv:mg "PinThere"=some (.ref ac5):=mg_of X G ac4
 have aqw:mg "SpotTaken"=some (.ref ac7):=mg_of X G ac6
 have aqx:mg "NoPin"=some (.ref ac9):=mg_of X G ac8
 have Pp:mg "PinBusy"=some (.ref AV):=mg_of X G AU
 have aqy:mg "BarThere"=some (.ref ada):=mg_of X G ac'
 have aqz:mg "NoBar"=some (.ref ade):=mg_of X G adb
 have aqA:mg "NoLength"=some (.ref adg):=mg_of X G adf
 have aqB:mg "TooMany"=some (.ref adi):=mg_of X G adh
 have N7:mg "Frame"=some (.ref bJ):=mg_of X G adj
 have aqC:mg "Hold"=some (.ref k_):=mg_of X G adk
 have z9:mg "Roller"=some (.ref ip):=mg_of X G adl
 have z_:mg "Fixed"=some (.ref j8):=mg_of X G adm
 have KP:mg "ValueError"=none:=mg_none_of X G sr
 have qm:mg "abs"=none:=mg_none_of X G U5
 have FW:mg "all"=none:=mg_none_of X G U6
 have FT:mg "any"=none:=mg_none_of X G U7
 have j4:mg "bool"=none:=mg_none_of X G ON
 have j5:mg "dict"=none:=mg_none_of X G OO
 have dA:mg "enumerate"=none:=mg_none_of X G uX
 have iC:mg "int"=none:=mg_none_of X G U8
 have bc:mg "isinstance"=none:=mg_none_of X G sx
 have bE:mg "len"=none:=mg_none_of X G U9
 have bL:mg "list"=none:=mg_none_of X G OP
 have FN:mg "min"=none:=mg_none_of X G U_
 have bQ:mg "range"=none:=mg_none_of X G Kv
 have FI:mg "str"=none:=mg_none_of X G U'
 have eR:mg "tuple"=none:=mg_none_of X G Kw
 have EI:mg "zip"=none:=mg_none_of X G Va
 have F:=cJ (st:=jk) U0 U1 U2
 refine ⟨fnOf "law" "law" (ay jk) (aw jk) (ag jk) .none OF OG OH OI HA OJ,fun s v=>.of_eq rfl,fun base _ _=> ?_⟩
 have hM:tu (a8 l.prog w):=a8.qS
 have hN:∀H:Hp,bK K H OK [.int 0,.int 1]:=fun H=>.inr ⟨_,_,_,acL,rfl,rfl,(by show 2≤sizeLine;decide),.cons ⟨_,rfl⟩ (.cons ⟨_,rfl⟩ .nil)⟩
 have hO:∀H:Hp,bK K H OL [.int 1,.int 1]:=fun H=>.inr ⟨_,_,_,acP,rfl,rfl,(by show 2≤sizeLine;decide),.cons ⟨_,rfl⟩ (.cons ⟨_,rfl⟩ .nil)⟩
 have nm:∀{c:Addr} {o:Option Addr} {k0 k1:Tok} {n:Nat} {sl:Array (Option Value)},K.lookup c=some ⟨.type "tuple",o,.seq #[.int 0 k0,.int 1 k1] n,sl⟩→∀H:Hp,gA K H (.ref c) 0:=fun t H=>⟨_,rfl,by rw [cC];exact .inr ⟨_,_,_,t,rfl,rfl,(by show 2≤sizeLine;decide),.cons ⟨_,rfl⟩ (.cons ⟨_,rfl⟩ .nil)⟩⟩
 have hMo:∀H:Hp,dZ K H (.ref OM) (0,0):=fun H=>⟨_,.ref U3,.ref U4,rfl,.inr ⟨_,_,_,acT,rfl,rfl,(by show 2≤sizeLine;decide),.cons rfl (.cons rfl .nil)⟩,nm acU H,nm acX H⟩
 have fc:AZ K bJ:=⟨eJ,HF,OQ,OR⟩
 have G1:=QZ (P:=l.prog) (w:=w) (base:=base) (CX:=a8 l.prog w) aeh qm
 have G2:=Q0 ht aeg G1
 have GW:=Q4 aeo G1
 have GDv:=Q6 ht aes G1
 have GCl:=Q7 ht aer EI G1 GDv
 have GF:=Q8 (P:=l.prog) (w:=w) (base:=base) aeq dA
 have GR:=Q_ aep bQ bL GF GCl
 have GD:=NH (Rh hM aef G2)
 have GPD:=Rj hM aej GD
 have GI:=Rn (P:=l.prog) (w:=w) (mg:=mg) (base:=base) V9 fc
 have MBs:bI l.prog w K mg base (a8 l.prog w) 1 bJ "bars" ["self"] (rA K bJ):=⟨_,_,eJ,aeX,Rp We fc bL,aeW⟩
 have Xh:bI l.prog w K mg base (a8 l.prog w) 1 bJ "pins" ["self"] (iO K bJ):=⟨_,_,eJ,aeV,Rr Wd fc bL,aeU⟩
 have Xi:bI l.prog w K mg base (a8 l.prog w) 1 bJ "check_pin" ["self","pin"] (dw K bJ):=⟨_,_,eJ,aeT,Ru Wc fc,aeS⟩
 have MCb:bI l.prog w K mg base (a8 l.prog w) 2 bJ "check_bar" ["self","name","one","other"] (gk K bJ):=⟨_,_,eJ,aeR,RL Wb fc NL bE Xi,aeQ⟩
 have Zp:bI l.prog w K mg base (a8 l.prog w) 3 bJ "put_bar" ["self","name","one","other"] (jq K bJ):=⟨_,_,eJ,aeP,RO Wa fc MCb,aeO⟩
 have okP:=RJ (P:=l.prog) (w:=w) (mg:=mg) (base:=base) aeM fc NJ bE bL
 have LD:bI l.prog w K mg base (a8 l.prog w) 3 bJ "put_pin" ["self","name","x","y","hold"] (b9 l.prog w K mg base bJ):=⟨_,_,eJ,V',okP,aeN⟩
 have Kh:mS l.prog w K mg base (a8 l.prog w) 3 bJ "put_pin" ["self","name","x","y","hold"] [.none] (b9 l.prog w K mg base bJ):=⟨_,_,eJ,V',okP,V_⟩
 have MPl:bI l.prog w K mg base (a8 l.prog w) 2 bJ "place" ["self","pin"] (lQ K bJ):=⟨_,_,eJ,aeZ,Rw Wf fc Xi,aeY⟩
 have ME:bI l.prog w K mg base (a8 l.prog w) 1 bJ "ends" ["self","bar"] (rB K bJ):=⟨_,_,eJ,ae3,Ry Wh fc,ae2⟩
 have MW:bI l.prog w K mg base (a8 l.prog w) 2 bJ "ways" ["self","pin"] (rC K bJ):=⟨_,_,eJ,ae1,RA Wg fc bL Xi,ae0⟩
 have wR:bI l.prog w K mg base (a8 l.prog w) 1 ip "ways" ["self"] (gi K ip):=⟨_,_,wA,ae6,RE Wj wA Ml,ae5⟩
 have wF:bI l.prog w K mg base (a8 l.prog w) 1 j8 "ways" ["self"] (gj K):=⟨_,_,OS,ae8,RG Wk,ae7⟩
 have GRI:=RC (P:=l.prog) (w:=w) (mg:=mg) (base:=base) Wi wA Ml
 have GA:=RT aei MPl GPD
 have GPR:=RU hMo NM aek Xh
 have GBR:=RW ael GA GPR
 have GDR:=RY aem Xh MW MBs ME GPR GBR
 have GMF:=R7 aen dA Xh
 have GC:=Sl (P:=l.prog) (w:=w) (base:=base) (CX:=a8 l.prog w) aet bE
 have Mm:=So (P:=l.prog) (w:=w) (base:=base) (CX:=a8 l.prog w) aeu
 have GLo:=Sq (w:=w) (base:=base) ht aev qm
 have Wm:=Ss (P:=l.prog) (w:=w) (base:=base) aew
 have GTi:=Sv (P:=l.prog) (w:=w) (base:=base) aex
 have GTu:=Sx (P:=l.prog) (w:=w) (base:=base) aey
 have GNa:=Sy hM aez FI Mm
 have GSp:=SA aeA Mm GLo
 have GWy:=SD aeB Mm GLo
 have GPi:=SG aeC bQ FN GC Mm GSp GWy GNa Wm
 have GBa:=SJ aeD bQ bE GC Mm GNa
 have GFr:=SK aeE bE N6 N7 GI N8 z9 z_ AA AB GRI AD (wR.mono (by decide)) (wF.mono (by decide)) Zp LD Kh
 have ZE:bI l.prog w K mg base (a8 l.prog w) 2 bJ "take_pin" ["self","name"] (gm K bJ):=⟨_,_,eJ,kd,jr fZ fc Xi,kc⟩
 have GAr:=SR aeF Wm GTu
 have GDo:=SU aeI Wm GTi
 have GLg:=SW aeJ bQ Wm GTu GAr GDo
 have GKp:=SY aeK GDo
 have GNu:=S2 aeG bE bc iC j4 eR GLo
 have GIM:=S4 aeH bc j5 bL eR bE GNu
 have GSL:=oJ hN NV hO NW sy G2
 have GSC:=jZ lh bQ GW GR GSL
 have GPa:=uI wu Xh
 have GMo:=oM sC bE GPa GDR GSC GMF
 have GPt:=nU ph bE z9 z_ AA AB GRI AD (wR.mono (by decide)) (wF.mono (by decide)) LD Kh
 have GPo:=nY pj bE bQ FT iC Mm ZE
 have GPn:=oO sD Mm GWy Wm GPt
 have GOn:=vZ AW GIM GLg GKp
 have GRi:=S_ aeL bc j5 eR iC j4 bE bL FW GOn
 have GCo:=uT (P:=l.prog) (w:=w) (base:=base) wz bL
 exact Oo F bL GC Mm GPi GBa GFr GMo GRi GCo Kh GPo GPn
end T_k43
open PySem PySem.W PyProof.Rows
set_option maxRecDepth 100000 in
set_option maxHeartbeats 0 in
theorem PySem.Challenge.cw_trussyard_k43_free_pairs_holds : PySem.Challenge.rw_trussyard_k43_free_pairs.Holds := by
 w_on;o_law;k_head;(case hw=>w_witness2)
 k_fill
 refine Ty.walk (l:=PySem.Challenge.rw_trussyard_k43_free_pairs) (x:="_law_script") (k:=42) (CX:=fun w=>Ty.a8 (PySem.Challenge.rw_trussyard_k43_free_pairs).prog w) rfl rfl (by first | rfl | decide+kernel) ⟨rfl,by decide,by decide⟩ (fun w h Y=>PySem.W.kIn_of Y) (fun w=>Ty.a8.qS) ?F
 case F=>
  intro w mg fa h KX G Ql
  refine' T_k43.all_mk KX G Ql ?A0 ?A1 ?A2 ?A3 ?A4 ?A5 ?A6 ?A7 ?A8 ?A9 ?Aa ?Ab ?Ac ?Ad ?Ae ?Af ?Ag ?Ah ?Ai ?Aj ?Ak ?Al ?Am ?An ?Ao ?Ap ?Aq ?Ar ?As ?At ?Au ?Av ?Aw ?Ax ?Ay ?Az ?B0 ?B1 ?B2 ?B3 ?B4 ?B5 ?B6 ?B7 ?B8 ?B9 ?Ba ?Bb ?Bc ?Bd ?Be ?Bf ?Bg ?Bh ?Bi ?Bj ?Bk ?Bl ?Bm ?Bn ?Bo ?Bp ?Bq ?Br ?Bs ?Bt ?Bu ?Bv ?Bw ?Bx ?By ?Bz ?C0 ?C1 ?C2 ?C3 ?C4 ?C5 ?C6 ?C7 ?C8 ?C9 ?Ca ?Cb ?Cc ?Cd ?Ce ?Cf ?Cg ?Ch ?Ci ?Cj ?Ck ?Cl ?Cm ?Cn ?Co ?Cp ?Cq ?Cr ?Cs ?Ct ?Cu ?Cv ?Cw ?Cx ?Cy ?Cz ?D0 ?D1 ?D2 ?D3 ?D4 ?D5 ?D6 ?D7 ?D8 ?D9 ?Da ?Db ?Dc ?Dd ?De ?Df ?Dg ?Dh ?Di ?Dj ?Dk ?Dl ?Dm ?Dn ?Do ?Dp ?Dq ?Dr ?Ds ?Dt ?Du ?Dv ?Dw ?Dx ?Dy ?Dz ?E0 ?E1 ?E2 ?E3 ?E4 ?E5 ?E6 ?E7 ?E8 ?E9 ?Ea ?Eb ?Ec ?Ed ?Ee ?Ef ?Eg ?Eh ?Ei ?Ej ?Ek ?El ?Em ?En ?Eo ?Ep ?Eq ?Er ?Es ?Et ?Eu ?Ev ?Ew ?Ex ?Ey ?Ez ?F0 ?F1 ?F2 ?F3 ?F4 ?F5 ?F6 ?F7 ?F8 ?F9 ?Fa ?Fb ?Fc ?Fd ?Fe ?Ff ?Fg ?Fh ?Fi ?Fj ?Fk ?Fl ?Fm ?Fn ?Fo ?Fp ?Fq ?Fr ?Fs ?Ft ?Fu ?Fv ?Fw ?Fx ?Fy ?Fz ?G0 ?G1 ?G2 ?G3 ?G4 ?G5 ?G6 ?G7 ?G8 ?G9 ?Ga ?Gb ?Gc ?Gd ?Ge ?Gf ?Gg ?Gh ?Gi ?Gj ?Gk ?Gl ?Gm ?Gn ?Go ?Gp ?Gq ?Gr ?Gs ?Gt ?Gu ?Gv ?Gw ?Gx ?Gy ?Gz ?H0 ?H1 ?H2 ?H3 ?H4 ?H5 ?H6 ?H7 ?H8 ?H9 ?Ha ?Hb ?Hc ?Hd ?He ?Hf ?Hg ?Hh ?Hi ?Hj ?Hk ?Hl ?Hm ?Hn ?Ho ?Hp ?Hq ?Hr ?Hs ?Ht ?Hu ?Hv ?Hw ?Hx ?Hy ?Hz ?I0 ?I1 ?I2 ?I3 ?I4 ?I5 ?I6 ?I7 ?I8 ?I9 ?Ia ?Ib ?Ic ?Id ?Ie ?If ?Ig ?Ih ?Ii ?Ij ?Ik ?Il ?Im ?In ?Io ?Ip ?Iq ?Ir ?Is ?It ?Iu
  (case A0=>k_is);(case A1=>k_is);(case A2=>k_is);(case A3=>k_is);(case A4=>k_is);(case A5=>k_is);(case A6=>k_is);(case A7=>k_is);(case A8=>k_is);(case A9=>k_is);(case Aa=>k_is);(case Ab=>k_is);(case Ac=>k_is);(case Ad=>k_is);(case Ae=>k_is);(case Af=>k_is);(case Ag=>k_is);(case Ah=>k_is);(case Ai=>k_is);(case Aj=>k_is);(case Ak=>k_is);(case Al=>k_is);(case Am=>k_is);(case An=>k_is);(case Ao=>k_is);(case Ap=>k_is);(case Aq=>k_is);(case Ar=>k_is);(case As=>k_is);(case At=>k_is);(case Au=>k_is);(case Av=>k_is);(case Aw=>k_is);(case Ax=>k_is);(case Ay=>k_is);(case Az=>k_is);(case B0=>k_is);(case B1=>k_is);(case B2=>k_is);(case B3=>k_is);(case B4=>k_is);(case B5=>k_is);(case B6=>k_is);(case B7=>k_is);(case B8=>k_is);(case B9=>k_is);(case Ba=>k_is);(case Bb=>k_is);(case Bc=>k_is);(case Bd=>k_is);(case Be=>k_is);(case Bf=>k_is);(case Bg=>k_is);(case Bh=>k_is);(case Bi=>k_is);(case Bj=>k_is);(case Bk=>k_is);(case Bl=>k_is);(case Bm=>k_is);(case Bn=>k_is);(case Bo=>k_is);(case Bp=>k_is);(case Bq=>k_is);(case Br=>k_is);(case Bs=>k_is);(case Bt=>k_is);(case Bu=>k_is);(case Bv=>k_is);(case Bw=>k_is);(case Bx=>k_is);(case By=>k_is);(case Bz=>k_is);(case C0=>k_is);(case C1=>k_is);(case C2=>k_is);(case C3=>k_is);(case C4=>k_is);(case C5=>k_is);(case C6=>k_is);(case C7=>k_is);(case C8=>k_is);(case C9=>k_is);(case Ca=>k_is);(case Cb=>k_is);(case Cc=>k_is);(case Cd=>k_is);(case Ce=>k_is);(case Cf=>k_is);(case Cg=>k_is);(case Ch=>k_is);(case Ci=>k_is);(case Cj=>k_is);(case Ck=>k_is);(case Cl=>k_is);(case Cm=>k_is);(case Cn=>k_is);(case Co=>k_is);(case Cp=>k_is);(case Cq=>k_is);(case Cr=>k_is);(case Cs=>k_is);(case Ct=>k_is);(case Cu=>k_is);(case Cv=>k_is);(case Cw=>k_is);(case Cx=>k_is);(case Cy=>k_is);(case Cz=>k_is);(case D0=>k_is);(case D1=>k_is);(case D2=>k_is);(case D3=>k_is);(case D4=>k_is);(case D5=>k_is);(case D6=>k_is);(case D7=>k_is);(case D8=>k_is);(case D9=>k_is);(case Da=>k_is);(case Db=>k_is);(case Dc=>k_is);(case Dd=>k_is);(case De=>k_is);(case Df=>k_is);(case Dg=>k_is);(case Dh=>k_is);(case Di=>k_is);(case Dj=>k_is);(case Dk=>k_is);(case Dl=>k_is);(case Dm=>k_is);(case Dn=>k_is);(case Do=>k_is);(case Dp=>k_is);(case Dq=>k_is);(case Dr=>k_is);(case Ds=>k_is);(case Dt=>k_is);(case Du=>k_is);(case Dv=>k_is);(case Dw=>k_is);(case Dx=>k_is);(case Dy=>k_is);(case Dz=>k_is);(case E0=>k_is);(case E1=>k_is);(case E2=>k_is);(case E3=>k_is);(case E4=>k_is);(case E5=>k_is);(case E6=>k_is);(case E7=>k_is);(case E8=>k_is);(case E9=>k_is);(case Ea=>k_is);(case Eb=>k_is);(case Ec=>k_is);(case Ed=>k_is);(case Ee=>k_is);(case Ef=>k_is);(case Eg=>k_is);(case Eh=>k_is);(case Ei=>k_is);(case Ej=>k_is);(case Ek=>k_is);(case El=>k_is);(case Em=>k_is);(case En=>k_is);(case Eo=>k_is);(case Ep=>k_is);(case Eq=>k_is);(case Er=>k_is);(case Es=>k_is);(case Et=>k_is);(case Eu=>k_is);(case Ev=>k_is);(case Ew=>k_is);(case Ex=>k_is);(case Ey=>k_is);(case Ez=>k_is);(case F0=>k_is);(case F1=>k_is);(case F2=>k_is);(case F3=>k_is);(case F4=>k_is);(case F5=>k_is);(case F6=>k_is);(case F7=>k_is);(case F8=>k_is);(case F9=>k_is);(case Fa=>k_is);(case Fb=>k_is);(case Fc=>k_is);(case Fd=>k_is);(case Fe=>k_is);(case Ff=>k_is);(case Fg=>k_is);(case Fh=>k_is);(case Fi=>k_is);(case Fj=>k_is);(case Fk=>k_is);(case Fl=>k_is);(case Fm=>k_is);(case Fn=>k_is);(case Fo=>k_is);(case Fp=>k_is);(case Fq=>k_is);(case Fr=>k_is);(case Fs=>k_is);(case Ft=>k_is);(case Fu=>k_is);(case Fv=>k_is);(case Fw=>k_is);(case Fx=>k_is);(case Fy=>k_is);(case Fz=>k_is);(case G0=>k_is);(case G1=>k_is);(case G2=>k_is);(case G3=>k_is);(case G4=>k_is);(case G5=>k_is);(case G6=>k_is);(case G7=>k_is);(case G8=>k_is);(case G9=>k_is);(case Ga=>k_is);(case Gb=>k_is);(case Gc=>k_is);(case Gd=>k_is);(case Ge=>k_is);(case Gf=>k_is);(case Gg=>k_is);(case Gh=>k_is);(case Gi=>k_is);(case Gj=>k_is);(case Gk=>k_is);(case Gl=>k_is);(case Gm=>k_is);(case Gn=>k_is);(case Go=>k_is);(case Gp=>k_is);(case Gq=>k_is);(case Gr=>k_is);(case Gs=>k_is);(case Gt=>k_is);(case Gu=>k_is);(case Gv=>k_is);(case Gw=>k_is);(case Gx=>k_is);(case Gy=>k_is);(case Gz=>k_is);(case H0=>k_is);(case H1=>k_is);(case H2=>k_is);(case H3=>k_is);(case H4=>k_is);(case H5=>k_is);(case H6=>k_is);(case H7=>k_is);(case H8=>k_is);(case H9=>k_is);(case Ha=>k_is);(case Hb=>k_is);(case Hc=>k_is);(case Hd=>k_is);(case He=>k_is);(case Hf=>k_is);(case Hg=>k_is);(case Hh=>k_is);(case Hi=>k_is);(case Hj=>k_is);(case Hk=>k_is);(case Hl=>k_is);(case Hm=>k_is);(case Hn=>k_is);(case Ho=>k_is);(case Hp=>k_is);(case Hq=>k_is);(case Hr=>k_is);(case Hs=>k_is);(case Ht=>k_is);(case Hu=>k_is);(case Hv=>k_is);(case Hw=>k_is);(case Hx=>k_is);(case Hy=>k_is);(case Hz=>k_is);(case I0=>k_is);(case I1=>k_is);(case I2=>k_is);(case I3=>k_is);(case I4=>k_is);(case I5=>k_is);(case I6=>k_is);(case I7=>k_is);(case I8=>k_is);(case I9=>k_is);(case Ia=>k_is);(case Ib=>k_is);(case Ic=>k_is);(case Id=>k_is);(case Ie=>k_is);(case If=>k_is);(case Ig=>k_is);(case Ih=>k_is);(case Ii=>k_is);(case Ij=>k_is);(case Ik=>k_is);(case Il=>k_is);(case Im=>k_is);(case In=>k_is);(case Io=>k_is);(case Ip=>k_is);(case Iq=>k_is);(case Ir=>k_is);(case Is=>k_is);(case It=>k_is);(case Iu=>rfl)
#print axioms PySem.Challenge.cw_trussyard_k43_free_pairs_holds
