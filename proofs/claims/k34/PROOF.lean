import PyProof.Rows.All
import Wide.All
import OpenK.AllK
import Wide.FinOn
import Lean
import PyProof.EqAt
import PyProof.EqKinds
import PyProof.TupleCall
import PyProof.ZipIter
import PyProof.SumWalkG
import PyProof.ListCopy
import PyProof.ListStr
import PyProof.DictItems
import PyProof.DictWalks
import PyProof.DictTruth
import PyProof.EnumMake
import PyProof.InstStoreFacts
import PyProof.Rows.SortWalk
import PyProof.ListRange
import PyProof.DictValues
import KE.KRevSl
import KE.KDictOf
import PyProof.DictIter
import PyProof.FactsAll.dict_1
import PyProof.AttrMissHeap
import KE.KEqDict
import KE.KDictList
import KE.KItemsList
import PySem.Challenge.RW_trussyard_k34_whole_rest_or_motion
set_option Elab.async false
set_option linter.all false
set_option maxRecDepth 100000
theorem gE.{u}{α:Type u}{l:List α}{i:Nat}(h:i < l.length):l[i]? =some l[i]:=List.getElem?_eq_getElem h
namespace PySem.W.Fast
def tw12317599827168202652:=()
def tw16970975783008409103:=()
def tw8109255965378695171:=()
def tw9048988947242287630:=()
def tw13040726171617110341:=()
def tw5636722248208109508:=()
def tw15757761205230563890:=()
def tw15064812446926880467:=()
def tw15642689772996901704:=()
def tw3094685913679316168:=()
def tw8033108020531172519:=()
def tw17655048646863831071:=()
def tw1862085471601823624:=()
def tw11649049931310696072:=()
def tw549023156714282355:=()
def tw16546365443419391089:=()
def tw6311445617948548517:=()
def tw13439055243388234784:=()
def tw4452119855296152334:=()
def tw4003371479877289092:=()
def tw12012491043564498900:=()
def tw16149051183352826919:=()
def tw6723369929521400974:=()
def tw16925013359579504739:=()
def tw8441613726465178554:=()
def tw4346343280158977087:=()
def tw16141143954130647871:=()
def tw11284369872542455841:=()
def tw15591069620357319684:=()
def tw3113807399291559283:=()
def tw16024871996375154965:=()
def tw1127969996288628258:=()
def tw3038885028526145251:=()
def tw338097564607528235:=()
def tw770002986766535471:=()
def tw16977459099361776344:=()
def tw12011450905532406984:=()
def tw16550408417997070234:=()
def tw14392621585068838649:=()
def tw9018939974966676874:=()
def tw8432890484381778437:=()
def tw6017415788120924970:=()
def tw3790267646359916669:=()
def tw14407467162838070922:=()
def tw75283009770830617:=()
def tw12870968677175242967:=()
def tw12279086599552161514:=()
def tw5105852452913456313:=()
def tw17493500478996796794:=()
def tw5326830481872671267:=()
def tw15265483428154767562:=()
def tw5717655475554131973:=()
def tw13580376978318031206:=()
def tw13386226225334431098:=()
def tw10249475090647832468:=()
def tw2289488057240168296:=()
def tw10063214447910791450:=()
def tw409363941532596880:=()
def tw2733928149000659918:=()
def tw6768915728528804014:=()
def tw1581585310030509151:=()
def tw18424450379602413305:=()
def tw11631932376593253756:=()
def tw17624403867223410064:=()
def tw14327637962546526629:=()
def tw3410207047209744517:=()
def tw10520451890047426770:=()
def tw16263813705686675165:=()
def tw16800550325822263793:=()
def tw17020351468369705162:=()
def tw17822186982991071300:=()
def tw13464795019434819450:=()
def tw10172626902401135007:=()
def tw206556263232440042:=()
def tw8265690318460496216:=()
def tw17000735826582510350:=()
def tw4895445900676494966:=()
def tw13850387078888146475:=()
def tw15019998702021744648:=()
def tw2190634867629407319:=()
def tw12361569310356083878:=()
def tw4625043585256538930:=()
def tw9195895356314597684:=()
def tw11204577274639713879:=()
def tw10427334444989502417:=()
def tw14141645875237213477:=()
def tw9387931192661014971:=()
def tw13513654731413210643:=()
def tw6568399587911356171:=()
def tw12915789056310741707:=()
def tw8720245336518046298:=()
def tw9790697067131078601:=()
def tw5308861938424464831:=()
def tw10815026666839244037:=()
def tw13578984638870301512:=()
def tw13442756256865825952:=()
def tw17148205320039619447:=()
def tw4598511025998995408:=()
def tw6793989353518359611:=()
def tw15015869194361383065:=()
def tw9799656736316443814:=()
def tw13275751775240923632:=()
def tw12574370927698122925:=()
def tw2443739342902527310:=()
def tw586361113574569794:=()
def tw5030410125718891596:=()
def tw3836335522151159701:=()
def tw2988771581417112593:=()
def tw8701536230425215592:=()
def tw604159478643082466:=()
def tw2128311978829827834:=()
def tw6845311363406276752:=()
def tw14054034534877699369:=()
def tw10532924400360456899:=()
def tw8923613680094576357:=()
def tw6141153633860868142:=()
def tw9438421258197333988:=()
def tw16582947033594426656:=()
def tw8632553343179275390:=()
def tw17580104446954455467:=()
def tw2644902433835573145:=()
def tw4430289573845655966:=()
def tw14420744283962327990:=()
def tw3515537103032096341:=()
def tw11394349456848608147:=()
def tw11621218387404049073:=()
def tw11363537566192860324:=()
def tw13030496433404305412:=()
def tw9765356066662507107:=()
def tw5417824837374662204:=()
def tw4950957870379130353:=()
def tw14527151509305312532:=()
def tw11087029533963713849:=()
def tw8414951068341725574:=()
def tw6870801477086306931:=()
def tw5343168647464592868:=()
def tw3000225321156684876:=()
def tw9388215763574266300:=()
def tw4086386719883081231:=()
def tw13924299893477567746:=()
def tw4771824510122283763:=()
def tw11168892283480244416:=()
def tw18092958654244086098:=()
def tw12687842404599524050:=()
def tw8374341649526222285:=()
def tw15992820087426520364:=()
def tw13958474923009705632:=()
def tw10517378790002643535:=()
def tw7089994294935290451:=()
def tw641164888334692688:=()
def tw13743480717238465781:=()
def tw10231857051943694830:=()
def tw11633957148744108632:=()
def tw17759117343973420073:=()
def tw6881962686763595884:=()
def tw8849178461509546957:=()
def tw8857508301162432075:=()
def tw8567776814683230416:=()
def tw16043468207413208824:=()
def tw8564799972064621843:=()
def tw3157618118821395030:=()
def tw5424692950581237419:=()
def tw3950591498319808136:=()
def tw17888924648141984768:=()
def tw347143788938227814:=()
def tw2030136700003848433:=()
def tw5266973602999383259:=()
def tw12304010552042658906:=()
def tw17785800532842436639:=()
def tw1137222641063506842:=()
def tw1034782543774115475:=()
def tw4038608445645964351:=()
def tw11182827173246708040:=()
def tw9211706682313770891:=()
def tw11289862088009220831:=()
def tw6494078404429800836:=()
def tw9934546433123926417:=()
def tw3487398864041488091:=()
def tw13790066003148448744:=()
def tw14591950356070478122:=()
def tw4037323180927450495:=()
def tw2841777408803173723:=()
def tw15849491961334381452:=()
def tw10111545257361834197:=()
def tw17477264185352924255:=()
def tw14636191679488893511:=()
def tw12265129102908562467:=()
def tw11818677544538260315:=()
def tw8531143583334857900:=()
def tw6158710298016419111:=()
def tw12205267460764469173:=()
def tw4450143374084642394:=()
def tw2770682178848599847:=()
def tw3235808674883608394:=()
def tw8901874428289247962:=()
def tw16504258911465758307:=()
def tw15652978553432080466:=()
def tw3403424847859032967:=()
def tw1555273518876045862:=()
def tw11424784861953308635:=()
def tw2555876961400450377:=()
def tw7463278433259469524:=()
def tw10048858092190151957:=()
def tw17707848483291590142:=()
def tw15378795568416257167:=()
def tw378118722668535078:=()
def tw9278804006926435950:=()
def tw11562277431634598165:=()
def tw11751198492236448674:=()
def tw14016744544764545039:=()
def tw17952799741820555725:=()
def tw5759553223843544789:=()
def tw6276510292117501310:=()
def tw8936858283230362589:=()
def tw4114805478496350551:=()
def tw14687834844997944819:=()
def tw9686171325267350377:=()
def tw16771464559035696416:=()
def tw12680228200928234603:=()
def tw5749796731271441526:=()
def tw3770267206734145142:=()
def tw4342530925470806920:=()
def tw10690347003341389034:=()
def tw7899703198897646546:=()
end PySem.W.Fast
open Array renaming length_toList→aoZ, toList→apW
open Bool renaming false_ne_true→aeQ, and_eq_true→afE, eq_iff_iff→afZ, false_eq_true→aga, eq_false_iff→agi, and_false→agA, and_true→ao3, or_false→apS
open Classical renaming propDecidable→afs, byContradiction→afy, not_imp→aku, not_forall→aoW
open Int renaming zero_add→afa, ne_of_gt→afd, gcd→afi, natAbs_mul→afB, gcd_dvd_right→afK, mul_comm→afL, mul_pos→afM, gcd_dvd_left→afT, fmod_nonneg_of_pos→afX, natAbs_dvd_natAbs→af2, fdiv_eq_of_eq_mul_right→af5, natAbs_add_le→af6, mul_zero→agd, mul_assoc→agr, fmod_lt_of_pos→agz, mul_neg_of_pos_of_neg→ag_, lt_trichotomy→ai_, mul_eq_zero→aoM, natAbs_neg→aoT, gcd_zero_right→ao8, fmod_def→apa, emod_eq_of_lt→aph, gcd_mul_left→apm, gcd_pos_iff→apu, mul_ne_zero→apv, dvd_coe_gcd→apz
open List renaming getElem?_eq_some_iff→be, mem_of_getElem?→ir, getElem?_map→Wp, length_map→aa_, mem_map→abt, map_cons→ac_, getElem?_eq_none→aeE, mem_cons_of_mem→aeF, mem_singleton→aeH, mem_cons_self→aeI, getElem?_of_mem→aeK, getElem?_append_left→aeL, mem_append→aeM, length_append→aeO, getElem?_append_right→aeP, map_append→aeR, map_map→aeS, size_toArray→aeU, getD_eq_getElem?_getD→aeV, replicate→aeW, flatMap_cons→aeZ, mem_cons→ae1, length_take→ae2, map_congr_left→ae3, sum_cons→ae5, length_cons→ae6, mem_append_right→ae7, nodup_cons→ae9, mem_append_left→ae_, take_length→afc, ext_getElem?→afg, map_nil→afh, mem_iff_getElem→afk, zipWith→afm, getElem?_replicate→afr, getElem?_set→aft, take_of_length_le→afu, length_reverse→afv, flatMap_append→afw, getElem_mem→afz, mem_flatMap→afA, replicate_succ→afD, length_replicate→afF, getElem?_zipWith→afG, nil_append→afH, lookup→afI, length→afJ, take_add_one→afN, length_eraseIdx→afO, nodup_append→afP, sum_nil→afQ, mem_of_mem_eraseIdx→afR, mem_range→afS, any_eq_true→afU, range→afV, getElem?_eraseIdx→afY, find?_cons→af1, getElem?_reverse→af3, append_assoc→af4, cons_append→af8, filterMap_cons→af9, any_cons→af_, flatten_cons→agc, getElem?_inj→agf, pairwise_map→agg, take_append_drop→agl, pairwise_reverse→agm, length_drop→agn, filter_cons→ago, map_reverse→agp, all_cons→agq, append_nil→agt, length_nil→agu, mem_filterMap→agy, nodup_nil→agB, length_eq_zero_iff→anX, length_eraseIdx_le→an_, mem_reverse→aoD, getElem?_set_self→aoE, range_succ_eq_map→aoG, zipWith_cons_cons→aoI, getElem_cons_drop→aoJ, mem_filter→aoK, of_mem_zip→aoL, length_singleton→aoO, eq_nil_or_concat→aoP, concat_eq_append→aoQ, length_filter_le→aoR, getElem?_set_ne→aoS, mem_of_mem_take→aoY, getElem?_range→ao0, take_succ_cons→ao1, drop_succ_cons→ao2, Nodup→ao5, forIn_toArray→ao6, pairwise_cons→ao7, zip_cons_cons→ao9, all_map→apb, getElem_take→apf, getElem_inj→apk, lookup_cons→apn, cons_ne_nil→apo, flatMap_nil→apq, forIn_cons→apw, sum_append→apA, foldl→apD, forIn_nil→apF
open List.Pairwise renaming imp→agh, imp_of_mem→al_
open Nat renaming le_trans→ad_, le_refl→aeG, lt_of_le_of_lt→aeJ, lt_of_lt_of_le→aeT, mul_le_mul_right→aeX, pow_le_pow_right→ae0, ne_of_lt→ae4, zero_le→ae', lt_succ_self→afe, lt_irrefl→afj, le_of_lt→afl, mul_le_mul→afn, lt_succ_iff_lt_or_eq→afo, add_mul→afx, not_lt_zero→afC, ne_of_gt→afW, lt_succ_of_lt→af7, one_le_two_pow→agb, pow_succ→age, zero_mul→agk, pow_add→ags, min_eq_left→agv, pow_le_pow_left→agw, mul_comm→agx, le_of_not_lt→am_, le_add_right→aoC, add_comm→aoF, lt_trans→aoH, two_pow_pos→aoN, one_mul→aoV, le_of_eq→ao', min_self→apc, le_succ_of_le→ape, le_succ→aps
open Ne renaming symm→ae8
open Option renaming map_eq_some_iff→aeN, map_some→af0, isSome_map→aj_, isSome_iff_exists→ak_, getD_none→apl, none→ap4
open Option.some renaming inj→aeY
open Or renaming inl→ab_, inr→aff
open Prod renaming ext→aoU, fst→ap7, snd→ap8
open Rat renaming intCast_mul→afp, intCast_inj→af', intCast_le_intCast→agj, num_divInt_den→ao4, sub_eq_add_neg→ao_, divInt_eq_div→apd, intCast_add→apx, intCast_sub→apy
open Sum renaming inr→afb, inl→ah_
open Sum.inl renaming inj→apr
open Sum.inr renaming inj→afq
open PySem.W (Frag nsIn codeIn keepIn fnOf mg_of mg_none_of)
namespace L2
open PySem PySem.Spec PyProof.Rows
abbrev Key:=Sum Int Str
def oB:Key→Value→Bool
 | .inl k,v=>Value.isInt k v
 | .inr x,v=>Value.isStrOf x v
def V8 (w:World):Key→Int
 | .inl k=>hashInt k
 | .inr x=>hashStr w x
theorem b8:∀{k:Key} {v:Value},oB k v=true→(∃i t,k=ah_ i∧v=Value.int i t)∨(∃x t,k=afb x∧v=Value.str x t)
 | .inl i,v,h=>by
  obtain ⟨t,e⟩:=Value.isInt_shape (k:=i) (v:=v) h
  exact .inl ⟨i,t,rfl,e⟩
 | .inr x,v,h=>by
  obtain ⟨t,e⟩:=Value.isStrOf_shape (x:=x) (v:=v) h
  exact .inr ⟨x,t,rfl,e⟩
theorem xh (i:Int)(t:Tok):oB (.inl i) (.int i t)=true:=by simp [oB,Value.isInt]
theorem xi (x:Str)(t:Tok):oB (.inr x) (.str x t)=true:=by simp [oB,Value.isStrOf]
theorem K4 (a b:Int):decide ((ah_ a:Key)=ah_ b)=(a==b):=by
 by_cases e:a=b
 ·subst e;simp
 ·have h:¬ (ah_ a:Key)=ah_ b:=fun q=>e (apr q)
  rw [decide_eq_false h]
  exact (beq_eq_false_iff_ne.mpr e).symm
theorem K5 (a b:Str):decide ((afb a:Key)=afb b)=decide (a=b):=by
 by_cases e:a=b
 ·subst e;simp
 ·have h:¬ (afb a:Key)=afb b:=fun q=>e (afq q)
  rw [decide_eq_false h,decide_eq_false e]
theorem K6 (a:Int)(b:Str):decide ((ah_ a:Key)=afb b)=false:=decide_eq_false (fun q=>nomatch q)
theorem K7 (a:Str)(b:Int):decide ((afb a:Key)=ah_ b)=false:=decide_eq_false (fun q=>nomatch q)
def bx (prog:Program)(w:World):PySem.KeyKind prog w Key where
 is:=oB
 hash:=V8 w
 inj:=fun v a b ha hb=>by
  rcases b8 ha with ⟨i,t,rfl,rfl⟩ | ⟨x,t,rfl,rfl⟩
  ·rcases b8 hb with ⟨j,u,rfl,e⟩ | ⟨y,u,rfl,e⟩
   ·injection e with e1 _;rw [e1]
   ·exact nomatch e
  ·rcases b8 hb with ⟨j,u,rfl,e⟩ | ⟨y,u,rfl,e⟩
   ·exact nomatch e
   ·injection e with e1 _;rw [e1]
 byValue:=fun k v h=>by
  rcases b8 h with ⟨i,t,rfl,rfl⟩ | ⟨x,t,rfl,rfl⟩ <;> rfl
 pyHash:=fun hv h=>by
  rcases b8 hv with ⟨i,t,rfl,rfl⟩ | ⟨x,t,rfl,rfl⟩
  ·exact wpAny_pyHash_int h
  ·exact wpAny_pyHash_str h
 eqBool:=fun hu hv h=>by
  rcases b8 hu with ⟨i,t,rfl,rfl⟩ | ⟨x,t,rfl,rfl⟩
  ·rcases b8 hv with ⟨j,u,rfl,rfl⟩ | ⟨y,u,rfl,rfl⟩
   ·rw [K4] at h;exact wpAny_eqBool_int h
   ·rw [K6] at h;exact SeqAt.EqAt.int_str i t y u _ _ _ _ h
  ·rcases b8 hv with ⟨j,u,rfl,rfl⟩ | ⟨y,u,rfl,rfl⟩
   ·rw [K7] at h;exact SeqAt.EqAt.str_int x t j u _ _ _ _ h
   ·rw [K5] at h;exact wpAny_eqBool_str h
 «strs»:=fun k x t v h=>by
  rcases b8 h with ⟨i,u,rfl,e⟩ | ⟨y,u,rfl,e⟩
  ·exact nomatch e
  ·injection e with e1 _
   subst e1
   cases v <;> rfl
theorem rQ (prog:Program)(w:World)(i:Int)(t:Tok):(bx prog w).is (.inl i) (.int i t)=true:=xh i t
theorem rR (prog:Program)(w:World)(x:Str)(t:Tok):(bx prog w).is (.inr x) (.str x t)=true:=xi x t
end L2
namespace L2
open PySem PySem.Spec PyProof.Rows
inductive V where
 | cE | bl (b:Bool) | int (i:Int) | str (x:Str) | byt (b:Array UInt8) | K8 (b:UInt64) | ref (a:Addr) | ty (n:String)
 deriving DecidableEq
def RelV:V→Value→Prop
 | .cE,u=>u=Value.none
 | .bl b,u=>u=Value.bool b
 | .int i,u=>∃t,u=Value.int i t
 | .str x,u=>∃t,u=Value.str x t
 | .byt b,u=>∃t,u=Value.bytes b t
 | .K8 b,u=>∃t,u=Value.float b t
 | .ref a,u=>u=Value.ref a
 | .ty n,u=>u=Value.type n
abbrev Vals:List V→List Value→Prop:=Paired RelV
theorem Vals.length {xs:List V}{us:List Value}(r:Vals xs us):xs.length=us.length:=Paired.length r
theorem Vals.get:∀{xs:List V} {us:List Value} {i:Nat} {x:V},Vals xs us→xs[i]? =some x→∃u,us[i]? =some u∧RelV x u
 | _,_,_,_,.nil,e=>by simp at e
 | _,_,0,_,.cons r _,e=>by simp at e;subst e;exact ⟨_,rfl,r⟩
 | _,_,i+1,x,.cons _ t,e=>by
  obtain ⟨u,h1,h2⟩:=Vals.get (i:=i) (x:=x) t (by simpa using e)
  exact ⟨u,by simpa using h1,h2⟩
theorem Vals.set {x:V}{u:Value}(r:RelV x u):∀{xs:List V} {us:List Value} (i:Nat),Vals xs us→Vals (xs.set i x) (us.set i u)
 | _,_,_,.nil=>.nil
 | _,_,0,.cons _ t=>.cons r t
 | _,_,i+1,.cons q t=>.cons q (Vals.set r i t)
theorem Vals.append:∀{xs ys:List V} {us ws:List Value},Vals xs us→Vals ys ws→Vals (xs++ys) (us++ws)
 | _,_,_,_,.nil,s=>s
 | _,_,_,_,.cons r t,s=>.cons r (Vals.append t s)
theorem Vals.take:∀{xs:List V} {us:List Value} (n:Nat),Vals xs us→Vals (xs.take n) (us.take n)
 | _,_,0,_=>.nil
 | _,_,_+1,.nil=>.nil
 | _,_,n+1,.cons r t=>.cons r (Vals.take n t)
theorem Vals.drop:∀{xs:List V} {us:List Value} (n:Nat),Vals xs us→Vals (xs.drop n) (us.drop n)
 | _,_,0,r=>r
 | _,_,_+1,.nil=>.nil
 | _,_,n+1,.cons _ t=>Vals.drop n t
def gI:Option V→Option Value→Prop
 | some v,some u=>RelV v u
 | none,none=>True
 | _,_=>False
def KV {κ:Type}:List (κ×V)→List (κ×Value)→Prop:=Paired fun (p:κ×V) (q:κ×Value)=>p.1=q.1∧RelV p.2 q.2
def kV:Key→V
 | .inl i=>.int i
 | .inr x=>.str x
inductive HO where
 | lst (xs:List V)
 | tup (xs:List V)
 | dK (kvs:List (Key×V)) | dT (kvs:List (List Key×V))
 | set (S:Int→Bool) (n:Nat)
 | ins (C dx:Addr) (fs:List (Str×V))
 | own (x:Addr)
 | xd (fs:List (Str×V))
 | met (f x:Addr)
 | V9 (lo hi:Int)
 | fU (o:Obj) (u:HO)
 | K9 (ps:Array Value)
 | ext (φ:Heap→Prop)
abbrev Hp:=Addr→Option HO
def upd (H:Hp)(a:Addr)(o:HO):Hp:=fun b=>if b=a then some o else H b
theorem ak {H:Hp}{a:Addr}{o:HO}:upd H a o a=some o:=by unfold upd;rw [if_pos rfl]
theorem aj {H:Hp}{a b:Addr}{o:HO}(h:b≠a):upd H a o b=H b:=by unfold upd;rw [if_neg h]
theorem NX {H:Hp}{a b:Addr}{o u:HO}(h:H a=some o)(h' :H b=some u)(d:o≠u):a≠b:=by
 intro e;subst e;rw [h] at h';exact d (aeY h')
theorem au {H:Hp}{a b:Addr}{o:HO}(h:H a=some o)(h' :H b=none):a≠b:=by
 intro e;subst e;rw [h] at h';cases h'
section
variable (P:Program)(w:World)
def cB (H:Hp)(h:Heap)(a:Addr):HO→Prop
 | .lst xs=>xs.length≤sizeLine∧∃(its:List Value) (n:Nat),Vals xs its∧h.get? a=some {cls:=.type "list",data:=.seq its.toArray n}
 | .tup xs=>xs.length≤sizeLine∧∃its:List Value,Vals xs its∧IsTup h a its.toArray
 | .dK kvs=>kvs.length≤sizeLine∧(a==sysModules)=false∧∃vs,KV kvs vs∧h.DictOf (bx P w) a vs
 | .dT kvs=>kvs.length≤sizeLine∧(a==sysModules)=false∧∃xs:List (List Key×Addr×Value),
   Paired (fun (p:List Key×V) (q:List Key×Addr×Value)=>p.1=q.1∧H q.2.1=some (.tup (p.1.map kV))∧RelV p.2 q.2.2) kvs xs∧
   ∃o es ep,h.get? a=some o∧o.ExactDict∧o.data=.dict es ep∧es.toList=xs.map (entryOfKey (tupleKind (bx P w)))∧(xs.map (·.1)).Nodup
 | .set S n=>h.SetOf (intKind P w) a S n
 | .ins C dx fs=>H dx=some (.own a)∧fs.length≤1000∧dx≠a∧h.get? a=some (PySem.W.instObj C dx)∧
   ∃mA,h.Ns1 dx mA∧(∀f,gI (fs.lookup f) (mA f))∧PySem.Within mA (fs.map (·.1))
 | .own _=>∃o,h.get? a=some o
 | .xd fs=>∃mA,h.Ns1 a mA∧∀f,gI (fs.lookup f) (mA f)
 | .V9 lo hi=>∃t u v,h.get? a=some {cls:=.type "range",data:=.fields #[.int lo t,.int hi u,.int 1 v]}
 | .fU o u=>h.get? a=some o∧cB H h a u
 | .K9 ps=>h.get? a=some {cls:=.none,data:=.fields ps}
 | .met f x=>h.get? a=some (PySem.W.methodObj (.ref f) (.ref x))
 | .ext φ=>φ h∧(∃o,h.get? a=some o)∧∀h1 h2:Heap,φ h1→(∀o,h1.get? a=some o→h2.get? a=some o)→φ h2
def iu (H:Hp)(h:Heap):Prop:=∀a o,H a=some o→cB P w H h a o
end
section
variable {P:Program}{w:World}{H H' :Hp}{h h' :Heap}{a:Addr}{o:HO}
theorem cB.lt (x:cB P w H h a o):a < h.objs.size:=by
 cases o with
 | lst xs=>obtain ⟨_,_,_,_,e⟩:=x;exact Heap.lt_size e
 | tup xs=>obtain ⟨_,_,_,p⟩:=x;exact p.lt
 | dK kvs=>obtain ⟨_,_,_,_,o,_,_,e,_⟩:=x;exact Heap.lt_size e
 | dT kvs=>obtain ⟨_,_,_,_,o,_,_,e,_⟩:=x;exact Heap.lt_size e
 | set S n=>obtain ⟨o,_,_,_,e,_⟩:=x;exact Heap.lt_size e
 | ins C dx fs=>obtain ⟨_,_,_,e,_⟩:=x;exact Heap.lt_size e
 | own y=>obtain ⟨_,e⟩:=x;exact Heap.lt_size e
 | xd fs=>obtain ⟨_,⟨_,_,_,e,_⟩,_⟩:=x;exact Heap.lt_size e
 | V9 lo hi=>obtain ⟨_,_,_,e⟩:=x;exact Heap.lt_size e
 | fU ob u=>obtain ⟨e,_⟩:=x;exact Heap.lt_size e
 | K9 ps=>exact Heap.lt_size (show h.get? a=some _ from x)
 | met f y=>exact Heap.lt_size (show h.get? a=some _ from x)
 | ext φ=>obtain ⟨_,⟨_,e⟩,_⟩:=x;exact Heap.lt_size e
theorem Paired.bZ {α β:Type}{F G:α→β→Prop}:∀{l₁:List α} {l₂:List β},Paired F l₁ l₂→(∀a b,F a b→G a b)→Paired G l₁ l₂
 | _,_,.nil,_=>.nil
 | _,_,.cons r t,f=>.cons (f _ _ r) (Paired.bZ t f)
theorem cB.nZ (x:cB P w H h a o)(k:∀b u,(b=a∨H b=some (.own a))→h.get? b=some u→h'.get? b=some u)
  (ho:∀b,H b=some (.own a)→H' b=some (.own a)) (ht:∀b xs,H b=some (.tup xs)→H' b=some (.tup xs)):cB P w H' h' a o:=by
 induction o with
 | lst xs=>obtain ⟨z,its,n,r,e⟩:=x;exact ⟨z,its,n,r,k _ _ (.inl rfl) e⟩
 | tup xs=>obtain ⟨z,its,r,ob,e,c⟩:=x;exact ⟨z,its,r,ob,k _ _ (.inl rfl) e,c⟩
 | dK kvs=>obtain ⟨z,y,vs,r,ob,es,ep,e,c⟩:=x;exact ⟨z,y,vs,r,ob,es,ep,k _ _ (.inl rfl) e,c⟩
 | dT kvs=>
  obtain ⟨z,y,xs,r,ob,es,ep,e,c⟩:=x
  exact ⟨z,y,xs,Paired.bZ r fun p q z=>⟨z.1,ht _ _ z.2.1,z.2.2⟩,ob,es,ep,k _ _ (.inl rfl) e,c⟩
 | set S n=>obtain ⟨ob,es,ep,t,e,c⟩:=x;exact ⟨ob,es,ep,t,k _ _ (.inl rfl) e,c⟩
 | ins C dx fs=>
  obtain ⟨d,z,ne,e,mA,⟨od,es,ep,e2,c⟩,r⟩:=x
  exact ⟨ho _ d,z,ne,k _ _ (.inl rfl) e,mA,⟨od,es,ep,k _ _ (.inr d) e2,c⟩,r⟩
 | own y=>obtain ⟨ob,e⟩:=x;exact ⟨ob,k _ _ (.inl rfl) e⟩
 | xd fs=>obtain ⟨mA,⟨od,es,ep,e,c⟩,r⟩:=x;exact ⟨mA,⟨od,es,ep,k _ _ (.inl rfl) e,c⟩,r⟩
 | V9 lo hi=>obtain ⟨t,u,v,e⟩:=x;exact ⟨t,u,v,k _ _ (.inl rfl) e⟩
 | fU ob u ih=>obtain ⟨e,q⟩:=x;exact ⟨k _ _ (.inl rfl) e,ih q⟩
 | K9 ps=>
  have e:h.get? a=some {cls:=.none,data:=.fields ps}:=x
  show h'.get? a=some {cls:=.none,data:=.fields ps}
  exact k a _ (.inl rfl) e
 | met f y=>
  have e:h.get? a=some (PySem.W.methodObj (.ref f) (.ref y)):=x
  show h'.get? a=some (PySem.W.methodObj (.ref f) (.ref y))
  exact k a _ (.inl rfl) e
 | ext φ=>obtain ⟨p,⟨o,e⟩,st⟩:=x;exact ⟨st _ _ p fun o q=>k _ _ (.inl rfl) q,⟨o,k _ _ (.inl rfl) e⟩,st⟩
theorem iu.lt (x:iu P w H h)(e:H a=some o):a < h.objs.size:=(x a o e).lt
theorem iu.fresh (x:iu P w H h)(e:h.objs.size≤a):H a=none:=by
 cases q:H a with
 | none=>rfl
 | some u=>exact absurd (aeT (x.lt q) e) (afj _)
theorem iu.kept (x:iu P w H h)(k:∀b u,h.get? b=some u→h'.get? b=some u):iu P w H h' :=fun a o e=>
 (x a o e).nZ (fun b u _ q=>k b u q) (fun _ q=>q) fun _ _ q=>q
theorem iu.laid (x:iu P w H h)(k:∀b u,h.get? b=some u→h'.get? b=some u)(hp:h.objs.size≤a)(new:cB P w (upd H a o) h' a o):iu P w (upd H a o) h' :=fun b u e=>by
 have hn:=x.fresh hp
 by_cases hb:b=a
 ·subst hb;rw [ak] at e;cases e;exact new
 ·rw [aj hb] at e
  exact (x b u e).nZ (fun c v _ q=>k c v q) (fun c q=>by rw [aj (au q hn)];exact q) fun c xs q=>by rw [aj (au q hn)];exact q
end
def Rd (H:Hp)(a:Addr)(u:HO):Prop:=H a=some u∨∃o,H a=some (.fU o u)
theorem Rd.of {H:Hp}{a:Addr}{u:HO}(h:H a=some u):Rd H a u:=.inl h
theorem Rd.ok {P:Program}{w:World}{H:Hp}{h:Heap}{a:Addr}{u:HO}(r:Rd H a u)(x:iu P w H h):cB P w H h a u:=by
 rcases r with r | ⟨o,r⟩
 ·exact x a u r
 ·obtain ⟨_,q⟩:=x a _ r
  exact q
def NY:Option HO→Prop
 | some (.lst _)=>True
 | some (.dK _)=>True
 | some (.dT _)=>True
 | some (.set _ _)=>True
 | some (.ins _ _ _)=>True
 | some (.ext _)=>True
 | _=>False
section
variable {P:Program}{w:World}{H:Hp}{h h' :Heap}{x e:Addr}{o' :HO}
theorem iu.write (ok:iu P w H h)(mu:NY (H x))(he:e=x∨H e=some (.own x))(k:∀b u,b≠e→h.get? b=some u→h'.get? b=some u)(Nr:∃u,h'.get? e=some u)
  (new:cB P w (upd H x o') h' x o'):iu P w (upd H x o') h' :=fun b u q=>by
 have NZ:∀c y,H c=some (.own y)→c≠x:=fun c y r z=>by subst z;rw [r] at mu;exact mu
 have V_:∀c xs,H c=some (.tup xs)→c≠x:=fun c xs r z=>by subst z;rw [r] at mu;exact mu
 by_cases hb:b=x
 ·subst hb;rw [ak] at q;cases q;exact new
 ·rw [aj hb] at q
  by_cases K_:b=e
  ·have q' :H b=some (.own x):=by
    rcases he with z | z
    ·exact absurd (K_.trans z) hb
    ·rw [K_];exact z
   rw [q] at q';cases q'
   obtain ⟨v,hv⟩:=Nr
   exact ⟨v,by rw [K_];exact hv⟩
  ·refine (ok b u q).nZ (fun c v hc r=>k c v ?_ r) (fun c r=>by rw [aj (NZ c b r)];exact r) fun c xs r=>by rw [aj (V_ c xs r)];exact r
   rcases hc with rfl | hc
   ·exact K_
   ·rintro rfl
    rcases he with z | z
    ·exact NZ c b hc z
    ·rw [hc] at z;cases z;exact hb rfl
end
structure Un (fs ex:List Addr)(H H' :Hp)(h h' :Heap):Prop where
 keep:∀b o,h.get? b=some o→H b=none→b∉fs→b∉ex→h'.get? b=some o
 slot:∀b o,h.get? b=some o→H b=none→b∈fs→b∉ex→∃sl,h'.get? b=some {o with slots:=sl}
 free:∀b o,h.get? b=some o→H b=none→b∉ex→H' b=none
 there:∀b o,h.get? b=some o→b∉ex→∃o',h'.get? b=some o'
 n_:∀b xs,H b=some (.tup xs)→H' b=some (.tup xs)
 lK:∀b o u,H b=some (.fU o u)→H' b=some (.fU o u)
 oa:∀b ps,H b=some (.K9 ps)→∃more,H' b=some (.K9 (ps++more))
section
variable {fs fs' ex K' :List Addr}{H H1 H2:Hp}{h h1 h2 h' :Heap}{a x e:Addr}{o:HO}
theorem Un.any (u:Un fs ex H H1 h h1){b:Addr}{ob:Obj}(q:h.get? b=some ob)(n:H b=none)(hx:b∉ex):∃sl,h1.get? b=some {ob with slots:=sl}:=by
 by_cases hb:b∈fs
 ·exact u.slot b ob q n hb hx
 ·exact ⟨ob.slots,u.keep b ob q n hb hx⟩
theorem Un.kept (k:∀b u,h.get? b=some u→h'.get? b=some u):Un fs ex H H h h' :=
 ⟨fun b ob q _ _ _=>k b ob q,fun b ob q _ _ _=>⟨ob.slots,k b ob q⟩,fun _ _ _ n _=>n,fun b ob q _=>⟨ob,k b ob q⟩,fun _ _ q=>q,fun _ _ _ q=>q,fun _ ps q=>⟨#[],by rw [q];simp⟩⟩
theorem Un.refl:Un fs ex H H h h:=Un.kept fun _ _ q=>q
theorem Un.laid (k:∀b u,h.get? b=some u→h'.get? b=some u)(hp:h.objs.size≤a)(hn:H a=none):Un fs ex H (upd H a o) h h' where
 keep:=fun b u q _ _ _=>k b u q
 slot:=fun b u q _ _ _=>⟨u.slots,k b u q⟩
 free:=fun b u q n _=>by rw [aj (ae4 (aeT (Heap.lt_size q) hp))];exact n
 there:=fun b u q _=>⟨u,k b u q⟩
 n_:=fun b xs q=>by rw [aj (au q hn)];exact q
 lK:=fun b u xs q=>by rw [aj (au q hn)];exact q
 oa:=fun b ps q=>⟨#[],by rw [aj (au q hn),q];simp⟩
theorem Un.write (mu:NY (H x))(he:e=x∨H e=some (.own x))(k:∀b u,b≠e→h.get? b=some u→h'.get? b=some u)(Nr:∃u,h'.get? e=some u):Un fs ex H (upd H x o) h h' :=by
 have hx:∀b,H b=none→b≠x:=fun b n z=>by subst z;rw [n] at mu;exact mu
 have hb:∀b,H b=none→b≠e:=fun b n z=>by
  subst z
  rcases he with r | r
  ·exact hx b n r
  ·rw [n] at r;cases r
 have hm:∀b u,H b=some u→¬ NY (some u)→b≠x:=fun b u q nm z=>by subst z;rw [q] at mu;exact nm mu
 refine ⟨fun b u q n _ _=>k b u (hb b n) q,fun b u q n _ _=>⟨u.slots,k b u (hb b n) q⟩,fun b u q n _=>by rw [aj (hx b n)];exact n,fun b u q _=> ?_,
  fun b xs q=>by rw [aj (hm b _ q fun z=>z)];exact q,fun b u xs q=>by rw [aj (hm b _ q fun z=>z)];exact q,fun b ps q=>⟨#[],by rw [aj (hm b _ q fun z=>z),q];simp⟩⟩
 by_cases K_:b=e
 ·subst K_;exact Nr
 ·exact ⟨u,k b u K_ q⟩
end
def Vn (h:Heap)(H:Hp):List Addr:=(afV h.objs.size).filter fun a=>(H a).isSome
def pQ (h:Heap)(H:Hp):Heap:=PySem.W.hideAll h (Vn h H)
theorem xj (h:Heap)(H:Hp):(pQ h H).objs.size=h.objs.size:=PySem.W.hideAll_size _ _
theorem zO {h:Heap}{H:Hp}{b:Addr}{o:Obj}(e:h.get? b=some o)(n:H b=none):(pQ h H).get? b=some o:=
 PySem.W.hideAll_get _ e fun hm=>by
  have q:(H b).isSome=true:=(aoK.mp hm).2
  rw [n] at q;simp at q
theorem FT {h:Heap}{H:Hp}{b:Addr}{o:Obj}(e:(pQ h H).get? b=some o):h.get? b=some o∧H b=none:=by
 have e' :h.get? b=some o:=PySem.W.of_hideAll (Vn h H) e
 refine ⟨e',?_⟩
 cases q:H b with
 | none=>rfl
 | some x=>
  have hm:b∈Vn h H:=aoK.mpr ⟨afS.mpr (Heap.lt_size e'),by simp [q]⟩
  have z:(pQ h H).get? b=none:=PySem.W.hideAll_none (Vn h H) hm
  rw [z] at e;cases e
def FU (g h:Heap)(L:Addr):List (Addr×Obj):=(afV h.objs.size).filterMap fun a=>if a=L∨(g.get? a).isSome=true then none else (h.get? a).map fun o=>(a,o)
def rest (g h:Heap)(L d:Addr):List (Addr×Obj):=(FU g h L).filter fun p=>decide (p.1≠d)
end L2
namespace L2
open PySem PySem.Spec PyProof.Rows
structure Mod (K:Frag)(mg:Str→Option Value)(base:Heap):Prop where
 Nt:K.In base
 glob:base.Ns mainGlobals mg
 blt:∃mb,base.Ns builtinsNs mb∧∀x:Str,x≠ "__name__"→mb x=bootBuiltins x
 nolimit:base.NoLimit
 seer:base.NoSeer
structure Cx where
 prog:Program
 w:World
 K:Frag
 mg:Str→Option Value
 base:Heap
 A:Around
 N:List Str
 s₀:Shared
 H₀:Hp
 env:Env
 outer:List Env
 stack:List Env
 ex:List Addr
 fn:Str→Bool
 calm:Bool
 pn:List (Addr×Obj)
 xe:Value→Shared→Prop
def vJ (l:List Env):List Addr:=l.filterMap (·.frame)
abbrev Cx.fs (X:Cx):List Addr:=vJ X.outer
def V' (sc:Scope)(x:Str):Prop:=sc.names.lookup x=some .local∨sc.names.lookup x=some .cell∨sc.names.lookup x=some .free
def Loc (sc:Scope)(x:Str):Prop:=sc.names.lookup x=some .local∨sc.names.lookup x=some .cell
def Look (env:Env)(h:Heap)(m:Str→Option Value)(x:Str)(u:Value):Prop:=
 (env.kindOf x=some .local∧m x=some u)∨((env.kindOf x=some .cell∨env.kindOf x=some .free)∧∃c,env.cells.lookup x=some c∧h.IsCell c (some u))
structure Cx.Ok (X:Cx):Prop where
 mod:Mod X.K X.mg X.base
 kind:X.env.scope.kind=.function
 glob:X.env.globals=mainGlobals
 blt:X.env.builtins=builtinsNs
 above:X.s₀.heap.objs.size≤X.env.locals
 inj:∀x y c,X.env.cells.lookup x=some c→X.env.cells.lookup y=some c→x=y
 has:∀x,(X.env.kindOf x=some .cell∨X.env.kindOf x=some .free)→∃c,X.env.cells.lookup x=some c
 N1:∀x c,X.fn x=true→X.env.cells.lookup x=some c→X.s₀.heap.objs.size≤c
 hd:X.calm=true→X.A.handled=none
 frames:X.A.frames=some X.stack
 Vo:X.stack=X.outer∨(X.stack=X.env::X.outer∧X.env.frame=some X.env.locals)
 exf:∀b∈X.ex,b≠X.env.locals∧∀x c,X.env.cells.lookup x=some c→c≠b
 bs:∀b o,X.base.get? b=some o→X.s₀.heap.get? b=some o∧X.H₀ b=none
 FV:X.base.objs.size≤X.s₀.heap.objs.size
 zP:∀b o,X.base.get? b=some o→b∉X.ex
 FW:∀b∈X.ex,b∉X.fs
 kE:X.s₀.heap.FunFrames X.base X.outer
 La:∀b∈X.fs,X.H₀ b=none
structure Inv (X:Cx)(pins:List (Addr×Obj))(σ:List (Option V))(H:Hp)(s:Shared):Prop where
 ok:X.Ok
 os:s.os=X.s₀.os
 bare:AllBare s.gens
 base:Un X.fs X.ex X.H₀ H X.s₀.heap s.heap
 loc:∃m,s.heap.Ns X.env.locals m∧∀(i:Nat) (x:Str) (v:V),X.N[i]? =some x→σ[i]? =some (some v)→V' X.env.scope x→∃u,RelV v u∧Look X.env s.heap m x u
 cell:∀x c,X.env.cells.lookup x=some c→∃v,s.heap.IsCell c v
 free:H X.env.locals=none
 gD:∀x c,X.env.cells.lookup x=some c→H c=none
 pin:∀p∈X.pn++pins,s.heap.get? p.1=some p.2∧H p.1=none∧p.1≠X.env.locals∧p.1∉X.fs∧∀v,p.2.data≠.cell v
 bI:iu X.prog X.w H s.heap
 len:σ.length=X.N.length
section
variable {X:Cx}{pins:List (Addr×Obj)}{σ:List (Option V)}{H H' :Hp}{s:Shared}{h' :Heap}
theorem Cx.Ok.Wa (ok:X.Ok){b:Addr}{o:Obj}(e:X.base.get? b=some o):b∉X.fs:=fun hb=>by
 have:=(ok.kE.mem hb).1
 rw [e] at this;cases this
theorem Inv.bs (I:Inv X pins σ H s):∀b o,X.base.get? b=some o→s.heap.get? b=some o∧H b=none:=fun b o e=>
 ⟨I.base.keep b o (I.ok.bs b o e).1 (I.ok.bs b o e).2 (I.ok.Wa e) (I.ok.zP b o e),I.base.free b o (I.ok.bs b o e).1 (I.ok.bs b o e).2 (I.ok.zP b o e)⟩
theorem Inv.bk (I:Inv X pins σ H s):∀b o,X.base.get? b=some o→s.heap.get? b=some o:=fun b o e=>(I.bs b o e).1
theorem Inv.mod (I:Inv X pins σ H s):Mod X.K X.mg X.base:=I.ok.mod
theorem Inv.iB (I:Inv X pins σ H s):X.K.In s.heap:=I.ok.mod.Nt.keeps I.bk
theorem Inv.nolimit (I:Inv X pins σ H s):s.heap.NoLimit:=I.ok.mod.nolimit.keeps I.bk
theorem Inv.lt (I:Inv X pins σ H s):X.env.locals < s.heap.objs.size:=let ⟨_,hn,_⟩:=I.loc;hn.lt
theorem Inv.sz (I:Inv X pins σ H s):X.s₀.heap.objs.size≤s.heap.objs.size:=ad_ I.ok.above (afl I.lt)
theorem Inv.Wb (I:Inv X pins σ H s){a:Addr}(h:s.heap.objs.size≤a):a∉X.fs:=fun hb=>by
 obtain ⟨_,o,ho,_⟩:=I.ok.kE.mem hb
 exact absurd (aeT (Heap.lt_size ho) (ad_ I.sz h)) (afj _)
theorem Inv.Lb (I:Inv X pins σ H s):∀x c,X.env.cells.lookup x=some c→c≠X.env.locals:=fun x c e z=>by
 obtain ⟨v,o,ho,hd⟩:=I.cell x c e
 obtain ⟨m,⟨o',es,ep,FX,FY,_⟩,_⟩:=I.loc
 rw [z,FX] at ho;cases ho;rw [FY] at hd;cases hd
theorem Inv.kE (I:Inv X pins σ H s):s.heap.FunFrames X.base X.outer:=by
 have all:∀(l:List Env),(∀b∈vJ l,b∈X.fs)→X.s₀.heap.FunFrames X.base l→s.heap.FunFrames X.base l:=by
  intro l
  induction l with
  | nil=>intro _ _;trivial
  | cons env r ih=>
   intro hs hl
   obtain ⟨hk,⟨L,o,hf,hn,ho,hd⟩,hr⟩:=hl
   have hL:L∈X.fs:=hs L (by unfold vJ;rw [af9,hf];exact aeI)
   obtain ⟨sl,e⟩:=I.base.slot L o ho (I.ok.La L hL) hL fun z=>I.ok.FW L z hL
   exact ⟨hk,⟨L,_,hf,hn,e,hd⟩,ih (fun b hb=>hs b (by unfold vJ;rw [af9,hf];exact aeF _ hb)) hr⟩
 exact all X.outer (fun _ hb=>hb) I.ok.kE
theorem Inv.stack (I:Inv X pins σ H s):s.heap.FunFrames X.base X.stack:=by
 rcases I.ok.Vo with e | ⟨e,hf⟩
 ·rw [e];exact I.kE
 ·rw [e]
  obtain ⟨m,hn,_⟩:=I.loc
  refine .cons (by rw [I.ok.kind];decide) hf hn ?_ I.kE
  exact Heap.get?_none_of_le (ad_ I.ok.FV I.ok.above)
theorem Inv.uC (I:Inv X pins σ H s):∀b∈vJ X.stack,b∈X.env.locals::X.fs:=fun b hb=>by
 rcases I.ok.Vo with e | ⟨e,hf⟩
 ·rw [e] at hb;exact aeF _ hb
 ·rw [e] at hb
  unfold vJ at hb
  rw [af9,hf] at hb
  exact hb
theorem Inv.vK (I:Inv X pins σ H s):∀b∈vJ X.stack,H b=none:=fun b hb=>by
 rcases ae1.mp (I.uC b hb) with e | hb
 ·rw [e];exact I.free
 ·obtain ⟨_,o,ho,_⟩:=I.ok.kE.mem hb
  exact I.base.free b o ho (I.ok.La b hb) fun z=>I.ok.FW b z hb
theorem Inv.step {g' :Array GenState}{t' :Nat}{d' :Drawn}{ch:List Addr}(I:Inv X pins σ H s)
  (ET:∀b∈ch,(b∈X.ex∨X.s₀.heap.objs.size≤b)∧b≠X.env.locals∧(∀x c,X.env.cells.lookup x=some c→c≠b)∧∀p∈X.pn++pins,p.1≠b)
  (keep:∀b o,b≠X.env.locals→b∉X.fs→b∉ch→s.heap.get? b=some o→H b=none→h'.get? b=some o)
  (slot:∀b o,b≠X.env.locals→b∈X.fs→b∉ch→s.heap.get? b=some o→H b=none→∃sl,h'.get? b=some {o with slots:=sl}) (free:∀b o,b∉ch→s.heap.get? b=some o→H b=none→H' b=none)
  (there:∀b o,b∉ch→s.heap.get? b=some o→∃o',h'.get? b=some o')
  (n_:∀b xs,H b=some (.tup xs)→H' b=some (.tup xs)) (lK:∀b o u,H b=some (.fU o u)→H' b=some (.fU o u)) (oa:∀b ps,H b=some (.K9 ps)→∃more,H' b=some (.K9 (ps++more)))
  (ns:∀m,s.heap.Ns X.env.locals m→h'.Ns X.env.locals m) (bI:iu X.prog X.w H' h') (hg:AllBare g'):
  Inv X pins σ H' {s with heap:=h',gens:=g',drawn:=d',toks:=t' }:=by
 have neL:∀b o,X.s₀.heap.get? b=some o→b≠X.env.locals:=fun b o e=>ae4 (aeT (Heap.lt_size e) I.ok.above)
 have Vp:∀b o,X.s₀.heap.get? b=some o→b∉X.ex→b∉ch:=fun b o e hx hb=>by
  rcases (ET b hb).1 with z | z
  ·exact hx z
  ·exact absurd (aeT (Heap.lt_size e) z) (afj _)
 have cellK:∀x c,X.env.cells.lookup x=some c→∀v,s.heap.IsCell c v→h'.IsCell c v:=fun x c e v ⟨o,ho,hd⟩=>by
  have N2:c∉ch:=fun z=>(ET c z).2.2.1 x c e rfl
  by_cases hc:c∈X.fs
  ·obtain ⟨sl,q⟩:=slot c o (I.Lb x c e) hc N2 ho (I.gD x c e)
   exact ⟨_,q,hd⟩
  ·exact ⟨o,keep c o (I.Lb x c e) hc N2 ho (I.gD x c e),hd⟩
 refine ⟨I.ok,I.os,hg,⟨fun b o e n hb hx=> ?_,fun b o e n hb hx=> ?_,fun b o e n hx=> ?_,fun b o e hx=> ?_,fun b xs e=>n_ b xs (I.base.n_ b xs e),fun b o xs e=>lK b o xs (I.base.lK b o xs e),fun b ps e=> ?_⟩,?_,fun x c e=> ?_,?_,fun x c e=> ?_,fun p hp=> ?_,bI,I.len⟩
 ·exact keep b o (neL b o e) hb (Vp b o e hx) (I.base.keep b o e n hb hx) (I.base.free b o e n hx)
 ·obtain ⟨sl,e1⟩:=I.base.slot b o e n hb hx
  obtain ⟨sl',e2⟩:=slot b _ (neL b o e) hb (Vp b o e hx) e1 (I.base.free b o e n hx)
  exact ⟨sl',e2⟩
 ·obtain ⟨o',e1⟩:=I.base.there b o e hx
  exact free b o' (Vp b o e hx) e1 (I.base.free b o e n hx)
 ·obtain ⟨o',e1⟩:=I.base.there b o e hx
  exact there b o' (Vp b o e hx) e1
 ·obtain ⟨m1,e1⟩:=I.base.oa b ps e
  obtain ⟨m2,e2⟩:=oa b _ e1
  exact ⟨m1++m2,by rw [e2,Array.append_assoc]⟩
 ·obtain ⟨m,hn,hl⟩:=I.loc
  refine ⟨m,ns m hn,fun i x v e1 e2 e3=> ?_⟩
  obtain ⟨u,r,l⟩:=hl i x v e1 e2 e3
  refine ⟨u,r,?_⟩
  rcases l with l | ⟨k,c,e,z⟩
  ·exact .inl l
  ·exact .inr ⟨k,c,e,cellK x c e _ z⟩
 ·obtain ⟨v,z⟩:=I.cell x c e
  exact ⟨v,cellK x c e v z⟩
 ·obtain ⟨m,⟨o,_,_,ho,_⟩,_⟩:=I.loc
  exact free _ o (fun z=>(ET _ z).2.1 rfl) ho I.free
 ·obtain ⟨v,o,ho,hd⟩:=I.cell x c e
  exact free c o (fun z=>(ET c z).2.2.1 x c e rfl) ho (I.gD x c e)
 ·obtain ⟨e,n,ne,nf,d⟩:=I.pin p hp
  have N2:p.1∉ch:=fun z=>(ET p.1 z).2.2.2 p hp rfl
  exact ⟨keep p.1 p.2 ne nf N2 e n,free p.1 p.2 N2 e n,ne,nf,d⟩
theorem Inv.un {t' :Nat}(I:Inv X pins σ H s)(u:Un X.fs [] H H' s.heap h')(bI:iu X.prog X.w H' h'):Inv X pins σ H' {s with heap:=h',toks:=t' }:=by
 obtain ⟨m,⟨o,es,ep,ho,r⟩,_⟩:=id I.loc
 obtain ⟨sl,hL⟩:=u.any ho I.free (by simp)
 exact I.step (g' :=s.gens) (d' :=s.drawn) (ch:=[]) (fun _ z=>nomatch z) (fun b o _ hb _ e n=>u.keep b o e n hb (by simp)) (fun b o _ hb _ e n=>u.slot b o e n hb (by simp)) (fun b o _ e n=>u.free b o e n (by simp)) (fun b o _ e=>u.there b o e (by simp)) u.n_ u.lK u.oa (fun m' hm=>by
  obtain ⟨o',Wc,oC,FX,r'⟩:=hm
  rw [ho] at FX;cases FX
  exact ⟨_,Wc,oC,hL,r'⟩) bI I.bare
theorem Inv.call {g' :Array GenState}{t' :Nat}{d' :Drawn}{ch:List Addr}(I:Inv X pins σ H s)(u:Un (vJ X.stack) ch H H' s.heap h')(bI:iu X.prog X.w H' h')(hg:AllBare g')
  (ET:∀b∈ch,(b∈X.ex∨X.s₀.heap.objs.size≤b)∧b≠X.env.locals∧(∀x c,X.env.cells.lookup x=some c→c≠b)∧∀p∈X.pn++pins,p.1≠b):
  Inv X pins σ H' {s with heap:=h',gens:=g',drawn:=d',toks:=t' }:=by
 obtain ⟨m,⟨o,es,ep,ho,r⟩,_⟩:=id I.loc
 obtain ⟨sl,hL⟩:=u.any ho I.free fun z=>(ET _ z).2.1 rfl
 exact I.step (ch:=ch) ET (fun b o hL hb hc e n=>u.keep b o e n (fun z=>(ae1.mp (I.uC b z)).elim hL hb) hc) (fun b o _ _ hc e n=>u.any e n hc) (fun b o hc e n=>u.free b o e n hc) (fun b o hc e=>u.there b o e hc) u.n_ u.lK u.oa (fun m' hm=>by
  obtain ⟨o',Wc,oC,FX,r'⟩:=hm
  rw [ho] at FX;cases FX
  exact ⟨_,Wc,oC,hL,r'⟩) bI hg
theorem Inv.turned {t' :Nat}{it:Addr}(I:Inv X pins σ H s)(k:∀b o,b≠it→s.heap.get? b=some o→h'.get? b=some o)(hn:H it=none)(hL:it≠X.env.locals)
  (h1:it∈X.ex∨X.s₀.heap.objs.size≤it) (h2:∀x c,X.env.cells.lookup x=some c→c≠it) (h3:∀p∈X.pn++pins,p.1≠it):Inv X pins σ H {s with heap:=h',toks:=t' }:=by
 have JN:∀b u,H b=some u→b≠it:=fun b u e z=>by rw [z,hn] at e;cases e
 refine I.step (g' :=s.gens) (d' :=s.drawn) (ch:=[it]) (fun b hb=> ?_) (fun b o _ _ hc e _=>k b o (fun z=>hc (by simp [z])) e) (fun b o _ _ hc e _=>⟨o.slots,k b o (fun z=>hc (by simp [z])) e⟩) (fun _ _ _ _ n=>n)
  (fun b o hc e=>⟨o,k b o (fun z=>hc (by simp [z])) e⟩) (fun _ _ e=>e) (fun _ _ _ e=>e) (fun b ps e=>⟨#[],by rw [e];simp⟩) (fun m hm=> ?_) (fun b u e=> ?_) I.bare
 ·have e:b=it:=by simpa using hb
  subst e
  exact ⟨h1,hL,h2,h3⟩
 ·obtain ⟨o,es,ep,ho,r⟩:=hm
  exact ⟨o,es,ep,k _ o (ae8 hL) ho,r⟩
 ·refine (I.bI b u e).nZ (fun c v hc q=>k c v ?_ q) (fun _ q=>q) fun _ _ q=>q
  rcases hc with z | z
  ·rw [z];exact JN b u e
  ·exact JN c _ z
theorem Inv.tok (I:Inv X pins σ H s)(t:Nat):Inv X pins σ H {s with toks:=t}:=I.un (h' :=s.heap) (t' :=t) Un.refl I.bI
theorem Inv.kept {t' :Nat}(I:Inv X pins σ H s)(k:∀b u,s.heap.get? b=some u→h'.get? b=some u):Inv X pins σ H {s with heap:=h',toks:=t' }:=I.un (Un.kept k) (I.bI.kept k)
theorem Inv.laid {a:Addr}{o:HO}{t' :Nat}(I:Inv X pins σ H s)(k:∀b u,s.heap.get? b=some u→h'.get? b=some u)(hp:s.heap.objs.size≤a)(new:cB X.prog X.w (upd H a o) h' a o):
  Inv X pins σ (upd H a o) {s with heap:=h',toks:=t' }:=I.un (Un.laid k hp (I.bI.fresh hp)) (I.bI.laid k hp new)
theorem Inv.write {x e:Addr}{o:HO}{t' :Nat}(I:Inv X pins σ H s)(mu:NY (H x))(he:e=x∨H e=some (.own x))(k:∀b u,b≠e→s.heap.get? b=some u→h'.get? b=some u)(Nr:∃u,h'.get? e=some u)
  (new:cB X.prog X.w (upd H x o) h' x o):Inv X pins σ (upd H x o) {s with heap:=h',toks:=t' }:=I.un (Un.write mu he k Nr) (I.bI.write mu he k Nr new)
theorem Inv.vL {JO :List (Addr×Obj)}(I:Inv X pins σ H s)(h:∀p∈JO,s.heap.get? p.1=some p.2∧H p.1=none∧p.1≠X.env.locals∧p.1∉X.fs∧∀v,p.2.data≠.cell v):Inv X JO σ H s:=
 ⟨I.ok,I.os,I.bare,I.base,I.loc,I.cell,I.free,I.gD,fun p hp=>(aeM.mp hp).elim (fun z=>I.pin p (ae_ _ z)) (h p),I.bI,I.len⟩
theorem fe {N:List Str}(hN:N.Nodup){i j:Nat}{x:Str}(a:N[i]? =some x)(b:N[j]? =some x):i=j:=by
 obtain ⟨h1,e1⟩:=be.mp a
 obtain ⟨h2,e2⟩:=be.mp b
 exact (apk hN).mp (e1.trans e2.symm)
theorem oE {M:Model}{A:Around}{E:Value→Shared→Prop}{i:Nat}{x:Str}{v:V}{u:Value}{Q:Unit→Shared→Prop}(I:Inv X pins σ H s)(hN:X.N.Nodup)(hi:X.N[i]? =some x)(hx:Loc X.env.scope x)(r:RelV v u)
  (h:∀s',Inv X pins (σ.set i (some v)) H s' →(∃a,Heap.SameBut a s.heap s'.heap∧(a=X.env.locals∨X.env.cells.lookup x=some a))→Q () s') (hf:X.fn x=true∨X.env.scope.names.lookup x=some .local:=by first | exact .inl rfl | exact .inr rfl | assumption):wpAny M A (storeName X.env x u) Q E s:=by
 obtain ⟨m,hn,hl⟩:=id I.loc
 have Wd:(X.env.scope.kind==.class || (X.env.scope.kind==.module && X.env.locals !=X.env.globals))=false:=by rw [I.ok.kind];rfl
 have hiσ:i < σ.length:=by rw [I.len];exact (be.mp hi).1
 have Lb:=I.Lb
 have tracked:∀{a:Addr} {h' :Heap},(∃o,s.heap.get? a=some o∧H a=none)→Heap.SameBut a s.heap h' →iu X.prog X.w H h' :=fun {a h'} ha hs b ob e=>by
  obtain ⟨_,_,JP⟩:=ha
  refine (I.bI b ob e).nZ (fun c w' hc q=>(hs.2 c ?_).trans q) (fun _ q=>q) fun _ _ q=>q
  rintro rfl
  rcases hc with rfl | hc
  ·rw [JP] at e;cases e
  ·rw [JP] at hc;cases hc
 rcases hx with hk | hk
 ·refine wpAny_storeName_local hk hn (fun h' N3 hs=> ?_) Wd
  obtain ⟨oL,_,_,hoL,_⟩:=id hn
  refine h _ ⟨I.ok,I.os,I.bare,⟨fun b o e n hb hx=> ?_,fun b o e n hb hx=> ?_,I.base.free,fun b o e hx=> ?_,I.base.n_,I.base.lK,I.base.oa⟩,⟨_,N3,fun j y v' e1 e2 e3=> ?_⟩,fun y c e=> ?_,I.free,I.gD,fun p hp=> ?_,tracked ⟨oL,hoL,I.free⟩ hs,by simpa using I.len⟩ ⟨_,hs,.inl rfl⟩
  ·exact (hs.2 b (ae4 (aeT (Heap.lt_size e) I.ok.above))).trans (I.base.keep b o e n hb hx)
  ·obtain ⟨sl,e1⟩:=I.base.slot b o e n hb hx
   exact ⟨sl,(hs.2 b (ae4 (aeT (Heap.lt_size e) I.ok.above))).trans e1⟩
  ·obtain ⟨o',e1⟩:=I.base.there b o e hx
   exact ⟨o',(hs.2 b (ae4 (aeT (Heap.lt_size e) I.ok.above))).trans e1⟩
  ·by_cases hj:j=i
   ·subst hj
    rw [hi] at e1;cases e1
    rw [aoE hiσ] at e2
    cases e2
    exact ⟨u,r,.inl ⟨hk,by simp⟩⟩
   ·rw [aoS (ae8 hj)] at e2
    obtain ⟨u',r',q⟩:=hl j y v' e1 e2 e3
    refine ⟨u',r',?_⟩
    rcases q with ⟨k,e⟩ | ⟨k,c,e,z⟩
    ·refine .inl ⟨k,?_⟩
     have:y≠x:=fun e=>hj (fe hN e1 (e▸hi))
     simp [this,e]
    ·exact .inr ⟨k,c,e,z.sameBut hs (Lb y c e)⟩
  ·obtain ⟨w',z⟩:=I.cell y c e
   exact ⟨w',z.sameBut hs (Lb y c e)⟩
  ·obtain ⟨e,n,ne,nf,d⟩:=I.pin p hp
   exact ⟨(hs.2 p.1 ne).trans e,n,ne,nf,d⟩
 ·have We:X.fn x=true:=by
   rcases hf with z | z
   ·exact z
   ·rw [z] at hk;cases hk
  obtain ⟨c,hc⟩:=I.ok.has x (.inl hk)
  obtain ⟨w',z⟩:=I.cell x c hc
  refine wpAny_storeName_cell I.ok.kind hk hc z (fun h' oF hs=> ?_)
  obtain ⟨oc,hoc,Wf⟩:=id z
  refine h {s with heap:=h' } ⟨I.ok,I.os,I.bare,⟨fun b o e n hb hx=> ?_,fun b o e n hb hx=> ?_,I.base.free,fun b o e hx=> ?_,I.base.n_,I.base.lK,I.base.oa⟩,⟨m,hn.sameBut hs (ae8 (Lb x c hc)),fun j y v' e1 e2 e3=> ?_⟩,fun y c' e=> ?_,I.free,I.gD,fun p hp=> ?_,tracked ⟨oc,hoc,I.gD x c hc⟩ hs,by simpa using I.len⟩ ⟨c,hs,.inr hc⟩
  ·exact (hs.2 b (ae4 (aeT (Heap.lt_size e) (I.ok.N1 x c We hc)))).trans (I.base.keep b o e n hb hx)
  ·obtain ⟨sl,e1⟩:=I.base.slot b o e n hb hx
   exact ⟨sl,(hs.2 b (ae4 (aeT (Heap.lt_size e) (I.ok.N1 x c We hc)))).trans e1⟩
  ·obtain ⟨o',e1⟩:=I.base.there b o e hx
   exact ⟨o',(hs.2 b (ae4 (aeT (Heap.lt_size e) (I.ok.N1 x c We hc)))).trans e1⟩
  ·by_cases hj:j=i
   ·subst hj
    rw [hi] at e1;cases e1
    rw [aoE hiσ] at e2
    cases e2
    exact ⟨u,r,.inr ⟨.inl hk,c,hc,oF⟩⟩
   ·rw [aoS (ae8 hj)] at e2
    obtain ⟨u',r',q⟩:=hl j y v' e1 e2 e3
    refine ⟨u',r',?_⟩
    rcases q with q | ⟨k,c',e,z'⟩
    ·exact .inl q
    ·refine .inr ⟨k,c',e,z'.sameBut hs ?_⟩
     rintro rfl
     exact hj (fe hN e1 (I.ok.inj _ _ _ e hc▸hi))
  ·by_cases Vq:c' =c
   ·subst Vq;exact ⟨_,oF⟩
   ·obtain ⟨w2,z2⟩:=I.cell y c' e
    exact ⟨w2,z2.sameBut hs Vq⟩
  ·obtain ⟨e,n,ne,nf,d⟩:=I.pin p hp
   refine ⟨(hs.2 p.1 ?_).trans e,n,ne,nf,d⟩
   intro q
   rw [q,hoc] at e
   have q' :oc=p.2:=aeY e
   exact d w' (by rw [← q'];exact Wf)
theorem iX {M:Model}{A:Around}{E:Value→Shared→Prop}{i:Nat}{x:Str}{v:V}{u:Value}{Q:Unit→Shared→Prop}(I:Inv X pins σ H s)(hN:X.N.Nodup)(hi:X.N[i]? =some x)(hx:Loc X.env.scope x)(r:RelV v u)
  (h:∀s',Inv X pins (σ.set i (some v)) H s' →Q () s') (hf:X.fn x=true∨X.env.scope.names.lookup x=some .local:=by first | exact .inl rfl | exact .inr rfl | assumption):wpAny M A (storeName X.env x u) Q E s:=
 oE I hN hi hx r (fun s' I' _=>h s' I') hf
theorem Inv.N4 {s' :Shared}{ch:List Addr}(I:Inv X pins σ H s)(ho:s'.os=s.os)(u:Un (vJ X.stack) ch H H' s.heap s'.heap)(bI:iu X.prog X.w H' s'.heap)(hg:AllBare s'.gens)
  (ET:∀b∈ch,(b∈X.ex∨X.s₀.heap.objs.size≤b)∧b≠X.env.locals∧(∀x c,X.env.cells.lookup x=some c→c≠b)∧∀p∈X.pn++pins,p.1≠b):Inv X pins σ H' s' :=by
 obtain ⟨h',g',d',t',o'⟩:=s'
 have e:o' =s.os:=ho
 subst e
 exact I.call (g' :=g') (t' :=t') (d' :=d') u bI hg ET
end
abbrev XK:=Value→Option Addr→Hp→Prop
abbrev St:=List (Option V)
abbrev VK:=V→Hp→Prop
abbrev TE:=St→Hp→VK→Prop
abbrev TT:=St→Hp→(Bool→Hp→Prop)→Prop
abbrev TA:=St→Hp→(List V→Hp→Prop)→Prop
structure Ends where
 nx:St→Hp→Prop
 rt:VK
 bk:St→Hp→Prop:=fun _ _=>False
 ct:St→Hp→Prop:=fun _ _=>False
abbrev TS:=Ends→St→Hp→Prop
def EP (X:Cx)(pins:List (Addr×Obj))(σ:St)(Q:VK)(u:Value)(s' :Shared):Prop:=∃v H',Inv X pins σ H' s' ∧RelV v u∧Q v H'
def TP (X:Cx)(pins:List (Addr×Obj))(σ:St)(Q:Bool→Hp→Prop)(b:Bool)(s' :Shared):Prop:=∃H',Inv X pins σ H' s' ∧Q b H'
def AP (X:Cx)(pins:List (Addr×Obj))(σ:St)(Q:List V→Hp→Prop)(us:List Value)(s' :Shared):Prop:=∃vs H',Inv X pins σ H' s' ∧Vals vs us∧Q vs H'
def SP (X:Cx)(pins:List (Addr×Obj))(D:Ends)(f:Flow)(s' :Shared):Prop:=
 match f with
 | .next=>∃σ' H',Inv X pins σ' H' s' ∧D.nx σ' H'
 | .brk=>∃σ' H',Inv X pins σ' H' s' ∧D.bk σ' H'
 | .cont=>∃σ' H',Inv X pins σ' H' s' ∧D.ct σ' H'
 | .ret u=>∃v σ' H',Inv X pins σ' H' s' ∧RelV v u∧D.rt v H'
def PE (X:Cx)(e:Expr)(t:TE):Prop:=
 ∀(pins:List (Addr×Obj)) (s:Shared) (σ:St) (H:Hp) (Q:VK),Inv X pins σ H s→t σ H Q→wpAny (model X.prog X.w) X.A (eval e X.env) (EP X pins σ Q) X.xe s
def PT (X:Cx)(e:Expr)(t:TT):Prop:=
 ∀(pins:List (Addr×Obj)) (s:Shared) (σ:St) (H:Hp) (Q:Bool→Hp→Prop),Inv X pins σ H s→t σ H Q→wpAny (model X.prog X.w) X.A (isTrue e X.env (eval e X.env)) (TP X pins σ Q) X.xe s
def PW (X:Cx)(e:Expr)(t:TT):Prop:=
 ∀(whole:Sem Value) (pins:List (Addr×Obj)) (s:Shared) (σ:St) (H:Hp) (Q:Bool→Hp→Prop),Inv X pins σ H s→t σ H Q→wpAny (model X.prog X.w) X.A (isTrue e X.env whole) (TP X pins σ Q) X.xe s
theorem PW.pt {X:Cx}{e:Expr}{t:TT}(h:PW X e t):PT X e t:=h _
def PA (X:Cx)(es:List Expr)(t:TA):Prop:=
 ∀(pos:Pos) (pins:List (Addr×Obj)) (s:Shared) (σ:St) (H:Hp) (Q:List V→Hp→Prop),Inv X pins σ H s→t σ H Q→wpAny (model X.prog X.w) X.A (spliced (backTo pos (starEach es X.env))) (AP X pins σ Q) X.xe s
def PS (X:Cx)(st:Stmt)(t:TS):Prop:=
 ∀(pins:List (Addr×Obj)) (s:Shared) (σ:St) (H:Hp) (D:Ends),Inv X pins σ H s→t D σ H→wpAny (model X.prog X.w) X.A (exec st X.env) (SP X pins D) X.xe s
def PSs (X:Cx)(st:List Stmt)(t:TS):Prop:=
 ∀(pins:List (Addr×Obj)) (s:Shared) (σ:St) (H:Hp) (D:Ends),Inv X pins σ H s→t D σ H→wpAny (model X.prog X.w) X.A (execs st X.env) (SP X pins D) X.xe s
theorem b9 {α:Type}{t:Sem α}{Q Q' :α→Shared→Prop}{M:Model}{A:Around}{E:Value→Shared→Prop}{s:Shared}(h:wpAny M A t Q E s)(hQ:∀a s,Q a s→Q' a s):wpAny M A t Q' E s:=wpAny_mono h hQ fun _ _ x=>x
end L2
namespace L2
open PySem PySem.Spec PyProof.Rows
section
variable {X:Cx}
inductive FZ (i:Nat)(σ:St)(H:Hp)(Q:VK):Prop where
 | mk (v:_) (_:σ[i]? =some (some v)) (_:Q v H):FZ i σ H Q
def tC (v:V):TE:=fun _ H Q=>Q v H
theorem Lc {i:Nat}{x:Str}{pos:Pos}(hN:X.N[i]? =some x)(hv:V' X.env.scope x)(hd:(x==("__debug__":Str))=false:=by decide)(og:(x==("__classdict__":Str))=false:=by decide):PE X (.Name x pos) (FZ i):=by
 intro pins s σ H Q I h
 obtain ⟨v,e,h⟩:=h
 obtain ⟨m,hn,hl⟩:=I.loc
 obtain ⟨u,r,l⟩:=hl i x v hN e hv
 have fin:EP X pins σ Q u s:=⟨v,H,I,r,h⟩
 rcases l with ⟨hk,hm⟩ | ⟨hk,c,hc,hcell⟩
 ·exact wpAny_Name (wpAny_loadName_local I.ok.kind hk hn hm fin) hd
 ·rcases hk with hk | hk
  ·exact wpAny_Name (wpAny_loadName_cell I.ok.kind hk hc hcell fin) hd
  ·exact wpAny_Name (wpAny_loadName_free I.ok.kind hk hc hcell fin og) hd
theorem af {i j pos}:PE X (.Constant (.int i) j pos) (tC (.int i)):=fun _ _ _ H _ I h=>wpAny_Constant_int ⟨.int i,H,I.tok _,⟨_,rfl⟩,h⟩
theorem cg {b j pos}:PE X (.Constant (.bool b) j pos) (tC (.bl b)):=fun _ _ _ H _ I h=>Constant_bool ⟨.bl b,H,I,rfl,h⟩
theorem lM {j pos}:PE X (.Constant .none j pos) (tC .cE):=fun _ _ _ H _ I h=>Constant_none ⟨.cE,H,I,rfl,h⟩
theorem dz {x j pos}:PE X (.Constant (.str x) j pos) (tC (.str x)):=fun _ _ _ H _ I h=>Calls.Constant_str ⟨.str x,H,I.tok _,⟨_,rfl⟩,h⟩
def Gl (X:Cx)(x:Str):Prop:=X.env.kindOf x=some .globalImplicit
theorem iY {E:Value→Shared→Prop}{pins:List (Addr×Obj)}{s:Shared}{σ:St}{H:Hp}{x:Str}{u:Value}{pos:Pos}{Q:Value→Shared→Prop}(I:Inv X pins σ H s)(hg:Gl X x)(hm:X.mg x=some u)(h:Q u s)
  (hd:(x==("__debug__":Str))=false:=by decide):wpAny (model X.prog X.w) X.A (eval (.Name x pos) X.env) Q E s:=
 Calls.Name_function_global I.ok.kind hg (Calls.loadGlobal_global (by rw [I.ok.glob];exact I.mod.glob.keeps I.bk) hm h) hd
theorem gi {E:Value→Shared→Prop}{pins:List (Addr×Obj)}{s:Shared}{σ:St}{H:Hp}{x:Str}{u:Value}{pos:Pos}{Q:Value→Shared→Prop}(I:Inv X pins σ H s)(hg:Gl X x)(hm:X.mg x=none)(hv:bootBuiltins x=some u)(h:Q u s)
  (hn:x≠ "__name__":=by decide) (hd:(x==("__debug__":Str))=false:=by decide):wpAny (model X.prog X.w) X.A (eval (.Name x pos) X.env) Q E s:=by
 obtain ⟨mb,h1,h2⟩:=I.mod.blt
 exact Calls.Name_function_global I.ok.kind hg (Calls.loadGlobal_builtin (by rw [I.ok.glob];exact I.mod.glob.keeps I.bk) hm (by rw [I.ok.blt];exact h1.keeps I.bk) ((h2 x hn).trans hv) h) hd
theorem gZ {x:Str}{v:V}{u:Value}{pos:Pos}(hg:Gl X x)(hm:X.mg x=some u)(r:RelV v u)(hd:(x==("__debug__":Str))=false:=by decide):PE X (.Name x pos) (tC v):=
 fun _ _ _ H _ I h=>iY I hg hm ⟨v,H,I,r,h⟩ hd
theorem F_ {x:Str}{v:V}{u:Value}{pos:Pos}(hg:Gl X x)(hm:X.mg x=none)(hv:bootBuiltins x=some u)(r:RelV v u)(hn:x≠ "__name__":=by decide)(hd:(x==("__debug__":Str))=false:=by decide):PE X (.Name x pos) (tC v):=
 fun _ _ _ H _ I h=>gi I hg hm hv ⟨v,H,I,r,h⟩ hn hd
variable {a b:Expr}{ta tb:TE}{pos:Pos}
def PC (X:Cx)(op:CmpOp)(a b:Expr)(t:TE):Prop:=
 ∀(pins:List (Addr×Obj)) (s:Shared) (σ:St) (H:Hp) (Q:VK),Inv X pins σ H s→t σ H Q→
  wpAny (model X.prog X.w) X.A (eval a X.env) (fun v s₁=>wpAny (model X.prog X.w) X.A (eval b X.env) (fun u s₂=>wpAny (model X.prog X.w) X.A (compareOp op v u) (EP X pins σ Q) X.xe s₂) X.xe s₁) X.xe s
inductive tB_ (Q:(Bool→Hp→Prop))(x:V)(H1:Hp):Prop where
 | mk (c:_) (_:x=.bl c) (_:Q c H1):tB_ Q x H1
def tB (t:TE):TT:=fun σ H Q=>t σ H fun x H1=>tB_ Q x H1
theorem pR {op:CmpOp}{t:TE}(h:PC X op a b t)(h1:behindInMarks op b=false:=by first | exact nobehind _ (by decide) (by decide) | rfl):PT X (.Compare a [op] [b] pos) (tB t):=by
 intro pins s σ H Q I hw
 refine wpAny_isTrue_Compare1 (b9 (h pins s σ H _ I hw) fun v s1 h1=>b9 h1 fun u s2 h2=>b9 h2 fun c s3 ⟨x,H1,I1,r1,q1⟩=> ?_) h1
 obtain ⟨d,rfl,q⟩:=q1
 cases r1
 exact wpAny_truthy_bool ⟨H1,I1,q⟩
theorem cx {e:Expr}{t:TE}(h:PE X e t)(he:∀whole,isTrue e X.env whole=(do let v ← whole;standAt e.pos;holding [v] (truthy v)):=by intro _;rfl):PT X e (tB t):=by
 intro pins s σ H Q I hw
 refine isTrue_plain (b9 (h pins s σ H _ I hw) fun v s1 ⟨x,H1,I1,r1,q1⟩=> ?_) (he _)
 obtain ⟨d,rfl,q⟩:=q1
 cases r1
 exact wpAny_truthy_bool ⟨H1,I1,q⟩
variable {tA Vr :TT}{rest:List Expr}
def Wg (t u:TT):TT:=fun σ H Q=>t σ H fun c H1=>if c=true then u σ H1 Q else Q false H1
def tOr (t u:TT):TT:=fun σ H Q=>t σ H fun c H1=>if c=true then Q true H1 else u σ H1 Q
def Wh (t:TT):TT:=fun σ H Q=>t σ H fun c H1=>Q (!c) H1
theorem kO (ha:PT X a tA):PW X (.BoolOp .And [a] pos) tA:=by
 intro wh pins s σ H Q I h
 refine isTrue_and (b9 (ha pins s σ H Q I h) fun c s1 e=> ?_)
 cases c with
 | true=>exact isTrue_and_nil e
 | false=>exact e
theorem dA (ha:PT X a tA):PW X (.BoolOp .Or [a] pos) tA:=by
 intro wh pins s σ H Q I h
 refine isTrue_or (b9 (ha pins s σ H Q I h) fun c s1 e=> ?_)
 cases c with
 | false=>exact isTrue_or_nil e
 | true=>exact e
theorem pS (ha:PT X a tA)(hb:PW X (.BoolOp .And (b::rest) pos) Vr):PW X (.BoolOp .And (a::b::rest) pos) (Wg tA Vr):=by
 intro wh pins s σ H Q I h
 refine isTrue_and (b9 (ha pins s σ H _ I h) fun c s1 ⟨H1,I1,q1⟩=> ?_)
 cases c with
 | true=>exact hb wh pins s1 σ H1 Q I1 q1
 | false=>exact ⟨H1,I1,q1⟩
theorem ff (ha:PT X a tA)(hb:PW X (.BoolOp .Or (b::rest) pos) Vr):PW X (.BoolOp .Or (a::b::rest) pos) (tOr tA Vr):=by
 intro wh pins s σ H Q I h
 refine isTrue_or (b9 (ha pins s σ H _ I h) fun c s1 ⟨H1,I1,q1⟩=> ?_)
 cases c with
 | true=>exact ⟨H1,I1,q1⟩
 | false=>exact hb wh pins s1 σ H1 Q I1 q1
theorem cS (ha:PT X a tA):PT X (.UnaryOp .Not a pos) (Wh tA):=by
 intro pins s σ H Q I h
 exact isTrue_not (ha pins s σ H (fun c H1=>Q (!c) H1) I h)
def N5 (ta tb:TE):TE:=fun σ H Q=>ta σ H fun x H1=>∃c,x=.bl c∧if c=true then tb σ H1 Q else Q (.bl false) H1
inductive zQ (Q:VK)(x:V)(H1:Hp):Prop where
 | mk (c:_) (_:x=.bl c) (_:Q (.bl (!c)) H1):zQ Q x H1
def N6 (ta:TE):TE:=fun σ H Q=>ta σ H fun x H1=>zQ Q x H1
theorem uD {op}{t:TE}(h:PE X a t):PE X (.BoolOp op [a] pos) t:=fun pins s σ H Q I hw=>BoolOp_one (h pins s σ H Q I hw)
theorem uE (ha:PE X a ta)(hb:PE X (.BoolOp .And (b::rest) pos) tb):PE X (.BoolOp .And (a::b::rest) pos) (N5 ta tb):=by
 intro pins s σ H Q I h
 refine BoolOp_and (b9 (ha pins s σ H _ I h) fun v s1 ⟨x,H1,I1,r1,q1⟩=> ?_)
 obtain ⟨c,rfl,q1⟩:=q1
 cases r1
 refine wpAny_truthy_bool ?_
 cases c with
 | true=>exact hb pins s1 σ H1 Q I1 q1
 | false=>exact ⟨.bl false,H1,I1,rfl,q1⟩
theorem Ld (ha:PE X a ta):PE X (.UnaryOp .Not a pos) (N6 ta):=by
 intro pins s σ H Q I h
 refine UnaryOp_ (b9 (ha pins s σ H _ I h) fun v s1 ⟨x,H1,I1,r1,q1⟩=> ?_)
 obtain ⟨c,rfl,q1⟩:=q1
 cases r1
 exact not_of (wpAny_truthy_bool ⟨.bl (!c),H1,I1,rfl,q1⟩)
def tIf (t:TT)(ta tb:TE):TE:=fun σ H Q=>t σ H fun c H1=>if c=true then ta σ H1 Q else tb σ H1 Q
theorem rS {c:Expr}(hc:PT X c tA)(ha:PE X a ta)(hb:PE X b tb):PE X (.IfExp c a b pos) (tIf tA ta tb):=by
 intro pins s σ H Q I h
 refine wpAny_IfExp (b9 (hc pins s σ H _ I h) fun d s1 ⟨H1,I1,q1⟩=> ?_)
 cases d with
 | true=>exact ha pins s1 σ H1 Q I1 q1
 | false=>exact hb pins s1 σ H1 Q I1 q1
end
end L2
namespace L2
open PySem PySem.Spec PyProof.Rows
def aU (K:Frag)(H:Hp)(a:Addr)(xs:List V):Prop:=
 Rd H a (.lst xs)∨
  ∃(o:Obj) (its:Array Value) (n:Nat),K.lookup a=some o∧o.cls=.type "list"∧o.dict=none∧o.data=.seq its n∧its.size≤sizeLine∧Vals xs its.toList
def bL (K:Frag)(H:Hp)(a:Addr)(xs:List V):Prop:=
 Rd H a (.tup xs)∨
  ∃(o:Obj) (its:Array Value) (n:Nat),K.lookup a=some o∧o.cls=.type "tuple"∧o.data=.seq its n∧its.size≤sizeLine∧Vals xs its.toList
def Wi:Value→Option V
 | .none=>some .cE
 | .bool b=>some (.bl b)
 | .int i _=>some (.int i)
 | .str x _=>some (.str x)
 | .bytes b _=>some (.byt b)
 | .float b _=>some (.K8 b)
 | .ref a=>some (.ref a)
 | .type n=>some (.ty n)
 | _=>none
theorem RelV.abs {x:V}{u:Value}(r:RelV x u):Wi u=some x:=by
 cases x with
 | cE=>cases r;rfl
 | bl _=>cases r;rfl
 | int _=>obtain ⟨t,rfl⟩:=r;rfl
 | str _=>obtain ⟨t,rfl⟩:=r;rfl
 | byt _=>obtain ⟨t,rfl⟩:=r;rfl
 | K8 _=>obtain ⟨t,rfl⟩:=r;rfl
 | ref _=>cases r;rfl
 | ty _=>cases r;rfl
theorem RelV.inj {x y:V}{u:Value}(r:RelV x u)(q:RelV y u):x=y:=aeY (r.abs.symm.trans q.abs)
theorem Vals.inj:∀{xs ys:List V} {us:List Value},Vals xs us→Vals ys us→xs=ys
 | _,_,_,.nil,.nil=>rfl
 | _,_,_,.cons r t,.cons r' t' =>by rw [r.inj r',Vals.inj t t']
section
variable {X:Cx}{pins:List (Addr×Obj)}{σ:St}{H:Hp}{s:Shared}{a:Addr}{xs ys:List V}
theorem aU.of {K:Frag}(h:H a=some (.lst xs)):aU K H a xs:=.inl (.inl h)
theorem bL.of {K:Frag}(h:H a=some (.tup xs)):bL K H a xs:=.inl (.inl h)
theorem Inv.list (I:Inv X pins σ H s)(h:aU X.K H a xs):∃its:List Value,Vals xs its∧PlainL s.heap a its.toArray∧xs.length≤sizeLine:=by
 rcases h with h | ⟨o,its,n,hk,hc,hd,hs,hz,r⟩
 ·obtain ⟨z,its,n,r,e⟩:=h.ok I.bI
  exact ⟨its,r,⟨_,n,e,rfl,rfl,rfl⟩,z⟩
 ·refine ⟨its.toList,r,⟨o,n,I.iB a o hk,hc,hd,by simpa using hs⟩,?_⟩
  have e:=r.length
  simp only [aoZ] at e
  omega
theorem Inv.tuple (I:Inv X pins σ H s)(h:bL X.K H a xs):∃its:List Value,Vals xs its∧IsTup s.heap a its.toArray∧xs.length≤sizeLine:=by
 rcases h with h | ⟨o,its,n,hk,hc,hs,hz,r⟩
 ·obtain ⟨z,its,r,p⟩:=h.ok I.bI
  exact ⟨its,r,p,z⟩
 ·refine ⟨its.toList,r,⟨o,I.iB a o hk,hc,n,by simpa using hs⟩,?_⟩
  have e:=r.length
  simp only [aoZ] at e
  omega
theorem Inv.gJ (I:Inv X pins σ H s)(h:aU X.K H a xs)(h' :aU X.K H a ys):xs=ys:=by
 obtain ⟨its,r,⟨o,n,e,_,_,d⟩,_⟩:=I.list h
 obtain ⟨its',r',⟨o',n',e',_,_,d'⟩,_⟩:=I.list h'
 rw [e] at e';cases e'
 rw [d] at d'
 injection d' with d1 _
 have:its=its' :=by simpa using congrArg apW d1
 subst this
 exact r.inj r'
theorem Inv.fV (I:Inv X pins σ H s)(h:bL X.K H a xs)(h' :bL X.K H a ys):xs=ys:=by
 obtain ⟨its,r,⟨o,e,_,n,d⟩,_⟩:=I.tuple h
 obtain ⟨its',r',⟨o',e',_,n',d'⟩,_⟩:=I.tuple h'
 rw [e] at e';cases e'
 rw [d] at d'
 injection d' with d1 _
 have:its=its' :=by simpa using congrArg apW d1
 subst this
 exact r.inj r'
end
abbrev Cx.oh (X:Cx)(E:Value→Shared→Prop):Cx:={X with xe:=E}
abbrev Cx.vM (X:Cx):Cx:=X.oh fun _ _=>False
theorem Cx.Ok.oh {X:Cx}(ok:X.Ok)(E:Value→Shared→Prop):(X.oh E).Ok:=
 ⟨ok.mod,ok.kind,ok.glob,ok.blt,ok.above,ok.inj,ok.has,ok.N1,ok.hd,ok.frames,ok.Vo,ok.exf,ok.bs,ok.FV,ok.zP,ok.FW,ok.kE,ok.La⟩
theorem Cx.Ok.gK {X:Cx}{E:Value→Shared→Prop}(ok:(X.oh E).Ok):X.Ok:=
 ⟨ok.mod,ok.kind,ok.glob,ok.blt,ok.above,ok.inj,ok.has,ok.N1,ok.hd,ok.frames,ok.Vo,ok.exf,ok.bs,ok.FV,ok.zP,ok.FW,ok.kE,ok.La⟩
section
variable {X:Cx}{pins:List (Addr×Obj)}{σ:St}{H:Hp}{s:Shared}{E:Value→Shared→Prop}
theorem Inv.oh (I:Inv X pins σ H s)(E:Value→Shared→Prop):Inv (X.oh E) pins σ H s:=⟨I.ok.oh E,I.os,I.bare,I.base,I.loc,I.cell,I.free,I.gD,I.pin,I.bI,I.len⟩
theorem Inv.gK (I:Inv (X.oh E) pins σ H s):Inv X pins σ H s:=⟨I.ok.gK,I.os,I.bare,I.base,I.loc,I.cell,I.free,I.gD,I.pin,I.bI,I.len⟩
theorem SP.gK {D:Ends}{f:Flow}{s' :Shared}(h:SP (X.oh E) pins D f s'):SP X pins D f s' :=by
 cases f with
 | next=>obtain ⟨σ',H',I,q⟩:=h;exact ⟨σ',H',I.gK,q⟩
 | brk=>obtain ⟨σ',H',I,q⟩:=h;exact ⟨σ',H',I.gK,q⟩
 | cont=>obtain ⟨σ',H',I,q⟩:=h;exact ⟨σ',H',I.gK,q⟩
 | ret u=>obtain ⟨v,σ',H',I,r,q⟩:=h;exact ⟨v,σ',H',I.gK,r,q⟩
theorem PSs.vM {st:List Stmt}{t:TS}(h:PSs X.vM st t):PSs X st t:=fun pins s σ H D I hw=>
 wpAny_mono (h pins s σ H D (I.oh _) hw) (fun _ _ q=>q.gK) fun _ _ z=>False.elim z
end
section
variable {X:Cx}{st:Stmt}{rest:List Stmt}{t u:TS}{e:Expr}{te:TE}{pos:Pos}
def vN:TS:=fun D σ H=>D.nx σ H
def N7 (t u:TS):TS:=fun D σ H=>t {D with nx:=u D} σ H
theorem aL:PSs X [] vN:=fun _ _ σ H _ I h=>wpAny_execs_nil ⟨σ,H,I,h⟩
theorem ae (h1:PS X st t)(h2:PSs X rest u):PSs X (st::rest) (N7 t u):=by
 intro pins s σ H D I h
 refine wpAny_execs_cons (b9 (h1 pins s σ H {D with nx:=u D} I h) fun f s1 q=> ?_)
 cases f with
 | next=>
  obtain ⟨σ',H',I',q⟩:=q
  exact h2 pins s1 σ' H' D I' q
 | ret v=>exact q
 | brk=>exact q
 | cont=>exact q
theorem ah (h1:PS X st t):PSs X [st] t:=by
 intro pins s σ H D I h
 refine wpAny_execs_cons (b9 (h1 pins s σ H D I h) fun f s1 q=> ?_)
 cases f with
 | next=>exact wpAny_execs_nil q
 | ret v=>exact q
 | brk=>exact q
 | cont=>exact q
def N8:TS:=fun D σ H=>D.ct σ H
theorem rT:PS X (.Continue pos) N8:=fun _ _ σ H _ I h=>wpAny_Continue ⟨σ,H,I,h⟩
theorem Inv.quiet {pins:List (Addr×Obj)}{σ:St}{H:Hp}{s:Shared}(I:Inv X pins σ H s):interactive X.env=false:=by simp [interactive,I.ok.kind]
def N9 (te:TE):TS:=fun D σ H=>te σ H fun _ H1=>D.nx σ H1
theorem bO (he:PE X e te)(hs:swapsWith e none pos.line X.env=pure false:=by rfl):PS X (.Expr e pos) (N9 te):=by
 intro pins s σ H D I h
 exact wpAny_Expr_any (b9 (he pins s σ H _ I h) fun v s1 ⟨x,H1,I1,r1,q1⟩=>⟨σ,H1,I1,q1⟩) I.quiet hs
def Wj (te:TE):TS:=fun D σ H=>te σ H D.rt
theorem aF (he:PE X e te):PS X (.Return (some e) pos) (Wj te):=by
 intro pins s σ H D I h
 exact wpAny_Return_some (b9 (he pins s σ H _ I h) fun v s1 ⟨x,H1,I1,r1,q1⟩=>⟨x,σ,H1,I1,r1,q1⟩)
def Wk (c:TT)(t u:TS):TS:=fun D σ H=>c σ H fun b H1=>if b=true then t D σ H1 else u D σ H1
theorem bg {c:Expr}{a b:List Stmt}{tc:TT}(hc:PT X c tc)(ha:PSs X a t)(hb:PSs X b u):PS X (.If c a b pos) (Wk tc t u):=by
 intro pins s σ H D I h
 refine wpAny_If (b9 (hc pins s σ H _ I h) fun d s1 ⟨H1,I1,q1⟩=> ?_)
 cases d with
 | true=>exact ha pins s1 σ H1 D I1 q1
 | false=>exact hb pins s1 σ H1 D I1 q1
def Le:TS:=fun _ _ _=>False
theorem df:PS X st Le:=fun _ _ _ _ _ _ h=>h.elim
end
abbrev TG:=V→St→Hp→(St→Hp→Prop)→Prop
abbrev JQ:=List V→St→Hp→(St→Hp→Prop)→Prop
def PG (X:Cx)(target:Expr)(t:TG):Prop:=
 ∀(pins:List (Addr×Obj)) (s:Shared) (σ:St) (H:Hp) (v:V) (u:Value) (Q:St→Hp→Prop),Inv X pins σ H s→RelV v u→t v σ H Q→
  wpAny (model X.prog X.w) X.A (assign target X.env u) (fun _ s' =>∃σ' H',Inv X pins σ' H' s' ∧Q σ' H') X.xe s
def N_ (X:Cx)(ts:List Expr)(t:JQ):Prop:=
 ∀(pins:List (Addr×Obj)) (s:Shared) (σ:St) (H:Hp) (vs:List V) (us:List Value) (Q:St→Hp→Prop),Inv X pins σ H s→Vals vs us→t vs σ H Q→
  wpAny (model X.prog X.w) X.A (assignInOrder ((assignEach ts X.env).map (·.2)) us) (fun _ s' =>∃σ' H',Inv X pins σ' H' s' ∧Q σ' H') X.xe s
abbrev Lf:=V→V→V→Hp→(Hp→Prop)→Prop
def N' (X:Cx)(t:Lf):Prop:=
 ∀(pins:List (Addr×Obj)) (s:Shared) (σ:St) (H:Hp) (o i v:V) (ov iv u:Value) (Q:Hp→Prop),Inv X pins σ H s→RelV o ov→RelV i iv→RelV v u→t o i v H Q→
  wpAny (model X.prog X.w) X.A (setItem ov iv u) (fun _ s' =>∃H',Inv X pins σ H' s' ∧Q H') X.xe s
section
variable {X:Cx}{pos:Pos}
def cZ (i:Nat):TG:=fun v σ H Q=>Q (σ.set i (some v)) H
theorem aw {i:Nat}{x:Str}(hN:X.N.Nodup)(hi:X.N[i]? =some x)(hx:Loc X.env.scope x)(hf:X.fn x=true∨X.env.scope.names.lookup x=some .local:=by first | exact .inl rfl | exact .inr rfl | assumption):PG X (.Name x pos) (cZ i):=by
 intro pins s σ H v u Q I r h
 exact wpAny_assign_Name (iX I hN hi hx r (fun s' I' =>⟨_,H,I',h⟩) hf)
def Lg:JQ:=fun vs σ H Q=>vs=[]∧Q σ H
def rV (t:TG)(u:JQ):JQ:=fun vs σ H Q=>∃v r,vs=v::r∧t v σ H fun σ' H' =>u r σ' H' Q
theorem cC:N_ X [] Lg:=by
 intro pins s σ H vs us Q I r h
 obtain ⟨e,h⟩:=h
 subst e
 cases r
 exact assignInOrder_nil ⟨σ,H,I,h⟩
theorem aV {e:Expr}{es:List Expr}{t:TG}{u:JQ}(h1:PG X e t)(h2:N_ X es u)
  (hs:(assignEach (e::es) X.env).map (·.2)=assign e X.env::(assignEach es X.env).map (·.2):=by rfl):N_ X (e::es) (rV t u):=by
 intro pins s σ H vs us Q I r h
 obtain ⟨v,vr,e1,h⟩:=h
 subst e1
 cases r with
 | cons r rr=>
  rw [hs]
  refine assignInOrder_cons (b9 (h1 pins s σ H _ _ _ I r h) fun _ s1 ⟨σ1,H1,I1,q1⟩=> ?_)
  exact h2 pins s1 σ1 H1 _ _ Q I1 rr q1
inductive zR (K:Frag)(n:Nat)(t:JQ)(v:V)(σ:St)(H:Hp)(Q:(St→Hp→Prop)):Prop where
 | mk (a xs:_) (_:v=.ref a) (_:bL K H a xs) (_:xs.length=n) (_:t xs σ H Q):zR K n t v σ H Q
theorem dB {es:List Expr}{k:Nat}{t:JQ}{n:Nat}(hc:X.calm=true)(h:N_ X es t)
  (hn:(assignEach es X.env).length=n:=by rfl) (F':(assignEach es X.env).findIdx? (·.1)=none:=by rfl):PG X (.Tuple es k pos) (zR X.K n t):=by
 intro pins s σ H v u Q I r hw
 obtain ⟨a,xs,e1,hq,hl,hw⟩:=hw
 subst e1
 cases r
 obtain ⟨its,rv,ht,hz⟩:=I.tuple hq
 refine assign_Tuple_tuple (I.ok.hd hc) ht (by simp [hn, ← hl,rv.length]) F' fun h' hx=> ?_
 have I1:Inv X pins σ H {s with heap:=h' }:=I.kept (t' :=s.toks) fun b o e=>hx b o (ae4 (Heap.lt_size e)) e
 exact h pins _ σ H xs _ Q I1 (by simpa using rv) hw
def Wm (to ti:TE)(t:Lf):TG:=fun v σ H Q=>to σ H fun o H1=>ti σ H1 fun i H2=>t o i v H2 fun H3=>Q σ H3
theorem zV {o i:Expr}{to ti:TE}{t:Lf}(ho:PE X o to)(hi:PE X i ti)(hs:N' X t)
  (ha:∀v,assign (.Subscript o i pos) X.env v=(do
   let ov ← holding [v] (eval o X.env)
   let iv ← holding [v,ov] (eval i X.env)
   standAt pos
   holding [v,ov,iv] (setItem ov iv v)
   release [v,ov,iv] []):=by intro _;rfl):PG X (.Subscript o i pos) (Wm to ti t):=by
 intro pins s σ H v u Q I r h
 rw [ha]
 refine wpAny_bind (wpAny_holding (b9 (ho pins s σ H _ I h) fun ov s1 ⟨x,H1,I1,r1,q1⟩=> ?_))
 refine wpAny_bind (wpAny_holding (b9 (hi pins s1 σ H1 _ I1 q1) fun iv s2 ⟨y,H2,I2,r2,q2⟩=> ?_))
 refine wpAny_bind (wpAny_standAt (wpAny_bind (wpAny_holding (b9 (hs pins s2 σ H2 x y v ov iv u _ I2 r1 r2 r q2) fun _ s3 ⟨H3,I3,q3⟩=> ?_))))
 exact wpAny_release ⟨σ,H3,I3,q3⟩
def Lh (te:TE)(g:TG):TS:=fun D σ H=>te σ H fun x H1=>g x σ H1 D.nx
theorem zW {tg e:Expr}{te:TE}{g:TG}(he:PE X e te)(hg:PG X tg g)(hs:swapsWithSole [tg] e pos.line X.env=pure false:=by rfl)(hw:swappedStores [tg] e X.env=pure none:=by rfl)
  (h1:(assignEach [tg] X.env).map (·.2)=[assign tg X.env]:=by rfl):PS X (.Assign [tg] e pos) (Lh te g):=by
 intro pins s σ H D I h
 refine wpAny_Assign_stores (b9 (he pins s σ H _ I h) fun v s1 ⟨x,H1,I1,r1,q1⟩=> ?_) hs hw
 rw [h1]
 exact b9 (hg pins s1 σ H1 x v _ I1 r1 q1) fun _ s2 q=>q
theorem aC {i:Nat}{x:Str}{e:Expr}{te:TE}{pos' :Pos}(hN:X.N.Nodup)(hi:X.N[i]? =some x)(hx:Loc X.env.scope x)(he:PE X e te)(hs:swapsWith e (some (.Name x pos')) pos.line X.env=pure false:=by rfl)(hf:X.fn x=true∨X.env.scope.names.lookup x=some .local:=by first | exact .inl rfl | exact .inr rfl | assumption):
  PS X (.Assign [.Name x pos'] e pos) (Lh te (cZ i)):=by
 intro pins s σ H D I h
 refine wpAny_Assign_Name (b9 (he pins s σ H _ I h) fun v s1 ⟨y,H1,I1,r1,q1⟩=> ?_) hs
 exact iX I1 hN hi hx r1 (fun s2 I2=>⟨_,H1,I2,q1⟩) hf
inductive JR (i:Nat)(j:Nat)(D:Ends)(σ:St)(vs:List V)(H1:Hp):Prop where
 | mk (v w:_) (_:vs=[v,w]) (_:D.nx ((σ.set i (some v)).set j (some w)) H1):JR i j D σ vs H1
def Wn (i j:Nat)(ta:TA):TS:=fun D σ H=>ta σ H fun vs H1=>JR i j D σ vs H1
theorem Li {i j:Nat}{x y:Str}{a b:Expr}{ta:TA}{px py pt:Pos}{kt k2 Wo}(hc:X.calm=true)(hN:X.N.Nodup)(hi:X.N[i]? =some x)(hj:X.N[j]? =some y)(hij:i≠j)
  (hx:X.env.scope.names.lookup x=some .local) (hy:X.env.scope.names.lookup y=some .local) (ha:PA X [a,b] ta)
  (hw:swappedStores [.Tuple [.Name x px,.Name y py] kt pt] (.Tuple [a,b] k2 Wo) X.env=pure (some [x,y]))
  (hs:swapsWithSole [.Tuple [.Name x px,.Name y py] kt pt] (.Tuple [a,b] k2 Wo) pos.line X.env=pure false:=by rfl):
  PS X (.Assign [.Tuple [.Name x px,.Name y py] kt pt] (.Tuple [a,b] k2 Wo) pos) (Wn i j ta):=by
 intro pins s σ H D I h
 rw [exec_Assign_arm]
 refine wpAny_bind (wpAny_standAt ?_)
 rw [hs]
 refine wpAny_bind (wpAny_pure ?_)
 rw [if_neg (by decide)]
 refine wpAny_bind (Tuple_ (b9 (ha _ pins s σ H _ I h) fun us s1 ⟨vs,H1,I1,r1,q1⟩=> ?_))
 obtain ⟨v,w,e1,q1⟩:=q1
 subst e1
 obtain ⟨u1,u2,rfl,rv,rN⟩:∃u1 u2,us=[u1,u2]∧RelV v u1∧RelV w u2:=by
  cases r1 with
  | cons p q=>
   cases q with
   | cons p' q' =>
    cases q'
    exact ⟨_,_,rfl,p,p'⟩
 refine wpAny_newObj_type ?_ (by show 2≤sizeLine;decide)
 have I2:Inv X pins σ H1 {s1 with heap:=s1.heap.push {cls:=.type "tuple",data:=.seq [u1,u2].toArray}}:=I1.kept (t' :=s1.toks) fun b o e=>Heap.get?_push_of_some _ e
 rw [hw]
 refine wpAny_bind (wpAny_pure ?_)
 show wpAny (model X.prog X.w) X.A (do rule "assign.swapped-stores";let items ← unpackItems (.ref s1.heap.objs.size) 2 none;assignInOrder [fun v=>bindName X.env y v,fun v=>bindName X.env x v] items.reverse;pure Flow.next) _ _ _
 refine wpAny_bind (wpAny_rule (wpAny_bind (unpackItems_tuple (items:= #[u1,u2]) (I.ok.hd hc) (IsTup.new s1.heap _) fun h' xk => ?_)))
 have I3:=I2.kept (h' :=h') (t' :=s1.toks) fun b o e=>xk b o (ae4 (Heap.lt_size e)) e
 show wpAny _ _ (assignInOrder [fun v=>bindName X.env y v,fun v=>bindName X.env x v] [u2,u1] >>=fun _=>pure Flow.next) _ _ _
 refine wpAny_bind (assignInOrder_cons (wpAny_bindName (iX I3 hN hj (.inl hy) rN (fun s2 I4=> ?_) (.inr hy))))
 refine assignInOrder_cons (wpAny_bindName (iX I4 hN hi (.inl hx) rv (fun s3 I5=>assignInOrder_nil (wpAny_pure ?_)) (.inr hx)))
 rw [List.set_comm _ _ (ae8 hij)] at I5
 exact ⟨_,H1,I5,q1⟩
def zX (c:TT)(tb:TS):TS:=fun D σ H=>∃W:Nat→St→Hp→Prop,(∃m,W m σ H)∧∀m σ H,W m σ H→
 c σ H fun b H1=>if b=true then ∃N:St→Hp→Prop,(∀σ' H',N σ' H' →∃m',m' < m∧W m' σ' H')∧tb {D with nx:=N,ct:=N,bk:=D.nx} σ H1 else D.nx σ H1
theorem lO {c:Expr}{body:List Stmt}{tc:TT}{tb:TS}(hp:PassesOwn (model X.prog X.w) X.A X.env X.xe)(hc:PT X c tc)(hb:PSs X body tb):PS X (.While c body [] pos) (zX tc tb):=by
 intro pins s σ H D I h
 obtain ⟨W,⟨m0,w0⟩,turn⟩:=h
 refine wpAny_While (codeAny_whileLoop (fun n s' =>∃σ' H',Inv X pins σ' H' s' ∧W n σ' H') ?_ m0 ⟨σ,H,I,w0⟩)
 rintro n s1 ⟨σ1,H1,I1,w1⟩
 refine wpAny_passesOwn hp (b9 (hc pins s1 σ1 H1 _ I1 (turn n σ1 H1 w1)) fun b s2 ⟨H2,I2,q2⟩=> ?_)
 cases b with
 | true=>
  obtain ⟨N,hN,q2⟩:=q2
  rw [if_pos rfl]
  refine wpAny_passesOwn hp (b9 (hb pins s2 σ1 H2 _ I2 q2) fun f s3 q3=> ?_)
  cases f with
  | next=>
   obtain ⟨σ3,H3,I3,n3⟩:=q3
   obtain ⟨m',hm,w3⟩:=hN σ3 H3 n3
   exact ⟨m',hm,σ3,H3,I3,w3⟩
  | cont=>
   obtain ⟨σ3,H3,I3,n3⟩:=q3
   obtain ⟨m',hm,w3⟩:=hN σ3 H3 n3
   exact ⟨m',hm,σ3,H3,I3,w3⟩
  | brk=>exact q3
  | ret v=>exact q3
 | false=>
  rw [if_neg aeQ]
  exact wpAny_execs_nil ⟨σ1,H2,I2,q2⟩
end
structure It where
 go:Nat→Hp→Prop
 zB:Nat→Hp→V→Hp→Prop
 stop:Nat→Hp→Prop
def gL (X:Cx)(pins:List (Addr×Obj))(H:Hp)(b:Addr):Prop:=
 H b=none∧b≠X.env.locals∧b∉X.fs∧(b∈X.ex∨X.s₀.heap.objs.size≤b)∧(∀x c,X.env.cells.lookup x=some c→c≠b)∧∀p∈X.pn++pins,p.1≠b
theorem Inv.jF {X:Cx}{pins:List (Addr×Obj)}{σ:St}{H H' :Hp}{s:Shared}{b:Addr}(I:Inv X pins σ H s)(hb:s.heap.objs.size≤b)(hn:H' b=none):gL X pins H' b:=by
 refine ⟨hn,afW (aeT I.lt hb),I.Wb hb,.inr (ad_ I.sz hb),fun x c e z=> ?_,fun p hp z=> ?_⟩
 ·obtain ⟨v,q⟩:=I.cell x c e
  exact absurd (aeT q.lt (by rw [z];exact hb)) (afj _)
 ·exact absurd (aeT (Heap.lt_size (I.pin p hp).1) (by rw [z];exact hb)) (afj _)
structure Turn (P:Program)(w:World)(K:Frag)(tg:Expr)(J:It)(fp:List Addr)(it:Addr)(tn:Nat→Heap→Prop):Prop where
 mem:it∈fp
 obj:∀i h,tn i h→∀b∈fp,∃o,h.get? b=some o∧∀v,o.data≠.cell v
 keep:∀i h h',tn i h→(∀b∈fp,∀o,h.get? b=some o→h'.get? b=some o)→tn i h'
 item:∀(X:Cx),X.prog=P→X.w=w→X.K=K→X.calm=true→∀(i:Nat) (pins:List (Addr×Obj)) (s:Shared) (σ:St) (H:Hp) (E:Value→Shared→Prop),Inv X pins σ H s→(∀b∈fp,gL X pins H b)→tn i s.heap→J.go i H→
  wpAny (model P w) X.A (pyNext (.ref it)) (fun r s1=>∃u,r=some u∧
   wpAny (model P w) X.A (letOwnedTupleGo tg (.ref it) u) (fun _ s2=>∃x H',Inv X pins σ H' s2∧RelV x u∧J.zB i H x H' ∧tn (i+1) s2.heap∧∀b∈fp,H' b=none) E s1) E s
 done:∀(X:Cx),X.prog=P→X.w=w→X.K=K→X.calm=true→∀(i:Nat) (pins:List (Addr×Obj)) (s:Shared) (σ:St) (H:Hp) (E:Value→Shared→Prop),Inv X pins σ H s→(∀b∈fp,gL X pins H b)→tn i s.heap→J.stop i H→
  wpAny (model P w) X.A (pyNext (.ref it)) (fun r s1=>r=none∧Inv X pins σ H s1) E s
 self:∀(A:Around) (i:Nat) (s:Shared) (Q:Value→Shared→Prop) (E:Value→Shared→Prop),tn i s.heap→Q (.ref it) s→wpAny (model P w) A (pyIter (.ref it)) Q E s
abbrev TI:=St→Hp→(It→Hp→Prop)→Prop
def PIE (X:Cx)(pins:List (Addr×Obj))(σ:St)(tg:Expr)(R:It→Hp→Prop)(Vs:Value)(s2:Shared):Prop:=
 ∃(it:Addr) (fp:List Addr) (tn:Nat→Heap→Prop) (J:It) (H' :Hp),Vs=.ref it∧Inv X pins σ H' s2∧Turn X.prog X.w X.K tg J fp it tn∧tn 0 s2.heap∧(∀b∈fp,gL X pins H' b)∧R J H'
def PI (X:Cx)(tg iter:Expr)(wi:TI):Prop:=
 ∀(pins:List (Addr×Obj)) (s:Shared) (σ:St) (H:Hp) (R:It→Hp→Prop),Inv X pins σ H s→wi σ H R→
  wpAny (model X.prog X.w) X.A (eval iter X.env) (fun v s1=>wpAny (model X.prog X.w) X.A (pyIter v) (PIE X pins σ tg R) X.xe s1) X.xe s
theorem vO {M : Model} {A : Around} {E : Value → Shared → Prop} {s : Shared} {tg : Expr} {it : Addr} {u : Value} {o : Obj} {n : String} {vs : Array Value} {Q : Unit → Shared → Prop} (ho : s.heap.get? it = some o) (hc : o.cls = .type n) (hd : o.data = .fields vs)
    (hn : ["enumerate", "zip", "dict_itemiterator", "dict_reverseitemiterator", "odict_iterator", "itertools.zip_longest", "itertools.pairwise"].contains n = false) (hQ : Q () s) : wpAny M A (letOwnedTupleGo tg (.ref it) u) Q E s := by
  unfold letOwnedTupleGo
  cases tg <;> first
    | exact wpAny_pure hQ
    | (cases u <;> first
        | exact wpAny_pure hQ
        | (refine wpAny_bind (wpAny_load ho ?_)
           rw [hc, hd]
           show wpAny M A (if (["enumerate", "zip", "dict_itemiterator", "dict_reverseitemiterator", "odict_iterator", "itertools.zip_longest", "itertools.pairwise"].contains n && vs[0]? == some (rawInt _)) = true then _ else _) Q E s
           rw [if_neg (by intro h; rw [hn, Bool.false_and] at h; cases h)]
           exact wpAny_pure hQ))
def GB (K:Frag)(a:Addr):It:=
 ⟨fun i H=>∃xs x,aU K H a xs∧xs[i]? =some x,fun i H x H' =>H' =H∧∀xs,aU K H a xs→xs[i]? =some x,fun i H=>∃xs,aU K H a xs∧xs.length≤i⟩
def Oa (K:Frag)(a:Addr):It:=
 ⟨fun i H=>∃xs x,bL K H a xs∧xs[i]? =some x,fun i H x H' =>H' =H∧∀xs,bL K H a xs→xs[i]? =some x,fun i H=>∃xs,bL K H a xs∧xs.length≤i⟩
def Lj (lo:Int)(n:Nat):It:=⟨fun i _=>i < n,fun i H x H' =>H' =H∧x=.int (lo+i),fun i _=>n≤i⟩
theorem xl {P:Program}{w:World}{K:Frag}{tg:Expr}(a it:Addr):Turn P w K tg (GB K a) [it] it (fun i h=>h.IsListIter it a i) where
 mem:=by simp
 obj:=fun i h st b hb=>by
  have e:b=it:=by simpa using hb
  subst e
  obtain ⟨o,e,c,d⟩:=st
  exact ⟨o,e,fun v z=>by rw [d] at z;cases z⟩
 keep:=fun i h h' st k=>st.at fun o e=>k it (by simp) o e
 item:=by
  intro X hP hw hK hc i pins s σ H E I hf st hg
  subst hP hw hK
  obtain ⟨xs,x,hq,hx⟩:=hg
  obtain ⟨its,rv,p,hz⟩:=I.list hq
  obtain ⟨u,hu,ru⟩:=rv.get hx
  obtain ⟨f0,f1,f2,f3,f4,f5⟩:=hf it (by simp)
  refine wpAny_pyNext_list_item st p.isList (x:=u) (by simpa using hu) fun h' uu sb=> ?_
  have I1:Inv X pins σ H {s with heap:=h' }:=I.turned (t' :=s.toks) (fun b o hb e=>(sb.2 b hb).trans e) f0 f1 f3 f4 f5
  obtain ⟨o,e,c,d⟩:=id uu
  exact ⟨u,rfl,vO (s:={s with heap:=h' }) e c d (by decide) ⟨x,H,I1,ru,⟨rfl,fun ys hy=>by rw [I.gJ hy hq];exact hx⟩,uu,fun b hb=>(hf b hb).1⟩⟩
 done:=by
  intro X hP hw hK hc i pins s σ H E I hf st hg
  subst hP hw hK
  obtain ⟨xs,hq,hx⟩:=hg
  obtain ⟨its,rv,p,hz⟩:=I.list hq
  obtain ⟨f0,f1,f2,f3,f4,f5⟩:=hf it (by simp)
  have hl:=rv.length
  exact wpAny_pyNext_list_end (I.ok.hd hc) st p.isList (by simp;omega) fun h' eb=>⟨rfl,I.turned (t' :=s.toks) (fun b o hb e=>eb b o hb e) f0 f1 f3 f4 f5⟩
 self:=fun _ _ _ _ _ st h=>wpAny_pyIter_listiter st h
theorem uF {P:Program}{w:World}{K:Frag}{tg:Expr}(a it:Addr):Turn P w K tg (Oa K a) [it] it (fun i h=>h.IsTupleIter it a i) where
 mem:=by simp
 obj:=fun i h st b hb=>by
  have e:b=it:=by simpa using hb
  subst e
  obtain ⟨o,e,c,d⟩:=st
  exact ⟨o,e,fun v z=>by rw [d] at z;cases z⟩
 keep:=fun i h h' st k=>st.at fun o e=>k it (by simp) o e
 item:=by
  intro X hP hw hK hc i pins s σ H E I hf st hg
  subst hP hw hK
  obtain ⟨xs,x,hq,hx⟩:=hg
  obtain ⟨its,rv,p,hz⟩:=I.tuple hq
  obtain ⟨u,hu,ru⟩:=rv.get hx
  obtain ⟨f0,f1,f2,f3,f4,f5⟩:=hf it (by simp)
  refine wpAny_pyNext_tuple_item st (show s.heap.IsTuple a its.toArray from p) (x:=u) (by simpa using hu) fun h' uu sb=> ?_
  have I1:Inv X pins σ H {s with heap:=h' }:=I.turned (t' :=s.toks) (fun b o hb e=>(sb.2 b hb).trans e) f0 f1 f3 f4 f5
  obtain ⟨o,e,c,d⟩:=id uu
  exact ⟨u,rfl,vO (s:={s with heap:=h' }) e c d (by decide) ⟨x,H,I1,ru,⟨rfl,fun ys hy=>by rw [I.fV hy hq];exact hx⟩,uu,fun b hb=>(hf b hb).1⟩⟩
 done:=by
  intro X hP hw hK hc i pins s σ H E I hf st hg
  subst hP hw hK
  obtain ⟨xs,hq,hx⟩:=hg
  obtain ⟨its,rv,p,hz⟩:=I.tuple hq
  obtain ⟨f0,f1,f2,f3,f4,f5⟩:=hf it (by simp)
  have hl:=rv.length
  exact wpAny_pyNext_tuple_end (I.ok.hd hc) st (show s.heap.IsTuple a its.toArray from p) (by simp;omega) fun h' eb=>⟨rfl,I.turned (t' :=s.toks) (fun b o hb e=>eb b o hb e) f0 f1 f3 f4 f5⟩
 self:=fun _ _ _ _ _ st h=>wpAny_pyIter_tupleiter st h
theorem uG {P:Program}{w:World}{K:Frag}{tg:Expr}(it:Addr)(lo:Int)(n:Nat):Turn P w K tg (Lj lo n) [it] it (fun i h=>IsRangeIter h it (lo+(i:Nat)*1) ((n:Int) - (i:Nat)) 1) where
 mem:=by simp
 obj:=fun i h st b hb=>by
  have e:b=it:=by simpa using hb
  subst e
  exact ⟨_,st,fun v z=>by
   have z' :Data.fields _=Data.cell v:=z
   cases z'⟩
 keep:=fun i h h' st k=>k it (by simp) _ st
 item:=by
  intro X hP hw hK hc i pins s σ H E I hf st hg
  subst hP hw hK
  obtain ⟨f0,f1,f2,f3,f4,f5⟩:=hf it (by simp)
  have W:=Walks.range (prog:=X.prog) (w:=X.w) (I.ok.hd hc) it lo 1 n
  refine W.item i s _ _ hg st fun v h' tk hv uu kk=> ?_
  obtain ⟨t,rfl⟩:=hv
  have I1:Inv X pins σ H {s with heap:=h',toks:=tk}:=I.turned (fun b o hb e=>kk b o (by simpa using hb) e) f0 f1 f3 f4 f5
  refine ⟨_,rfl,vO (s:={s with heap:=h',toks:=tk}) (n:="range_iterator") uu rfl rfl (by decide) ⟨.int (lo+i),H,I1,⟨t,?_⟩,⟨rfl,rfl⟩,uu,fun b hb=>(hf b hb).1⟩⟩
  rw [Int.mul_one]
 done:=by
  intro X hP hw hK hc i pins s σ H E I hf st hg
  subst hP hw hK
  obtain ⟨f0,f1,f2,f3,f4,f5⟩:=hf it (by simp)
  exact wpAny_pyNext_range_end (I.ok.hd hc) st (by have:n≤i:=hg;omega) fun h' eb=>⟨rfl,I.turned (t' :=s.toks) (fun b o hb e=>eb b o hb e) f0 f1 f3 f4 f5⟩
 self:=fun _ _ _ _ _ st h=>wpAny_pyIter_rangeiter st h
end L2
namespace L2
open PySem PySem.Spec PyProof.Rows
section
variable {X:Cx}{tg:Expr}
inductive zY (K:Frag)(R:(It→Hp→Prop))(x:V)(H1:Hp):Prop where
 | mk (a:_) (_:x=.ref a) (_:(∃xs,aU K H1 a xs)) (_:R (GB K a) H1):zY K R x H1
def Ob (K:Frag)(tl:TE):TI:=fun σ H R=>tl σ H fun x H1=>zY K R x H1
inductive JS (K:Frag)(R:(It→Hp→Prop))(x:V)(H1:Hp):Prop where
 | mk (a:_) (_:x=.ref a) (_:(∃xs,bL K H1 a xs)) (_:R (Oa K a) H1):JS K R x H1
def Wq (K:Frag)(tl:TE):TI:=fun σ H R=>tl σ H fun x H1=>JS K R x H1
theorem bh {l:Expr}{tl:TE}(hl:PE X l tl):PI X tg l (Ob X.K tl):=by
 intro pins s σ H R I h
 refine b9 (hl pins s σ H _ I h) fun v s1 ⟨x,H1,I1,r1,q1⟩=> ?_
 obtain ⟨a,e,⟨xs,hq⟩,q⟩:=q1
 subst e
 cases r1
 obtain ⟨its,rv,p,hz⟩:=I1.list hq
 refine wpAny_pyIter_list p.isList ?_
 refine ⟨s1.heap.objs.size,[s1.heap.objs.size],_,_,H1,rfl,I1.kept (t' :=s1.toks) fun b o e=>Heap.get?_push_of_some _ e,xl a _,⟨_,Heap.get?_push_size _ rfl,rfl,rfl⟩,fun b hb=> ?_,q⟩
 have e:b=s1.heap.objs.size:=by simpa using hb
 subst e
 exact I1.jF (aeG _) (I1.bI.fresh (aeG _))
theorem Lk {l:Expr}{tl:TE}(hl:PE X l tl):PI X tg l (Wq X.K tl):=by
 intro pins s σ H R I h
 refine b9 (hl pins s σ H _ I h) fun v s1 ⟨x,H1,I1,r1,q1⟩=> ?_
 obtain ⟨a,e,⟨xs,hq⟩,q⟩:=q1
 subst e
 cases r1
 obtain ⟨its,rv,p,hz⟩:=I1.tuple hq
 refine wpAny_pyIter_tuple (show s1.heap.IsTuple a its.toArray from p) ?_
 refine ⟨s1.heap.objs.size,[s1.heap.objs.size],_,_,H1,rfl,I1.kept (t' :=s1.toks) fun b o e=>Heap.get?_push_of_some _ e,uF a _,⟨_,Heap.get?_push_size _ rfl,rfl,rfl⟩,fun b hb=> ?_,q⟩
 have e:b=s1.heap.objs.size:=by simpa using hb
 subst e
 exact I1.jF (aeG _) (I1.bI.fresh (aeG _))
theorem zZ {pins:List (Addr×Obj)}{σ:St}{H:Hp}{s:Shared}{R:It→Hp→Prop}{E:Value→Shared→Prop}{lo hi:Int}{t u v:Tok}{tk:Nat}(I:Inv X pins σ H s)(h1: -(2^62)≤lo)(h2:lo < 2^62)(h3: -(2^62)≤hi)(h4:hi < 2^62)
  (q:R (Lj lo (hi - lo).toNat) H):wpAny (model X.prog X.w) X.A (pyIter (.ref s.heap.objs.size)) (PIE X pins σ tg R) E {s with heap:=s.heap.push {cls:=.type "range",data:=.fields #[.int lo t,.int hi u,.int 1 v]},toks:=tk}:=by
 refine wpAny_pyIter_range (IsRange.new ..) (small_one h1 h2 h3 h4) ?_
 have I1:Inv X pins σ H {s with heap:=s.heap.push {cls:=.type "range",data:=.fields #[.int lo t,.int hi u,.int 1 v]},toks:=tk}:=I.kept fun b o e=>Heap.get?_push_of_some _ e
 refine ⟨(s.heap.push {cls:=.type "range",data:=.fields #[.int lo t,.int hi u,.int 1 v]}).objs.size,[(s.heap.push {cls:=.type "range",data:=.fields #[.int lo t,.int hi u,.int 1 v]}).objs.size],_,_,H,rfl,
  I1.kept (t' :=tk) fun b o e=>Heap.get?_push_of_some _ e,uG _ lo (hi - lo).toNat,?_,fun b hb=> ?_,q⟩
 ·have e1:lo+((0:Nat):Int)*1=lo:=by simp
  have e2:(((hi - lo).toNat:Nat):Int) - ((0:Nat):Int)=Builtin.Range.rangeSize lo hi 1:=by rw [rangeSize_one];split <;> omega
  show IsRangeIter _ _ (lo+((0:Nat):Int)*1) ((((hi - lo).toNat:Nat):Int) - ((0:Nat):Int)) 1
  rw [e1,e2]
  exact Heap.get?_push_size _ rfl
 ·have e:b=(s.heap.push {cls:=.type "range",data:=.fields #[.int lo t,.int hi u,.int 1 v]}).objs.size:=by simpa using hb
  subst e
  exact I1.jF (aeG _) (I1.bI.fresh (aeG _))
inductive z4 (R:(It→Hp→Prop))(vs:List V)(H1:Hp):Prop where
 | mk (j:Int) (_:vs=[.int j]) (_: -(2^62)≤j) (_:j < 2^62) (_:R (Lj 0 j.toNat) H1):z4 R vs H1
def Oc (ta:TA):TI:=fun σ H R=>ta σ H fun vs H1=>z4 R vs H1
theorem bM {a:Expr}{ta:TA}{p pos:Pos}(hg:Gl X "range")(hm:X.mg "range"=none)(ha:PA X [a] ta)(hs:starEach [a] X.env=[(false,eval a X.env)]:=by rfl):PI X tg (.Call (.Name "range" p) [a] [] pos) (Oc ta):=by
 intro pins s σ H R I h
 refine Call_ (gi I hg hm boot_range (PyProof.Rows.callWith_type1 (b9 (ha pos pins s σ H _ I h) fun us s1 ⟨vs,H1,I1,r1,q1⟩=> ?_) hs rfl))
 obtain ⟨j,e,q1,q2,q⟩:=q1
 subst e
 cases r1 with
 | cons r rr=>
  cases rr
  obtain ⟨t,rfl⟩:=r
  exact call_range_1 (zZ I1 (by omega) (by omega) q1 q2 (by simpa using q))
def Wr (wi:TI)(g:TG)(tb:TS):TS:=fun D σ H=>wi σ H fun J H1=>∃W:Nat→Nat→St→Hp→Prop,(∃m,W 0 m σ H1)∧∀i m σ H,W i m σ H→
 (J.stop i H∧D.nx σ H)∨(J.go i H∧∃N:St→Hp→Prop,(∀σ' H',N σ' H' →∃m',m' < m∧W (i+1) m' σ' H')∧∀x H',J.zB i H x H' →g x σ H' fun σ2 H2=>tb {D with nx:=N,ct:=N,bk:=D.nx} σ2 H2)
def lQ (fp:List Addr)(h:Heap):List (Addr×Obj):=fp.filterMap fun b=>(h.get? b).map fun o=>(b,o)
theorem gj {fp:List Addr}{h:Heap}{b:Addr}{o:Obj}(hb:b∈fp)(e:h.get? b=some o):(b,o)∈lQ fp h:=agy.mpr ⟨b,hb,by rw [e];rfl⟩
theorem xm {fp:List Addr}{h:Heap}{p:Addr×Obj}(hp:p∈lQ fp h):p.1∈fp∧h.get? p.1=some p.2:=by
 obtain ⟨b,hb,e⟩:=agy.mp hp
 cases q:h.get? b with
 | none=>rw [q] at e;cases e
 | some o=>
  rw [q] at e
  have e' :(b,o)=p:=aeY e
  subst e'
  exact ⟨hb,q⟩
theorem Inv.pinned {pins:List (Addr×Obj)}{σ:St}{H:Hp}{s:Shared}{fp:List Addr}(I:Inv X pins σ H s)(hf:∀b∈fp,gL X pins H b)(ho:∀b∈fp,∃o,s.heap.get? b=some o∧∀v,o.data≠.cell v):Inv X (pins++lQ fp s.heap) σ H s:=
 I.vL fun p hp=>(aeM.mp hp).elim (fun z=>I.pin p (ae7 _ z)) fun z=>by
  obtain ⟨hb,e⟩:=xm z
  obtain ⟨f0,f1,f2,_⟩:=hf p.1 hb
  obtain ⟨o,e',d⟩:=ho p.1 hb
  rw [e] at e';cases e'
  exact ⟨e,f0,f1,f2,d⟩
theorem Inv.gM {pins pl:List (Addr×Obj)}{σ:St}{H:Hp}{s:Shared}(I:Inv X (pins++pl) σ H s):Inv X pins σ H s:=I.vL fun p hp=>I.pin p (ae7 _ (ae_ _ hp))
theorem bw {iter:Expr}{body:List Stmt}{wi:TI}{g:TG}{tb:TS}{pos:Pos}(hp:PassesOwn (model X.prog X.w) X.A X.env X.xe)(hc:X.calm=true)(hi:PI X tg iter wi)(hg:PG X tg g)(hb:PSs X body tb)
  (hs:∀x,foldedSetIterable iter X.env x=pure x:=by intro _;rfl):PS X (.For tg iter body [] pos) (Wr wi g tb):=by
 intro pins s σ H D I h
 refine wpAny_For (b9 (hi pins s σ H _ I h) fun v s1 h1=>b9 h1 fun Vs s2 h2=> ?_) hs
 obtain ⟨it,fp,tn,J,H2,e,I2,T,JT,f2,W,⟨m0,w0⟩,turn⟩:=h2
 subst e
 have stat:∀{H' :Hp},(∀b∈fp,H' b=none)→∀b∈fp,gL X pins H' b:=fun hn b hb=>⟨hn b hb,(f2 b hb).2⟩
 refine codeAny_forLoop_any (fun n s' =>∃i σ' H',Inv X pins σ' H' s' ∧tn i s'.heap∧(∀b∈fp,H' b=none)∧W i n σ' H') ?_ m0 ⟨0,σ,H2,I2,JT,fun b hb=>(f2 b hb).1,w0⟩
 rintro n s3 ⟨i,σ3,H3,I3,Od,uH,w3⟩
 rcases turn i n σ3 H3 w3 with ⟨stop,qn⟩ | ⟨go,N,hN,step⟩
 ·refine wpAny_passesOwn hp (b9 (T.done X rfl rfl rfl hc i pins s3 σ3 H3 X.xe I3 (stat uH) Od stop) fun r s4 ⟨hr,I4⟩=> ?_)
  subst hr
  exact wpAny_execs_nil ⟨σ3,H3,I4,qn⟩
 ·refine wpAny_passesOwn hp (b9 (T.item X rfl rfl rfl hc i pins s3 σ3 H3 X.xe I3 (stat uH) Od go) fun r s4 ⟨u,hr,h4⟩=> ?_)
  subst hr
  refine wpAny_passesOwn hp (b9 h4 fun _ s5 ⟨x,H5,I5,r5,y5,Nu,Vt⟩=> ?_)
  have I5' :=I5.pinned (stat Vt) (T.obj _ _ Nu)
  refine wpAny_passesOwn hp (b9 (hg _ s5 σ3 H5 x u _ I5' r5 (step x H5 y5)) fun _ s6 ⟨σ6,H6,I6,q6⟩=> ?_)
  refine wpAny_passesOwn hp (b9 (hb _ s6 σ6 H6 _ I6 q6) fun f s7 q7=> ?_)
  have again:∀{σ7:St} {H7:Hp},Inv X (pins++lQ fp s5.heap) σ7 H7 s7→N σ7 H7→∃m,m < n∧∃i σ' H',Inv X pins σ' H' s7∧tn i s7.heap∧(∀b∈fp,H' b=none)∧W i m σ' H' :=fun {σ7 H7} I7 n7=>by
   obtain ⟨m',hm,w7⟩:=hN σ7 H7 n7
   refine ⟨m',hm,i+1,σ7,H7,I7.gM,T.keep _ _ _ Nu fun b hb o e=>(I7.pin (b,o) (ae7 _ (ae7 _ (gj hb e)))).1,fun b hb=> ?_,w7⟩
   obtain ⟨o,e,d⟩:=T.obj _ _ Nu b hb
   exact (I7.pin (b,o) (ae7 _ (ae7 _ (gj hb e)))).2.1
  cases f with
  | next=>obtain ⟨σ7,H7,I7,n7⟩:=q7;exact again I7 n7
  | cont=>obtain ⟨σ7,H7,I7,n7⟩:=q7;exact again I7 n7
  | brk=>obtain ⟨σ7,H7,I7,q7⟩:=q7;exact ⟨σ7,H7,I7.gM,q7⟩
  | ret v=>obtain ⟨x7,σ7,H7,I7,r7,q7⟩:=q7;exact ⟨x7,σ7,H7,I7.gM,r7,q7⟩
end
theorem bP {K:Frag}{a:Addr}{xs:List V}{g:TG}{tb:TS}{D:Ends}{σ:St}{H:Hp}(Pv:Nat→St→Hp→Prop)(h0:Pv 0 σ H)(hl:∀i σ H,i≤xs.length→Pv i σ H→aU K H a xs)
  (hs:∀i x σ H,xs[i]? =some x→Pv i σ H→g x σ H fun σ2 H2=>tb {D with nx:=Pv (i+1),ct:=Pv (i+1),bk:=D.nx} σ2 H2) (hd:∀σ H,Pv xs.length σ H→D.nx σ H):
  ∃W:Nat→Nat→St→Hp→Prop,(∃m,W 0 m σ H)∧∀i m σ H,W i m σ H→
   ((GB K a).stop i H∧D.nx σ H)∨((GB K a).go i H∧∃N:St→Hp→Prop,(∀σ' H',N σ' H' →∃m',m' < m∧W (i+1) m' σ' H')∧∀x H',(GB K a).zB i H x H' →g x σ H' fun σ2 H2=>tb {D with nx:=N,ct:=N,bk:=D.nx} σ2 H2):=by
 refine ⟨fun i m σ H=>m=xs.length - i∧i≤xs.length∧Pv i σ H,⟨xs.length,by simp,ae' _,h0⟩,?_⟩
 rintro i m σ H ⟨rfl,hi,p⟩
 have q:=hl i σ H hi p
 by_cases kF:i < xs.length
 ·refine .inr ⟨⟨xs,xs[i],q,by simp [kF]⟩,Pv (i+1),fun σ' H' p' =>⟨xs.length - (i+1),by omega,rfl,kF,p'⟩,fun x H' y=> ?_⟩
  obtain ⟨e,y⟩:=y
  subst e
  exact hs i x σ _ (y xs q) p
 ·have e:i=xs.length:=by omega
  subst e
  exact .inl ⟨⟨xs,q,aeG _⟩,hd σ H p⟩
theorem GG {K:Frag}{a:Addr}{xs:List V}{g:TG}{tb:TS}{D:Ends}{σ:St}{H:Hp}(Pv:Nat→St→Hp→Prop)(h0:Pv 0 σ H)(hl:∀i σ H,i≤xs.length→Pv i σ H→bL K H a xs)
  (hs:∀i x σ H,xs[i]? =some x→Pv i σ H→g x σ H fun σ2 H2=>tb {D with nx:=Pv (i+1),ct:=Pv (i+1),bk:=D.nx} σ2 H2) (hd:∀σ H,Pv xs.length σ H→D.nx σ H):
  ∃W:Nat→Nat→St→Hp→Prop,(∃m,W 0 m σ H)∧∀i m σ H,W i m σ H→
   ((Oa K a).stop i H∧D.nx σ H)∨((Oa K a).go i H∧∃N:St→Hp→Prop,(∀σ' H',N σ' H' →∃m',m' < m∧W (i+1) m' σ' H')∧∀x H',(Oa K a).zB i H x H' →g x σ H' fun σ2 H2=>tb {D with nx:=N,ct:=N,bk:=D.nx} σ2 H2):=by
 refine ⟨fun i m σ H=>m=xs.length - i∧i≤xs.length∧Pv i σ H,⟨xs.length,by simp,ae' _,h0⟩,?_⟩
 rintro i m σ H ⟨rfl,hi,p⟩
 have q:=hl i σ H hi p
 by_cases kF:i < xs.length
 ·refine .inr ⟨⟨xs,xs[i],q,by simp [kF]⟩,Pv (i+1),fun σ' H' p' =>⟨xs.length - (i+1),by omega,rfl,kF,p'⟩,fun x H' y=> ?_⟩
  obtain ⟨e,y⟩:=y
  subst e
  exact hs i x σ _ (y xs q) p
 ·have e:i=xs.length:=by omega
  subst e
  exact .inl ⟨⟨xs,q,aeG _⟩,hd σ H p⟩
theorem bQ {lo:Int}{n:Nat}{g:TG}{tb:TS}{D:Ends}{σ:St}{H:Hp}(Pv:Nat→St→Hp→Prop)(h0:Pv 0 σ H)
  (hs:∀i σ H,i < n→Pv i σ H→g (.int (lo+i)) σ H fun σ2 H2=>tb {D with nx:=Pv (i+1),ct:=Pv (i+1),bk:=D.nx} σ2 H2) (hd:∀σ H,Pv n σ H→D.nx σ H):
  ∃W:Nat→Nat→St→Hp→Prop,(∃m,W 0 m σ H)∧∀i m σ H,W i m σ H→
   ((Lj lo n).stop i H∧D.nx σ H)∨((Lj lo n).go i H∧∃N:St→Hp→Prop,(∀σ' H',N σ' H' →∃m',m' < m∧W (i+1) m' σ' H')∧∀x H',(Lj lo n).zB i H x H' →g x σ H' fun σ2 H2=>tb {D with nx:=N,ct:=N,bk:=D.nx} σ2 H2):=by
 refine ⟨fun i m σ H=>m=n - i∧i≤n∧Pv i σ H,⟨n,by simp,ae' _,h0⟩,?_⟩
 rintro i m σ H ⟨rfl,hi,p⟩
 by_cases kF:i < n
 ·refine .inr ⟨kF,Pv (i+1),fun σ' H' p' =>⟨n - (i+1),by omega,rfl,kF,p'⟩,fun x H' y=> ?_⟩
  obtain ⟨e,y⟩:=y
  subst e y
  exact hs i σ _ kF p
 ·have e:i=n:=by omega
  subst e
  exact .inl ⟨aeG _,hd σ H p⟩
theorem rW {c:TT}{tb:TS}{D:Ends}{σ:St}{H:Hp}(Pv:St→Hp→Prop)(μ:St→Hp→Nat)(h0:Pv σ H)
  (hs:∀σ H,Pv σ H→c σ H fun b H1=>if b=true then tb {D with nx:=fun σ' H' =>Pv σ' H' ∧μ σ' H' < μ σ H,ct:=fun σ' H' =>Pv σ' H' ∧μ σ' H' < μ σ H,bk:=D.nx} σ H1 else D.nx σ H1)
  (mono:∀σ H Q Q',(∀b H1,Q b H1→Q' b H1)→c σ H Q→c σ H Q'):zX c tb D σ H:=by
 refine ⟨fun m σ H=>m=μ σ H∧Pv σ H,⟨_,rfl,h0⟩,?_⟩
 rintro m σ H ⟨rfl,p⟩
 refine mono σ H _ _ (fun b H1 q=> ?_) (hs σ H p)
 cases b with
 | true=>exact ⟨_,fun σ' H' ⟨p',l⟩=>⟨_,l,rfl,p'⟩,q⟩
 | false=>exact q
end L2
namespace L2
open PySem PySem.Spec PyProof.Rows
abbrev R2:=V→V→Hp→VK→Prop
def ib (X:Cx)(f:Value→Value→Sem Value)(r:R2):Prop:=
 ∀(pins:List (Addr×Obj)) (s:Shared) (σ:St) (H:Hp) (x y:V) (v u:Value) (Q:VK),Inv X pins σ H s→RelV x v→RelV y u→r x y H Q→
  wpAny (model X.prog X.w) X.A (f v u) (EP X pins σ Q) X.xe s
def Ws (X:Cx)(f:Value→Sem Value)(r:V→Hp→VK→Prop):Prop:=
 ∀(pins:List (Addr×Obj)) (s:Shared) (σ:St) (H:Hp) (x:V) (v:Value) (Q:VK),Inv X pins σ H s→RelV x v→r x H Q→
  wpAny (model X.prog X.w) X.A (f v) (EP X pins σ Q) X.xe s
def eg (X:Cx)(f:Value)(r:List V→Hp→VK→Prop):Prop:=
 ∀(pins:List (Addr×Obj)) (s:Shared) (σ:St) (H:Hp) (xs:List V) (us:List Value) (Q:VK),Inv X pins σ H s→Vals xs us→r xs H Q→
  wpAny (model X.prog X.w) X.A (call f us) (EP X pins σ Q) X.xe s
def Ll (r:R2)(ta tb:TE):TE:=fun σ H Q=>ta σ H fun x H1=>tb σ H1 fun y H2=>r x y H2 Q
def tUn (r:V→Hp→VK→Prop)(ta:TE):TE:=fun σ H Q=>ta σ H fun x H1=>r x H1 Q
inductive rI (C:Int→Int→Prop)(g:Int→Int→V)(x:V)(y:V)(H:Hp)(Q:VK):Prop where
 | mk (i j:_) (_:x=.int i) (_:y=.int j) (_:C i j) (_:Q (g i j) H):rI C g x y H Q
inductive GH (g:Int→Int→V)(x:V)(y:V)(H:Hp)(Q:VK):Prop where
 | mk (i j:_) (_:x=.int i) (_:y=.int j) (_:Q (g i j) H):GH g x y H Q
inductive rU (g:Int→V)(x:V)(H:Hp)(Q:VK):Prop where
 | mk (i:_) (_:x=.int i) (_:Q (g i) H):rU g x H Q
section
variable {X:Cx}{a b c:Expr}{ta tb tc:TE}{pos:Pos}
theorem Lm (ha:PE X a ta)(hb:PE X b tb){pins:List (Addr×Obj)}{s:Shared}{σ:St}{H:Hp}{R:V→V→Hp→Prop}(I:Inv X pins σ H s)
  (h:ta σ H fun x H1=>tb σ H1 fun y H2=>R x y H2) {Q:Value→Shared→Prop} {f:Value→Value→Sem Value}
  (hf:∀v u s2 x y H2,Inv X pins σ H2 s2→RelV x v→RelV y u→R x y H2→wpAny (model X.prog X.w) X.A (f v u) Q X.xe s2):
  wpAny (model X.prog X.w) X.A (eval a X.env) (fun v s₁=>wpAny (model X.prog X.w) X.A (eval b X.env) (fun u s₂=>wpAny (model X.prog X.w) X.A (f v u) Q X.xe s₂) X.xe s₁) X.xe s:=by
 refine b9 (ha pins s σ H _ I h) fun v s1 ⟨x,H1,I1,r1,q1⟩=> ?_
 refine b9 (hb pins s1 σ H1 _ I1 q1) fun u s2 ⟨y,H2,I2,r2,q2⟩=> ?_
 exact hf v u s2 x y H2 I2 r1 r2 q2
theorem aI {op:Operator}{r:R2}(ho:ib X (binaryOp op) r)(ha:PE X a ta)(hb:PE X b tb):PE X (.BinOp a op b pos) (Ll r ta tb):=by
 intro pins s σ H Q I h
 exact wpAny_BinOp (Lm ha hb I h fun v u s2 x y H2 I2 rx ry q=>ho pins s2 σ H2 x y v u Q I2 rx ry q)
theorem JU {op:UnaryOp}{r:V→Hp→VK→Prop}(ho:Ws X (unaryOp op) r)(ha:PE X a ta):PE X (.UnaryOp op a pos) (tUn r ta):=by
 intro pins s σ H Q I h
 exact UnaryOp_ (b9 (ha pins s σ H _ I h) fun v s1 ⟨x,H1,I1,r1,q1⟩=>ho pins s1 σ H1 x v Q I1 r1 q1)
theorem Oe {f:Value→Value→Sem Value}{C:Int→Int→Prop}{g:Int→Int→Int}
  (rule:∀(i j:Int) (t u:Tok) (s:Shared) (Q:Value→Shared→Prop) (E:Value→Shared→Prop),C i j→Q (.int (g i j) s.toks) {s with toks:=s.toks+1}→wpAny (model X.prog X.w) X.A (f (.int i t) (.int j u)) Q E s):
  ib X f (rI C fun i j=>.int (g i j)):=by
 intro pins s σ H x y v u Q I rx ry h
 obtain ⟨i,j,rfl,rfl,hc,q⟩:=h
 obtain ⟨t,rfl⟩:=rx
 obtain ⟨t',rfl⟩:=ry
 exact rule i j t t' s _ _ hc ⟨.int (g i j),H,I.tok _,⟨_,rfl⟩,q⟩
theorem Of {f:Value→Value→Sem Value}{g:Int→Int→Int}
  (rule:∀(i j:Int) (t u:Tok) (s:Shared) (Q:Value→Shared→Prop) (E:Value→Shared→Prop),Q (.int (g i j) s.toks) {s with toks:=s.toks+1}→wpAny (model X.prog X.w) X.A (f (.int i t) (.int j u)) Q E s):
  ib X f (GH fun i j=>.int (g i j)):=by
 intro pins s σ H x y v u Q I rx ry h
 obtain ⟨i,j,rfl,rfl,q⟩:=h
 obtain ⟨t,rfl⟩:=rx
 obtain ⟨t',rfl⟩:=ry
 exact rule i j t t' s _ _ ⟨.int (g i j),H,I.tok _,⟨_,rfl⟩,q⟩
theorem GJ {f:Value→Value→Sem Value}{g:Int→Int→Bool}
  (rule:∀(i j:Int) (t u:Tok) (s:Shared) (Q:Value→Shared→Prop) (E:Value→Shared→Prop),Q (.bool (g i j)) s→wpAny (model X.prog X.w) X.A (f (.int i t) (.int j u)) Q E s):
  ib X f (GH fun i j=>.bl (g i j)):=by
 intro pins s σ H x y v u Q I rx ry h
 obtain ⟨i,j,rfl,rfl,q⟩:=h
 obtain ⟨t,rfl⟩:=rx
 obtain ⟨t',rfl⟩:=ry
 exact rule i j t t' s _ _ ⟨.bl (g i j),H,I,rfl,q⟩
def Lo (i j:Int):Prop:=0≤j∧j≤1000000∧i.natAbs < 2^64
theorem bH:ib X (binaryOp .Add) (GH fun i j=>.int (i+j)):=Of fun _ _ _ _ _ _ _ q=>add_int q
theorem cL:ib X (binaryOp .Sub) (GH fun i j=>.int (i - j)):=Of fun _ _ _ _ _ _ _ q=>sub_int q
theorem GK:ib X (binaryOp .Mod) (rI (fun _ j=>j≠0) fun i j=>.int (i.fmod j)):=Oe fun _ _ _ _ _ _ _ hc q=>mod_int' hc q
theorem z6:ib X (binaryOp .Pow) (rI Lo fun i j=>.int (i^j.toNat)):=Oe fun _ _ _ _ _ _ _ hc q=>pow_int_small hc.1 hc.2.1 hc.2.2 q
theorem unI {f:Value→Sem Value}{g:Int→Int}
  (rule:∀(i:Int) (t:Tok) (s:Shared) (Q:Value→Shared→Prop) (E:Value→Shared→Prop),Q (.int (g i) s.toks) {s with toks:=s.toks+1}→wpAny (model X.prog X.w) X.A (f (.int i t)) Q E s):
  Ws X f (rU fun i=>.int (g i)):=by
 intro pins s σ H x v Q I rx h
 obtain ⟨i,rfl,q⟩:=h
 obtain ⟨t,rfl⟩:=rx
 exact rule i t s _ _ ⟨.int (g i),H,I.tok _,⟨_,rfl⟩,q⟩
theorem z7:Ws X (unaryOp .USub) (rU fun i=>.int (-i)):=unI fun _ _ _ _ _ q=>neg_int q
end
def Og:V→V→Bool
 | .cE,.cE=>true | .cE,.int _=>true | .int _,.cE=>true | .cE,.bl _=>true | .bl _,.cE=>true | .cE,.str _=>true | .str _,.cE=>true
 | .int _,.int _=>true | .bl _,.bl _=>true | .str _,.str _=>true | .byt _,.byt _=>true
 | .int _,.str _=>true | .str _,.int _=>true | .bl _,.str _=>true | .str _,.bl _=>true
 | _,_=>false
def rEq:R2:=fun x y H Q=>Og x y=true∧Q (.bl (decide (x=y))) H
def rNe:R2:=fun x y H Q=>Og x y=true∧Q (.bl (!decide (x=y))) H
theorem vP {i j:Int}:decide (V.int i=V.int j)=(i==j):=by
 rw [afZ]
 simp
theorem z8 {i j:Bool}:decide (V.bl i=V.bl j)=(i==j):=by
 rw [afZ]
 simp
theorem vQ {i j:Str}:decide (V.str i=V.str j)=(i==j):=by
 rw [afZ]
 simp
theorem vR {i j:Array UInt8}:decide (V.byt i=V.byt j)=(i.toList==j.toList):=by
 rw [afZ]
 cases i
 cases j
 simp
section
variable {X:Cx}{a b c:Expr}{ta tb tc:TE}{pos:Pos}
theorem bC {pins:List (Addr×Obj)}{σ:St}{H:Hp}{s:Shared}{Q:VK}{k k' :Bool}(I:Inv X pins σ H s)(q:Q (.bl k) H)(e:k=k'):EP X pins σ Q (.bool k') s:=by
 subst e
 exact ⟨.bl k,H,I,rfl,q⟩
theorem cN:ib X (compareOp .Eq) rEq:=by
 intro pins s σ H x y v u Q I rx ry h
 obtain ⟨hs,q⟩:=h
 cases x with
 | cE=>
  cases rx
  cases y with
  | cE=>cases ry;exact PySem.EqNone.eq_none_none (bC I q (by simp))
  | bl j=>cases ry;exact PySem.EqNone.eq_none_bool (bC I q (by simp))
  | int j=>obtain ⟨t',rfl⟩:=ry;exact PySem.EqNone.eq_none_int (bC I q (by simp))
  | str j=>obtain ⟨t',rfl⟩:=ry;exact PySem.EqNone.eq_none_str (bC I q (by simp))
  | _=>exact absurd (show false=true from hs) aeQ
 | bl i=>
  cases rx
  cases y with
  | cE=>cases ry;exact PySem.EqNone.eq_bool_none (bC I q (by simp))
  | bl j=>cases ry;exact eq_bool (bC I q z8)
  | str j=>obtain ⟨t',rfl⟩:=ry;exact PySem.EqMixed.eq_bool_str (bC I q (by simp))
  | _=>exact absurd (show false=true from hs) aeQ
 | int i=>
  obtain ⟨t,rfl⟩:=rx
  cases y with
  | cE=>cases ry;exact PySem.EqNone.eq_int_none (bC I q (by simp))
  | int j=>obtain ⟨t',rfl⟩:=ry;exact eq_int (bC I q vP)
  | str j=>obtain ⟨t',rfl⟩:=ry;exact PySem.EqMixed.eq_int_str (bC I q (by simp))
  | _=>exact absurd (show false=true from hs) aeQ
 | str i=>
  obtain ⟨t,rfl⟩:=rx
  cases y with
  | cE=>cases ry;exact PySem.EqNone.eq_str_none (bC I q (by simp))
  | bl j=>cases ry;exact PySem.EqMixed.eq_str_bool (bC I q (by simp))
  | int j=>obtain ⟨t',rfl⟩:=ry;exact PySem.EqMixed.eq_str_int (bC I q (by simp))
  | str j=>obtain ⟨t',rfl⟩:=ry;exact eq_str (bC I q vQ)
  | _=>exact absurd (show false=true from hs) aeQ
 | byt i=>
  obtain ⟨t,rfl⟩:=rx
  cases y with
  | byt j=>obtain ⟨t',rfl⟩:=ry;exact PySem.W.eq_bytes (bC I q vR)
  | _=>exact absurd (show false=true from hs) aeQ
 | _=>cases y <;> exact absurd (show false=true from hs) aeQ
theorem fG:ib X (compareOp .NotEq) rNe:=by
 intro pins s σ H x y v u Q I rx ry h
 obtain ⟨hs,q⟩:=h
 cases x with
 | cE=>
  cases rx
  cases y with
  | cE=>cases ry;exact PySem.EqNone.ne_none_none (bC I q (by simp))
  | bl j=>cases ry;exact PySem.EqNone.ne_none_bool (bC I q (by simp))
  | int j=>obtain ⟨t',rfl⟩:=ry;exact PySem.EqNone.ne_none_int (bC I q (by simp))
  | str j=>obtain ⟨t',rfl⟩:=ry;exact PySem.EqNone.ne_none_str (bC I q (by simp))
  | _=>exact absurd (show false=true from hs) aeQ
 | bl i=>
  cases rx
  cases y with
  | cE=>cases ry;exact PySem.EqNone.ne_bool_none (bC I q (by simp))
  | bl j=>cases ry;exact ne_bool (bC I q (congrArg not z8))
  | str j=>obtain ⟨t',rfl⟩:=ry;exact PySem.EqMixed.ne_bool_str (bC I q (by simp))
  | _=>exact absurd (show false=true from hs) aeQ
 | int i=>
  obtain ⟨t,rfl⟩:=rx
  cases y with
  | cE=>cases ry;exact PySem.EqNone.ne_int_none (bC I q (by simp))
  | int j=>obtain ⟨t',rfl⟩:=ry;exact ne_int (bC I q (congrArg not vP))
  | str j=>obtain ⟨t',rfl⟩:=ry;exact PySem.EqMixed.ne_int_str (bC I q (by simp))
  | _=>exact absurd (show false=true from hs) aeQ
 | str i=>
  obtain ⟨t,rfl⟩:=rx
  cases y with
  | cE=>cases ry;exact PySem.EqNone.ne_str_none (bC I q (by simp))
  | bl j=>cases ry;exact PySem.EqMixed.ne_str_bool (bC I q (by simp))
  | int j=>obtain ⟨t',rfl⟩:=ry;exact PySem.EqMixed.ne_str_int (bC I q (by simp))
  | str j=>obtain ⟨t',rfl⟩:=ry;exact ne_str (bC I q (congrArg not vQ))
  | _=>exact absurd (show false=true from hs) aeQ
 | byt i=>
  obtain ⟨t,rfl⟩:=rx
  cases y with
  | byt j=>obtain ⟨t',rfl⟩:=ry;exact PySem.W.ne_bytes (bC I q (congrArg not vR))
  | _=>exact absurd (show false=true from hs) aeQ
 | _=>cases y <;> exact absurd (show false=true from hs) aeQ
theorem oG:ib X (compareOp .Lt) (GH fun i j=>.bl (decide (i < j))):=GJ fun _ _ _ _ _ _ _ q=>lt_int q
theorem Oh:ib X (compareOp .LtE) (GH fun i j=>.bl (decide (i≤j))):=GJ fun _ _ _ _ _ _ _ q=>le_int q
theorem z_:ib X (compareOp .Gt) (GH fun i j=>.bl (decide (j < i))):=GJ fun _ _ _ _ _ _ _ q=>gt_int q
theorem JV:ib X (compareOp .GtE) (GH fun i j=>.bl (decide (j≤i))):=GJ fun _ _ _ _ _ _ _ q=>ge_int q
theorem AA:ib X (compareOp .Is) (fun x y H Q=>y=.cE∧Q (.bl (decide (x=.cE))) H):=by
 intro pins s σ H x y v u Q I rx ry h
 obtain ⟨rfl,q⟩:=h
 cases ry
 refine is_none_gen (bC I q ?_)
 cases x <;> first
  | (cases rx;rfl)
  | (obtain ⟨t,rfl⟩:=rx;rfl)
theorem GL:ib X (compareOp .IsNot) (fun x y H Q=>y=.cE∧Q (.bl (!decide (x=.cE))) H):=by
 intro pins s σ H x y v u Q I rx ry h
 obtain ⟨rfl,q⟩:=h
 cases ry
 refine isnot_none_gen (bC I q ?_)
 cases x <;> first
  | (cases rx;rfl)
  | (obtain ⟨t,rfl⟩:=rx;rfl)
theorem aT (b:Expr){op:CmpOp}(h:op≠.In:=by decide)(h2:op≠.NotIn:=by decide):behindInMarks op b=false:=by
 have e1:(op==CmpOp.In)=false:=by cases op <;> first | rfl | exact absurd rfl h
 have e2:(op==CmpOp.NotIn)=false:=by cases op <;> first | rfl | exact absurd rfl h2
 cases b <;> simp [behindInMarks,e1,e2]
theorem iZ {op:CmpOp}{r:R2}(ho:ib X (compareOp op) r)(ha:PE X a ta)(hb:PE X b tb)(hm:behindInMarks op b=false):PE X (.Compare a [op] [b] pos) (Ll r ta tb):=by
 intro pins s σ H Q I h
 exact wpAny_Compare1 (Lm ha hb I h fun v u s2 x y H2 I2 rx ry q=>ho pins s2 σ H2 x y v u Q I2 rx ry q) hm
inductive AB (Q:(Bool→Hp→Prop))(x:V)(H' :Hp):Prop where
 | mk (k:_) (_:x=.bl k) (_:Q k H'):AB Q x H'
def Oi (t:TE):TT:=fun σ H Q=>t σ H fun x H' =>AB Q x H'
theorem aQ {op:CmpOp}{r:R2}(ho:ib X (compareOp op) r)(ha:PE X a ta)(hb:PE X b tb)(hm:behindInMarks op b=false):PT X (.Compare a [op] [b] pos) (Oi (Ll r ta tb)):=by
 intro pins s σ H Q I h
 refine wpAny_isTrue_Compare1 (b9 (ha pins s σ H _ I h) fun v s1 ⟨x,H1,I1,r1,q1⟩=>b9 (hb pins s1 σ H1 _ I1 q1) fun u s2 ⟨y,H2,I2,r2,q2⟩=>
  b9 (ho pins s2 σ H2 x y v u _ I2 r1 r2 q2) fun c s3 ⟨z,H3,I3,r3,k,e,q3⟩=> ?_) hm
 subst e
 cases r3
 exact wpAny_truthy_bool ⟨H3,I3,q3⟩
def Lp (r r' :R2)(ta tb tc:TE):TE:=fun σ H Q=>ta σ H fun x H1=>tb σ H1 fun y H2=>r x y H2 fun z H3=>∃k,z=.bl k∧
 (if k=true then tc σ H3 fun w' H4=>r' y w' H4 Q else Q (.bl false) H3)
theorem AD {op Wt :CmpOp}{r r' :R2}(ho:ib X (compareOp op) r)(FX :ib X (compareOp Wt) r')(ha:PE X a ta)(hb:PE X b tb)(hc:PE X c tc)
  (hm:lastMarks [op,Wt] [b,c]=false:=by with_unfolding_all rfl):PE X (.Compare a [op,Wt] [b,c] pos) (Lp r r' ta tb tc):=by
 intro pins s σ H Q I h
 refine Compare_chain (b9 (ha pins s σ H _ I h) fun v s1 ⟨x,H1,I1,r1,q1⟩=>chain_link (b9 (hb pins s1 σ H1 _ I1 q1) fun u s2 ⟨y,H2,I2,r2,q2⟩=>
  b9 (ho pins s2 σ H2 x y v u _ I2 r1 r2 q2) fun d s3 ⟨z,H3,I3,r3,k,e,q3⟩=> ?_)) hm
 subst e
 cases r3
 refine wpAny_truthy_bool ?_
 cases k with
 | false=>exact ite_ff ⟨.bl false,H3,I3,rfl,q3⟩
 | true=>exact ite_tt (chain_last (b9 (hc pins s3 σ H3 _ I3 q3) fun w' s4 ⟨z',H4,I4,r4,q4⟩=>FX pins s4 σ H4 y z' u w' Q I4 r2 r4 q4))
theorem lR:(sizeLine:Nat) < 2^63:=by rw [sizeLine_eq];decide
theorem iC:ib X (binaryOp .Add) (fun x y H Q=>∃i j,x=.str i∧y=.str j∧i.length+j.length≤sizeLine∧Q (.str (i++j)) H):=by
 intro pins s σ H x y v u Q I rx ry h
 obtain ⟨i,j,rfl,rfl,hz,q⟩:=h
 obtain ⟨t,rfl⟩:=rx
 obtain ⟨t',rfl⟩:=ry
 exact add_str (fun t' tk=>⟨.str (i++j),H,I.tok _,⟨_,rfl⟩,q⟩) hz
theorem vals1 {x:V}{us:List Value}(r:Vals [x] us):∃u,us=[u]∧RelV x u:=by
 cases r with
 | cons r1 r2=>cases r2;exact ⟨_,rfl,r1⟩
theorem vals2 {x y:V}{us:List Value}(r:Vals [x,y] us):∃u w',us=[u,w']∧RelV x u∧RelV y w' :=by
 cases r with
 | cons r1 r2=>
  cases r2 with
  | cons r3 r4=>cases r4;exact ⟨_,_,rfl,r1,r3⟩
theorem rX:eg X (.builtin "abs") (fun xs H Q=>∃i,xs=[.int i]∧Q (.int (if i < 0 then -i else i)) H):=by
 intro pins s σ H xs us Q I r h
 obtain ⟨i,rfl,q⟩:=h
 obtain ⟨u,rfl,t,rfl⟩:=vals1 r
 exact call_abs_int fun u tk=>⟨.int (if i < 0 then -i else i),H,I.tok _,⟨_,rfl⟩,q⟩
theorem xo (hc:X.calm=true):eg X (.builtin "min") (fun xs H Q=>∃i j,xs=[.int i,.int j]∧Q (.int (if j < i then j else i)) H):=by
 intro pins s σ H xs us Q I r h
 obtain ⟨i,j,rfl,q⟩:=h
 obtain ⟨u,w',rfl,⟨t,rfl⟩,⟨t',rfl⟩⟩:=vals2 r
 refine min_two_ints (I.ok.hd hc) fun h' tk k=>⟨_,H,I.kept k,?_,q⟩
 by_cases hj:j < i
 ·rw [if_pos hj,if_pos hj];exact ⟨_,rfl⟩
 ·rw [if_neg hj,if_neg hj];exact ⟨_,rfl⟩
theorem xp:eg X (.type "int") (fun xs H Q=>(∃i,xs=[.int i]∧Q (.int i) H)∨∃k,xs=[.bl k]∧Q (.int (if k then 1 else 0)) H):=by
 intro pins s σ H xs us Q I r h
 rcases h with ⟨i,rfl,q⟩ | ⟨k,rfl,q⟩
 ·obtain ⟨u,rfl,t,rfl⟩:=vals1 r
  exact call_int_int ⟨.int i,H,I,⟨_,rfl⟩,q⟩
 ·obtain ⟨u,rfl,r1⟩:=vals1 r
  cases r1
  exact call_int_bool ⟨.int (if k then 1 else 0),H,I.tok _,⟨_,rfl⟩,q⟩
theorem pU:eg X (.type "str") (fun xs H Q=>∃i,xs=[.int i]∧i.natAbs.log2 < 1920∧Q (.str (toString i)) H):=by
 intro pins s σ H xs us Q I r h
 obtain ⟨i,rfl,hz,q⟩:=h
 obtain ⟨u,rfl,t,rfl⟩:=vals1 r
 exact PySem.P.str_of_int hz ⟨.str _,H,I.tok _,⟨_,rfl⟩,q⟩
end
end L2
namespace L2
open PySem PySem.Spec PyProof.Rows
structure uI (h:Heap)(x dx C:Addr)(mA:Str→Option Value):Prop where
 obj:h.get? x=some (PySem.W.instObj C dx)
 ns:h.Ns1 dx mA
 ne:dx≠x
theorem xq {h:Heap}{dx:Addr}{mA:Str→Option Value}(n:h.Ns1 dx mA):∃od,h.get? dx=some od∧∀name,PySem.W.lookIn name od=some (mA name):=by
 obtain ⟨o,es,ep,ho,hd,hk,_,hm⟩:=n
 refine ⟨o,ho,fun name=> ?_⟩
 have e:=hm name
 unfold nsFind findBy at e
 rw [← Array.find?_toList] at e
 unfold PySem.W.lookIn
 rw [hd]
 dsimp only
 split
 ·rename_i y q
  rw [q] at e
  exact congrArg some e
 ·rename_i q
  rw [q] at e
  have a:es.toList.any (·.refKey)=false:=by
   rw [List.any_eq_false]
   intro y hy
   obtain ⟨z,t,AE⟩:=hk y (Array.mem_toList_iff.mp hy)
   simp [DictEntry.refKey,AE]
  have a' :¬ es.toList.any (·.refKey)=true:=by rw [a];exact aeQ
  rw [if_neg a']
  exact congrArg some e
theorem uI.look {h:Heap}{x dx C:Addr}{mA:Str→Option Value}(I:uI h x dx C mA):∃od,PySem.W.InstAt h x (PySem.W.instObj C dx) C (some od)∧∀name,PySem.W.lookIn name od=some (mA name):=
 let ⟨od,ho,hl⟩:=xq I.ns
 ⟨od,⟨I.obj,rfl,rfl,ho⟩,hl⟩
section
variable {prog:Program}{w:World}{A:Around}{E:Value→Shared→Prop}{s:Shared}{K:Frag}{x dx C f:Addr}{mA:Str→Option Value}{name:Str}{v:Value}
theorem get_map {expr:Bool}{Q:Value→Shared→Prop}(X:K.In s.heap)(I:uI s.heap x dx C mA)(hg:PySem.W.plainGet K C name=true)(hh:PySem.W.hasDictIn K C=true)
  (ha:PySem.W.findIn K (.ref C) name=some none) (hv:mA name=some v) (Lq :PySem.W.handedIn v=true) (h:Q v {s with toks:=s.toks+1}):
  wpAny (model prog w) A (getAttr (.ref x) name expr) Q E s:=by
 obtain ⟨od,J,hl⟩:=I.look
 exact PySem.W.get_value X J (PySem.W.plainGet_of hg).1 (PySem.W.findObj_own hh ha rfl (by rw [hl,hv])) Lq h
theorem AF {pl:Sem Bool}{Q:Value×List Value→Shared→Prop}(X:K.In s.heap)(I:uI s.heap x dx C mA)(hg:PySem.W.plainGet K C name=true)
  (hf:PySem.W.findIn K (.ref C) name=some (some (.ref f))) (ht:PySem.W.isFn K (.ref f)=true) (hv:mA name=none) (h:Q (.ref f,[.ref x]) s):
  wpAny (model prog w) A (getMethod (.ref x) name pl) Q E s:=by
 obtain ⟨od,J,hl⟩:=I.look
 exact PySem.W.method_fn X J (PySem.W.plainGet_of hg).1 (PySem.W.plainGet_of hg).2 hf (beq_iff_eq.mp ht) (by show (PySem.W.lookIn name od).map (·.isSome)=some false;rw [hl,hv];rfl) h
theorem GN {ns:List Str}{Q:Unit→Shared→Prop}(X:K.In s.heap)(I:uI s.heap x dx C mA)
  (hs:PySem.W.findIn K (.ref C) "__setattr__"=some (some (.builtin "object.__setattr__"))) (hp:PySem.W.plainOver K C=true) (ht:PySem.W.takerIn K C name=some none) (hh:PySem.W.hasDictIn K C=true)
  (hw:PySem.Within mA ns) (hsz:ns.length≤sizeLine)
  (h:∀h',uI h' x dx C (fun y=>if y=name then some v else mA y)→Heap.SameBut dx s.heap h' →Q () {s with heap:=h',toks:=s.toks+2}):
  wpAny (model prog w) A (setAttr (.ref x) name v) Q E s:=by
 obtain ⟨od,J,hl⟩:=I.look
 refine PySem.W.set_plain X J hs (PySem.W.osa_open (s:={s with toks:=s.toks+1}) (r:=none) X J hp ht fun b=> ?_)
 obtain ⟨cd,hc,FY⟩:=PySem.W.any_some hh
 have hx:s.heap.get? x=some ⟨.ref C,some dx,.plain, #[]⟩:=I.obj
 refine wpAny_bind (wpAny_pure (wpAny_bind (wpAny_bind (wpAny_loadPart hx (wpAny_bind (PySem.W.Looks.here (s:={s with toks:=s.toks+1}) (PySem.W.looks_clsIn X hc) ?_))))))
 rw [FY]
 refine wpAny_pure (a:=some dx) (wpAny_bind (wpAny_pure (wpAny_bind ?_)))
 refine wpAny_nsSet1 (s:={s with toks:=s.toks+1}) I.ns fun h' Nv AG=> ?_
 obtain ⟨oD,esD,epD,hoD,hdD,hcD⟩:=Nv.count (PySem.Within.cons name v hw)
 refine wpAny_bind (wpAny_lookBehind hoD (by rw [hdD];exact pastItsLine_dict (ad_ hcD (by rw [ae6];omega))) ?_)
 exact wpAny_pure (h _ ⟨(AG.2 _ (ae8 I.ne)).trans I.obj,Nv,I.ne⟩ AG)
theorem AH {R:Result→Shared→Prop}{vs:List Value}{kw:List (Str×Value)}(X:K.In s.heap)(hm:PySem.W.makesIn K C=true)
  (hi:PySem.W.findIn K (.ref C) "__init__"=some (some (.ref f))) (hf:PySem.W.typeIn K (.ref f)=some (.type "function"))
  (h:codeAny (model prog w) (A.under (.builtin "type.__call__" ⟨.ref C::vs,kw⟩)) (.call (.ref f) ⟨.ref (s.heap.objs.size+1)::vs,kw⟩) (PySem.W.InitBack (s.heap.objs.size+1) R)
   {s with heap:=(s.heap.push PySem.W.emptyDict).push (PySem.W.instObj C s.heap.objs.size)}):
  codeAny (model prog w) A (.call (.ref C) ⟨vs,kw⟩) R s:=by
 obtain ⟨hh,g,d,t,os⟩:=s
 exact PySem.W.make_core (PySem.W.makes_of X hm) (PySem.W.looks_findIn X hi) (fun self=>PySem.W.bind_fn X self hf) (.inl rfl) h
theorem xr {R:Result→Shared→Prop}(X:K.In s.heap)(hm:PySem.W.makesIn K C=true)
  (hi:PySem.W.findIn K (.ref C) "__init__"=some (some (.builtin "object.__init__")))
  (hb:∀self,PySem.W.Looks (model prog w) s.heap (bindSpecial (.builtin "object.__init__") self) (.builtin "object.__init__",[self]))
  (h:codeAny (model prog w) (A.under (.builtin "type.__call__" ⟨[.ref C],[]⟩)) (.call (.builtin "object.__init__") ⟨[.ref (s.heap.objs.size+1)],[]⟩) (PySem.W.InitBack (s.heap.objs.size+1) R)
   {s with heap:=(s.heap.push PySem.W.emptyDict).push (PySem.W.instObj C s.heap.objs.size)}):
  codeAny (model prog w) A (.call (.ref C) ⟨[],[]⟩) R s:=by
 obtain ⟨hh,g,d,t,os⟩:=s
 exact PySem.W.make_core (PySem.W.makes_of X hm) (PySem.W.looks_findIn X hi) hb (.inr ⟨rfl,rfl⟩) h
end
def dC (f:Str)(v:V):List (Str×V)→List (Str×V)
 | []=>[(f,v)]
 | (g,x)::r=>if g=f then (g,v)::r else (g,x)::dC f v r
theorem j6 (f g:Str)(v:V):∀fs:List (Str×V),(dC f v fs).lookup g=if g=f then some v else fs.lookup g
 | []=>by
  show afI g [(f,v)]=_
  by_cases h:g=f
  ·have hb:(g==f)=true:=beq_iff_eq.mpr h
   simp only [afI,hb,if_pos h]
  ·have hb:(g==f)=false:=beq_eq_false_iff_ne.mpr h
   simp only [afI,hb,if_neg h]
 | (k,x)::r=>by
  have ih:=j6 f g v r
  rw [show dC f v ((k,x)::r)=(if k=f then (k,v)::r else (k,x)::dC f v r) from rfl]
  by_cases hk:k=f
  ·rw [if_pos hk]
   by_cases h:g=k
   ·have hb:(g==k)=true:=beq_iff_eq.mpr h
    simp only [afI,hb,if_pos (h.trans hk)]
   ·have hb:(g==k)=false:=beq_eq_false_iff_ne.mpr h
    simp only [afI,hb,if_neg (fun e:g=f=>h (e.trans hk.symm))]
  ·rw [if_neg hk]
   by_cases h:g=k
   ·have hb:(g==k)=true:=beq_iff_eq.mpr h
    simp only [afI,hb,if_neg (fun e:g=f=>hk (h.symm.trans e))]
   ·have hb:(g==k)=false:=beq_eq_false_iff_ne.mpr h
    simp only [afI,hb]
    exact ih
theorem jG (f:Str)(v:V):∀fs:List (Str×V),f∈(dC f v fs).map (·.1)∧∀g,g∈fs.map (·.1)→g∈(dC f v fs).map (·.1)
 | []=>⟨by simp [dC],fun g h=>by simp at h⟩
 | (k,x)::r=>by
  obtain ⟨i1,i2⟩:=jG f v r
  rw [show dC f v ((k,x)::r)=(if k=f then (k,v)::r else (k,x)::dC f v r) from rfl]
  by_cases hk:k=f
  ·rw [if_pos hk]
   subst hk
   exact ⟨by simp,fun g h=>by simpa using h⟩
  ·rw [if_neg hk]
   refine ⟨?_,fun g h=> ?_⟩
   ·rw [ac_]
    exact aeF _ i1
   ·rw [ac_] at h ⊢
    rcases ae1.mp h with e | e
    ·exact ae1.mpr (.inl e)
    ·exact aeF _ (i2 g e)
theorem j7 (f:Str)(v:V):∀fs:List (Str×V),(dC f v fs).length≤fs.length+1
 | []=>by simp [dC]
 | (k,x)::r=>by
  have ih:=j7 f v r
  rw [show dC f v ((k,x)::r)=(if k=f then (k,v)::r else (k,x)::dC f v r) from rfl]
  by_cases hk:k=f
  ·rw [if_pos hk,ae6,ae6];omega
  ·rw [if_neg hk,ae6,ae6];omega
theorem gI.some_of {v:V}{o:Option Value}(r:gI (some v) o):∃u,o=some u∧RelV v u:=by
 cases o with
 | none=>exact (show False from r).elim
 | some u=>exact ⟨u,rfl,r⟩
theorem gI.none_of {o:Option Value}(r:gI none o):o=none:=by
 cases o with
 | none=>rfl
 | some u=>exact (show False from r).elim
theorem xt {v:V}{u:Value}(r:RelV v u):PySem.W.handedIn u=true:=by
 cases v with
 | cE=>cases (show u=Value.none from r);rfl
 | bl b=>cases (show u=Value.bool b from r);rfl
 | int i=>obtain ⟨t,e⟩:=(show ∃t,u=Value.int i t from r);cases e;rfl
 | str x=>obtain ⟨t,e⟩:=(show ∃t,u=Value.str x t from r);cases e;rfl
 | byt b=>obtain ⟨t,e⟩:=(show ∃t,u=Value.bytes b t from r);cases e;rfl
 | K8 b=>obtain ⟨t,e⟩:=(show ∃t,u=Value.float b t from r);cases e;rfl
 | ref a=>cases (show u=Value.ref a from r);rfl
 | ty n=>cases (show u=Value.type n from r);rfl
section
variable {P:Program}{w:World}{H H' :Hp}{h h' :Heap}{a C dx:Addr}{fs fs' :List (Str×V)}
theorem kQ (bI:iu P w H h)(e:H a=some (.ins C dx fs)):∃mA,uI h a dx C mA∧(∀f,gI (fs.lookup f) (mA f))∧PySem.Within mA (fs.map (·.1))∧fs.length≤1000∧H dx=some (.own a):=by
 obtain ⟨d,z,ne,ob,mA,n,r,q⟩:=(show cB P w H h a (.ins C dx fs) from bI a _ e)
 exact ⟨mA,⟨ob,n,ne⟩,r,q,z,d⟩
end
structure rY (K:Frag)(C:Addr):Prop where
 pg:PySem.W.plainGet K C Str.empty=true
 hd:PySem.W.hasDictIn K C=true
 po:PySem.W.plainOver K C=true
 sa:PySem.W.findIn K (.ref C) "__setattr__"=some (some (.builtin "object.__setattr__"))
theorem rY.get {K:Frag}{C:Addr}(c:rY K C)(f:Str):PySem.W.plainGet K C f=true:=c.pg
def fg (K:Frag)(C:Addr)(f:Str):Prop:=PySem.W.findIn K (.ref C) f=some none
theorem fg.Oj {K:Frag}{C:Addr}{f:Str}(n:fg K C f):PySem.W.takerIn K C f=some none:=by
 unfold PySem.W.takerIn
 rw [show PySem.W.findIn K (.ref C) f=some none from n]
 rfl
structure Meth (K:Frag)(C:Addr)(m:Str)(f:Addr):Prop where
 at_:PySem.W.findIn K (.ref C) m=some (some (.ref f))
 fn:PySem.W.isFn K (.ref f)=true
 kp:keepIn K (.ref f)=true
section
variable {X:Cx}{pins:List (Addr×Obj)}{σ:St}{H:Hp}{s:Shared}{a C dx:Addr}{fs:List (Str×V)}{f:Str}{v:V}{A:Around}{E:Value→Shared→Prop}
theorem uJ {b:Bool}{Q:Value→Shared→Prop}(I:Inv X pins σ H s)(e:H a=some (.ins C dx fs))(c:rY X.K C)(n:fg X.K C f)(l:fs.lookup f=some v)
  (h:∀u s',Inv X pins σ H s' →RelV v u→Q u s'):wpAny (model X.prog X.w) A (getAttr (.ref a) f b) Q E s:=by
 obtain ⟨mA,O,r,_,_,_⟩:=kQ I.bI e
 obtain ⟨u,hu,ru⟩:=gI.some_of (v:=v) (o:=mA f) (by rw [← l];exact r f)
 exact get_map I.iB O (c.get f) c.hd n hu (xt ru) (h u _ (I.tok _) ru)
theorem iD {m:Str}{g:Addr}{pl:Sem Bool}{Q:Value×List Value→Shared→Prop}(I:Inv X pins σ H s)(e:H a=some (.ins C dx fs))(c:rY X.K C)(k:Meth X.K C m g)(l:fs.lookup m=none)
  (h:Q (.ref g,[.ref a]) s):wpAny (model X.prog X.w) A (getMethod (.ref a) m pl) Q E s:=by
 obtain ⟨mA,O,r,_,_,_⟩:=kQ I.bI e
 have hn:mA m=none:=gI.none_of (by rw [← l];exact r m)
 exact AF I.iB O (c.get m) k.at_ k.fn hn h
theorem uK {y:V}{u:Value}{Q:Unit→Shared→Prop}(I:Inv X pins σ H s)(e:H a=some (.ins C dx fs))(c:rY X.K C)(n:fg X.K C f)(hl:fs.length < 1000)(ry:RelV y u)
  (h:∀s',Inv X pins σ (upd H a (.ins C dx (dC f y fs))) s' →Q () s'):wpAny (model X.prog X.w) A (setAttr (.ref a) f u) Q E s:=by
 obtain ⟨mA,O,r,wi,_,ho⟩:=kQ I.bI e
 have hz:(fs.map (·.1)).length≤sizeLine:=by rw [aa_,sizeLine_eq];omega
 refine GN I.iB O c.sa c.po n.Oj c.hd wi hz fun h' O' sb=>h _ ?_
 have hd:∃o,h'.get? dx=some o:=let ⟨o,_,_,e',_⟩:=O'.ns;⟨o,e'⟩
 refine I.write (x:=a) (e:=dx) (by rw [e];exact True.intro) (.inr ho) (fun b q hb z=>(sb.2 b hb).trans z) hd ?_
 refine ⟨by rw [aj O.ne];exact ho,?_,O.ne,O'.obj,_,O'.ns,fun g=> ?_,fun g hg=> ?_⟩
 ·have:=j7 f y fs;omega
 ·show gI ((dC f y fs).lookup g) (if g=f then some u else mA g)
  rw [j6]
  by_cases q:g=f
  ·rw [if_pos q,if_pos q];exact ry
  ·rw [if_neg q,if_neg q];exact r g
 ·by_cases q:g=f
  ·rw [q];exact (jG f y fs).1
  ·refine (jG f y fs).2 g (wi g fun z=>hg ?_)
   show (if g=f then some u else mA g)=none
   rw [if_neg q];exact z
theorem Inv.made (I:Inv X pins σ H s):Inv X pins σ (upd (upd H s.heap.objs.size (.own (s.heap.objs.size+1))) (s.heap.objs.size+1) (.ins C s.heap.objs.size []))
  {s with heap:=(s.heap.push PySem.W.emptyDict).push (PySem.W.instObj C s.heap.objs.size)}:=by
 have e1:(s.heap.push PySem.W.emptyDict).get? s.heap.objs.size=some PySem.W.emptyDict:=Heap.get?_push_size s.heap rfl
 have e2:((s.heap.push PySem.W.emptyDict).push (PySem.W.instObj C s.heap.objs.size)).get? (s.heap.objs.size+1)=some (PySem.W.instObj C s.heap.objs.size):=by
  have:=Heap.get?_push_size (s.heap.push PySem.W.emptyDict) (o:=PySem.W.instObj C s.heap.objs.size) rfl
  rwa [Heap.size_push] at this
 have e3:(s.heap.push PySem.W.emptyDict).Ns s.heap.objs.size (fun _=>none):=⟨PySem.W.emptyDict, #[],_,e1,rfl,(fun e he=>absurd he (by simp)),fun _=>rfl⟩
 have I1:=I.laid (a:=s.heap.objs.size) (o:=.own (s.heap.objs.size+1)) (h' :=s.heap.push PySem.W.emptyDict) (t' :=s.toks) (fun b u q=>Heap.get?_push_of_some _ q) (aeG _) ⟨_,e1⟩
 refine I1.laid (a:=s.heap.objs.size+1) (o:=.ins C s.heap.objs.size []) (t' :=s.toks) (fun b u q=>Heap.get?_push_of_some _ q) (ao' (Heap.size_push _ _)) ?_
 have ne:s.heap.objs.size≠s.heap.objs.size+1:=ae4 (afe _)
 refine ⟨by rw [aj ne,ak],ae' _,ne,e2,fun _=>none,(Heap.Ns1.of_empty e3).at fun o q=>Heap.get?_push_of_some _ q,fun _=>True.intro,fun y hy=>absurd rfl hy⟩
theorem GO {prog:Program}{w:World}{env:Env}{e:Expr}{f:Str}{pos:Pos}{s:Shared}{Q:Value→Shared→Prop}(hb:attributeBase e f env (eval e env)=eval e env)
  (h:wpAny (model prog w) A (eval e env) (fun o s₁=>wpAny (model prog w) A (getAttr o f true) Q E s₁) E s):wpAny (model prog w) A (eval (.Attribute e f pos) env) Q E s:=
 Attribute_any_ h (by rw [arm_eval_Attribute,hb])
end
inductive JW (K:Frag)(f:Str)(Q:VK)(x:V)(H1:Hp):Prop where
 | mk (a C dx fs v:_) (_:x=.ref a) (_:H1 a=some (.ins C dx fs)) (_:rY K C) (_:fg K C f) (_:fs.lookup f=some v) (_:Q v H1):JW K f Q x H1
def Wu (K:Frag)(ta:TE)(f:Str):TE:=fun σ H Q=>ta σ H fun x H1=>JW K f Q x H1
inductive JX (K:Frag)(f:Str)(D:Ends)(σ:St)(y:V)(x:V)(H2:Hp):Prop where
 | mk (a C dx fs:_) (_:x=.ref a) (_:H2 a=some (.ins C dx fs)) (_:rY K C) (_:fg K C f) (_:fs.length < 1000) (_:D.nx σ (upd H2 a (.ins C dx (dC f y fs)))):JX K f D σ y x H2
def Wv (K:Frag)(ta tv:TE)(f:Str):TS:=fun D σ H=>tv σ H fun y H1=>ta σ H1 fun x H2=>JX K f D σ y x H2
section
variable {X:Cx}{o e value:Expr}{f:Str}{pos pos' uL:Pos}{ta tv:TE}
theorem c7 (he:PE X e ta)(hb:attributeBase e f X.env (eval e X.env)=eval e X.env):PE X (.Attribute e f pos) (Wu X.K ta f):=by
 intro pins s σ H Q I h
 refine GO hb (b9 (he pins s σ H _ I h) fun u s1 ⟨x,H1,I1,rx,a,C,dx,fs,v,ex,ea,c,n,l,q⟩=> ?_)
 subst ex
 obtain rfl:u=Value.ref a:=rx
 exact uJ I1 ea c n l fun u' s2 I2 ru=>⟨v,H1,I2,ru,q⟩
theorem pV (ha:PE X o ta)(hv:PE X value tv)(hs:swapsWith value (some (.Attribute o f pos')) pos.line X.env=pure false):PS X (.Assign [.Attribute o f pos'] value pos) (Wv X.K ta tv f):=by
 intro pins s σ H D I h
 refine plainObj_wpAny_Assign_Attribute (b9 (hv pins s σ H _ I h) fun u s1 ⟨y,H1,I1,ry,q⟩=>b9 (ha pins s1 σ H1 _ I1 q) fun ov s2 ⟨x,H2,I2,rx,a,C,dx,fs,ex,ea,c,n,l,q2⟩=> ?_) hs
 subst ex
 obtain rfl:ov=Value.ref a:=rx
 exact uK I2 ea c n l ry fun s3 I3=>⟨σ,_,I3,q2⟩
end
section
variable {X:Cx}{pins:List (Addr×Obj)}{σ:St}{H:Hp}{s:Shared}{A:Around}{E:Value→Shared→Prop}{Q:Value→Shared→Prop}{c:Value}{b:Bool}
inductive jH (K:Frag)(H:Hp):V→Value→Prop where
 | cE:jH K H .cE (.type "NoneType")
 | bl (x:Bool):jH K H (.bl x) (.type "bool")
 | int (i:Int):jH K H (.int i) (.type "int")
 | str (x:Str):jH K H (.str x) (.type "str")
 | K8 (x:UInt64):jH K H (.K8 x) (.type "float")
 | lst {a:Addr} {xs:List V} (e:H a=some (.lst xs)):jH K H (.ref a) (.type "list")
 | fU {a:Addr} {o:Obj} {xs:List V} (e:H a=some (.fU o (.lst xs))):jH K H (.ref a) (.type "list")
 | tup {a:Addr} {xs:List V} (e:H a=some (.tup xs)):jH K H (.ref a) (.type "tuple")
 | dK {a:Addr} {kvs:List (Key×V)} (e:H a=some (.dK kvs)):jH K H (.ref a) (.type "dict")
 | dT {a:Addr} {kvs:List (List Key×V)} (e:H a=some (.dT kvs)):jH K H (.ref a) (.type "dict")
 | ins {a C dx:Addr} {fs:List (Str×V)} (e:H a=some (.ins C dx fs)) (cl:rY K C) (ha:PySem.W.findIn K (.ref C) "__class__"=some (some (.builtin "object.__class__")))
   (hn:PySem.W.specialIn K (.builtin "object.__class__") "__get__"=some (some (.builtin "getset_descriptor.__get__"))) (htk:PySem.W.takesIn K (.builtin "object.__class__")=some true)
   (hm:PySem.W.mroIn K C (.type "object")=some true):jH K H (.ref a) (.ref C)
theorem xu {x:V}{u t:Value}(I:Inv X pins σ H s)(rx:RelV x u)(ty:jH X.K H x t)(e:PySem.W.kitOne X.K t c=some b)(h:∀tk,Q (.bool b) {s with toks:=tk}):
  wpAny (model X.prog X.w) A (call (.builtin "isinstance") [u,c]) Q E s:=by
 cases ty with
 | cE=>cases (show u=Value.none from rx);exact PySem.W.kia_one PySem.W.kitx_none I.iB True.intro e (fun z=>nomatch z) h
 | bl y=>cases (show u=Value.bool y from rx);exact PySem.W.kia_one PySem.W.kitx_bool I.iB True.intro e (fun z=>nomatch z) h
 | int i=>obtain ⟨t,q⟩:=(show ∃t,u=Value.int i t from rx);cases q;exact PySem.W.kia_one PySem.W.kitx_int I.iB True.intro e (fun z=>nomatch z) h
 | str y=>obtain ⟨t,q⟩:=(show ∃t,u=Value.str y t from rx);cases q;exact PySem.W.kia_one PySem.W.kitx_str I.iB True.intro e (fun z=>nomatch z) h
 | K8 y=>obtain ⟨t,q⟩:=(show ∃t,u=Value.float y t from rx);cases q;exact PySem.W.kia_one PySem.W.kitx_float I.iB True.intro e (fun z=>nomatch z) h
 | @lst a xs ea=>
  cases (show u=Value.ref a from rx)
  obtain ⟨_,_,n,_,h1⟩:=(show cB X.prog X.w H s.heap a (.lst xs) from I.bI a _ ea)
  exact PySem.W.kia_one PySem.W.kitx_list I.iB ⟨_,h1,rfl⟩ e (fun z=>nomatch z) h
 | @fU a ob xs ea=>
  cases (show u=Value.ref a from rx)
  obtain ⟨_,_,_,n,_,h1⟩:=(show cB X.prog X.w H s.heap a (.fU ob (.lst xs)) from I.bI a _ ea)
  exact PySem.W.kia_one PySem.W.kitx_list I.iB ⟨_,h1,rfl⟩ e (fun z=>nomatch z) h
 | @tup a xs ea=>
  cases (show u=Value.ref a from rx)
  obtain ⟨_,_,_,p⟩:=(show cB X.prog X.w H s.heap a (.tup xs) from I.bI a _ ea)
  obtain ⟨o,h1,h2,_⟩:=p
  exact PySem.W.kia_one PySem.W.kitx_tuple I.iB ⟨o,h1,h2⟩ e (fun z=>nomatch z) h
 | @dK a kvs ea=>
  cases (show u=Value.ref a from rx)
  obtain ⟨_,_,vs,_,p⟩:=(show cB X.prog X.w H s.heap a (.dK kvs) from I.bI a _ ea)
  obtain ⟨o,es,ep,h1,h2,_⟩:=p
  exact PySem.W.kia_one PySem.W.kitx_dict I.iB ⟨o,h1,h2.1⟩ e (fun z=>nomatch z) h
 | @dT a kvs ea=>
  cases (show u=Value.ref a from rx)
  obtain ⟨_,_,xs,_,o,es,ep,h1,h2,_⟩:=(show cB X.prog X.w H s.heap a (.dT kvs) from I.bI a _ ea)
  exact PySem.W.kia_one PySem.W.kitx_dict I.iB ⟨o,h1,h2.1⟩ e (fun z=>nomatch z) h
 | @ins a C dx fs ea cl ha hn htk hm=>
  cases (show u=Value.ref a from rx)
  obtain ⟨mA,O,_⟩:=kQ I.bI ea
  obtain ⟨od,J,_⟩:=O.look
  exact PySem.W.kia_one (PySem.W.kitx_own (cl.get _) cl.hd ha hn htk hm) I.iB J e (fun z=>nomatch z) h
end
end L2
namespace L2
open PySem PySem.Spec PyProof.Rows
structure cy (k:Nat)(A:Around):Prop where
 hd:A.handled=none
 dp:A.depth+3*k+5 < recursionLimit
 un:A.units+16*k+200 < cLine
theorem cy.mono {j k:Nat}{A:Around}(r:cy k A)(h:j≤k):cy j A:=⟨r.hd,by have:=r.dp;omega,by have:=r.un;omega⟩
theorem cy.deeper {k:Nat}{A:Around}(r:cy (k+1) A)(env:Env):cy k (A.deeper env):=
 ⟨r.hd,by have:=r.dp;show A.depth+1+3*k+5 < _;omega,by have:=r.un;show A.units+3+16*k+200 < _;omega⟩
theorem uM {A:Around}{C:Addr}{us:List Value}{kw:List (Str×Value)}:(A.under (.builtin "type.__call__" ⟨.ref C::us,kw⟩)).depth=A.depth+1:=by
 first | rfl | simp [Around.under,Code.weight,Code.isCreation,Code.isGuard,Code.isCaller,Code.frames,Code.isFrame,guardIds]
theorem uN {A:Around}{C:Addr}{us:List Value}{kw:List (Str×Value)}:(A.under (.builtin "type.__call__" ⟨.ref C::us,kw⟩)).units=A.units+1:=by
 first | rfl | simp [Around.under,Code.cUnits,Code.frames,Code.isFrame]
theorem cy.make {k:Nat}{A:Around}(r:cy (k+1) A)(C:Addr)(us:List Value)(kw:List (Str×Value)):cy k (A.under (.builtin "type.__call__" ⟨.ref C::us,kw⟩)):=
 ⟨r.hd,by have:=r.dp;rw [uM];omega,by have:=r.un;rw [uN];omega⟩
theorem cy.depth {k:Nat}{A:Around}(r:cy k A):A.depth < recursionLimit:=by have:=r.dp;omega
theorem cy.units {k:Nat}{A:Around}(r:cy k A):A.units+64 < cLine:=by have:=r.un;omega
def gN:TA:=fun _ H Q=>Q [] H
def JY (ta:TE)(tr:TA):TA:=fun σ H Q=>ta σ H fun x H1=>tr σ H1 fun xs H2=>Q (x::xs) H2
section
variable {X:Cx}{e:Expr}{es:List Expr}{te:TE}{t:TA}{pos:Pos}
theorem aa:PA X [] gN:=fun _ _ _ _ H Q I h=>Calls.spliced_nil ⟨[],H,I,.nil,h⟩
theorem GP (ha:PE X e te)(hr:PA X es t)(hs:starEach (e::es) X.env=(false,eval e X.env)::starEach es X.env:=by rfl):PA X (e::es) (JY te t):=by
 intro pos pins s σ H Q I h
 rw [hs]
 show wpAny _ _ (spliced ((false,eval e X.env)::backTo pos (starEach es X.env))) _ _ s
 refine Calls.spliced_cons (b9 (ha pins s σ H _ I h) fun u s1 ⟨x,H1,I1,r1,q1⟩=> ?_)
 exact b9 (hr pos pins s1 σ H1 _ I1 q1) fun us s2 ⟨xs,H2,I2,r2,q2⟩=>⟨x::xs,H2,I2,.cons r1 r2,q2⟩
def Ww (t:TA):TE:=fun σ H Q=>t σ H fun xs H1=>xs.length≤sizeLine∧∀p,H1 p=none→Q (.ref p) (upd H1 p (.tup xs))
def Wx (t:TA):TE:=fun σ H Q=>t σ H fun xs H1=>xs.length≤sizeLine∧∀p,H1 p=none→Q (.ref p) (upd H1 p (.lst xs))
theorem aZ {x1}(h:PA X es t):PE X (.Tuple es x1 pos) (Ww t):=by
 intro pins s σ H Q I hq
 refine wpAny_Tuple_spliced (b9 (h pos pins s σ H _ I hq) fun us s1 ⟨xs,H1,I1,r,z,q⟩=>⟨by rw [← r.length];exact z,?_⟩)
 have hf:H1 s1.heap.objs.size=none:=I1.bI.fresh (aeG _)
 refine ⟨.ref s1.heap.objs.size,upd H1 s1.heap.objs.size (.tup xs),I1.laid (t' :=s1.toks) (fun b u e=>Heap.get?_push_of_some _ e) (aeG _) ?_,rfl,q _ hf⟩
 exact ⟨z,us,r,⟨_,Heap.get?_push_size _ rfl,rfl,_,rfl⟩⟩
theorem bR (h:PA X es t):PE X (.List es pos) (Wx t):=by
 intro pins s σ H Q I hq
 refine wpAny_List_spliced (b9 (h pos pins s σ H _ I hq) fun us s1 ⟨xs,H1,I1,r,z,q⟩=>⟨by rw [← r.length];exact z,?_⟩)
 have hf:H1 s1.heap.objs.size=none:=I1.bI.fresh (aeG _)
 refine ⟨.ref s1.heap.objs.size,upd H1 s1.heap.objs.size (.lst xs),I1.laid (t' :=s1.toks) (fun b u e=>Heap.get?_push_of_some _ e) (aeG _) ?_,rfl,q _ hf⟩
 exact ⟨z,us,0,r,Heap.get?_push_size _ rfl⟩
end
abbrev Sp:=List V→Hp→VK→XK→Prop
abbrev jD:=List Env→Hp→Shared→XK→Value→Shared→Prop
structure uO (P:Program)(w:World)(K:Frag)(mg:Str→Option Value)(base:Heap)(A:Around)(outer:List Env)(s:Shared)(H:Hp):Prop where
 frames:A.frames=some outer
 mod:Mod K mg base
 bs:∀b o,base.get? b=some o→s.heap.get? b=some o∧H b=none
 FV:base.objs.size≤s.heap.objs.size
 kE:s.heap.FunFrames base outer
 La:∀b∈vJ outer,H b=none
 bI:iu P w H s.heap
 bare:AllBare s.gens
def CE (outer:List Env)(P:Program)(w:World)(H:Hp)(s:Shared)(Q:VK)(u:Value)(s' :Shared):Prop:=
 ∃v H',s'.os=s.os∧AllBare s'.gens∧Un (vJ outer) [] H H' s.heap s'.heap∧iu P w H' s'.heap∧RelV v u∧Q v H'
def CR (CX:jD)(outer:List Env)(P:Program)(w:World)(H:Hp)(s:Shared)(Q:VK)(E:XK)(r:Result)(s' :Shared):Prop:=
 match r with
 | .ok (.ret u)=>CE outer P w H s Q u s'
 | .ok _=>False
 | .error e=>CX outer H s E e s'
structure cM (P:Program)(w:World)(K:Frag)(mg:Str→Option Value)(base:Heap)(CX:jD)(k:Nat)(f:Addr)(fd:FuncData)(ps:List Str)(sp:Sp):Prop where
 len:∀vs H Q E,sp vs H Q E→vs.length=ps.length
 run:∀(A:Around) (outer:List Env) (s:Shared) (H:Hp) (args:Args) (us:List Value) (vs:List V) (Q:VK) (E:XK),cy k A→uO P w K mg base A outer s H→BindsTo s fd args (ps.zip us)→Vals vs us→sp vs H Q E→
  codeAny (model P w) A (.call (.ref f) args) (CR CX outer P w H s Q E) s
theorem cM.mono {P:Program}{w:World}{K:Frag}{mg:Str→Option Value}{base:Heap}{CX:jD}{j k:Nat}{f:Addr}{fd:FuncData}{ps:List Str}{sp:Sp}(F:cM P w K mg base CX j f fd ps sp)(h:j≤k):
  cM P w K mg base CX k f fd ps sp:=⟨F.len,fun A outer s H args us vs Q E hr=>F.run A outer s H args us vs Q E (hr.mono h)⟩
theorem cM.imp {P:Program}{w:World}{K:Frag}{mg:Str→Option Value}{base:Heap}{CX:jD}{k:Nat}{f:Addr}{fd:FuncData}{ps:List Str}{sp sp' :Sp}(F:cM P w K mg base CX k f fd ps sp)
  (h:∀vs H Q E,sp' vs H Q E→sp vs H Q E):cM P w K mg base CX k f fd ps sp' :=
 ⟨fun vs H Q E q=>F.len vs H Q E (h _ _ _ _ q),fun A outer s H args us vs Q E hr he hb hv hs=>F.run A outer s H args us vs Q E hr he hb hv (h _ _ _ _ hs)⟩
theorem uO.make {P:Program}{w:World}{K:Frag}{mg:Str→Option Value}{base:Heap}{A:Around}{outer:List Env}{s:Shared}{H:Hp}(e:uO P w K mg base A outer s H)(C:Addr)(us:List Value)(kw:List (Str×Value)):
  uO P w K mg base (A.under (.builtin "type.__call__" ⟨.ref C::us,kw⟩)) outer s H:=⟨by first | exact e.frames | (simpa [Around.under,Code.envs,Code.isFrame,pushEnvs] using e.frames),e.mod,e.bs,e.FV,e.kE,e.La,e.bI,e.bare⟩
section
variable {X:Cx}{pins:List (Addr×Obj)}{σ:St}{H:Hp}{s s' :Shared}
theorem Inv.Ol (I:Inv X pins σ H s):uO X.prog X.w X.K X.mg X.base X.A X.stack s H:=
 ⟨I.ok.frames,I.ok.mod,I.bs,ad_ I.ok.FV I.sz,I.stack,I.vK,I.bI,I.bare⟩
theorem Inv.after {Q:VK}{u:Value}(I:Inv X pins σ H s)(h:CE X.stack X.prog X.w H s Q u s'):EP X pins σ Q u s' :=by
 obtain ⟨v,H',os,bare,un,bI,r,q⟩:=h
 obtain ⟨hh,g,d,t,os'⟩:=s'
 obtain rfl:os' =s.os:=os
 exact ⟨v,H',I.call (h' :=hh) (g' :=g) (d' :=d) (t' :=t) (ch:=[]) un bI bare (fun b z=>absurd z (by simp)),r,q⟩
end
def JZ (sp:Sp)(dvs:List V)(E:XK)(t:TA):TE:=fun σ H Q=>t σ H fun vs H1=>sp (vs++dvs) H1 Q E
def J_ (C:Addr)(sp:Sp)(dvs:List V)(E:XK)(t:TA):TE:=fun σ H Q=>t σ H fun vs H1=>∀x dx,H1 x=none→H1 dx=none→dx≠x→
 sp (.ref x::(vs++dvs)) (upd (upd H1 dx (.own x)) x (.ins C dx [])) (fun v H2=>v=.cE∧Q (.ref x) H2) E
def Binds (K:Frag)(fd:FuncData)(ps:List Str)(ds:List Value):Prop:=
 ∀(s:Shared) (us:List Value),K.In s.heap→(us++ds).length=ps.length→BindsTo s fd ⟨us,[]⟩ (ps.zip (us++ds))
theorem Binds.all {K:Frag}{fd:FuncData}{ps:List Str}(h:∀us:List Value,us.length=ps.length→bindArgs fd ⟨us,[]⟩=pure (ps.zip us)):Binds K fd ps []:=fun s us _ hl=>by
 rw [agt] at hl ⊢
 exact .of_eq (h us hl)
def Passes (CX:jD)(X:Cx)(E:XK):Prop:=∀(pins:List (Addr×Obj)) (σ:St) (H:Hp) (s:Shared) (e:Value) (s' :Shared),Inv X pins σ H s→CX X.stack H s E e s' →X.xe e s'
section
variable {X:Cx}{CX:jD}{k:Nat}{f C:Addr}{fd:FuncData}{ps:List Str}{sp:Sp}{dvs:List V}{ds:List Value}{E:XK}{x m:Str}{p pos apos:Pos}{e o:Expr}{es:List Expr}{ta:TE}{t:TA}
theorem pZ {pins:List (Addr×Obj)}{σ:St}{H:Hp}{s:Shared}{Q:VK}{us:List Value}{vs:List V}(F:cM X.prog X.w X.K X.mg X.base CX k f fd ps sp)(hr:cy k X.A)(hb:Binds X.K fd ps ds)(hd:Vals dvs ds)(hx:Passes CX X E)
  (I:Inv X pins σ H s) (r:Vals vs us) (h:sp (vs++dvs) H Q E):wpAny (model X.prog X.w) X.A (call (.ref f) us) (EP X pins σ Q) X.xe s:=by
 have r2:Vals (vs++dvs) (us++ds):=r.append hd
 have hl:(us++ds).length=ps.length:=by rw [← r2.length];exact F.len _ _ _ _ h
 refine wpAny_call (codeAny_mono (F.run X.A X.stack s H ⟨us,[]⟩ (us++ds) (vs++dvs) Q E hr I.Ol (hb s us I.iB hl) r2 h) fun r s' hq=> ?_)
 cases r with
 | error e=>exact hx pins σ H s e s' I hq
 | ok fl=>
  cases fl with
  | ret u=>exact I.after hq
  | next=>exact False.elim hq
  | brk=>exact False.elim hq
  | cont=>exact False.elim hq
theorem GQ (F:cM X.prog X.w X.K X.mg X.base CX k f fd ps sp)(hr:cy k X.A)(hg:Gl X x)(hm:X.mg x=some (.ref f))(hk:keepIn X.K (.ref f)=true)(hb:Binds X.K fd ps ds)(hd:Vals dvs ds)(hx:Passes CX X E)
  (ha:PA X (e::es) t) (xw:(x==("__debug__":Str))=false:=by decide) (he:starEach (e::es) X.env=(false,eval e X.env)::starEach es X.env:=by rfl) (vS:(backTo pos (starEach es X.env)).any (·.1)=false:=by rfl):
  PE X (.Call (.Name x p) (e::es) [] pos) (JZ sp dvs E t):=by
 intro pins s σ H Q I h
 refine wpAny_Call_Name_kw (iY I hg hm ?_ xw)
 refine PySem.W.callWith_K (h₀:=X.base) I.ok.mod.Nt hk (b9 (ha pos pins s σ H _ I h) fun us s1 ⟨vs,H1,I1,r,q⟩=>⟨I1.iB,?_⟩) he vS
 exact pZ F hr hb hd hx I1 r q
structure Mk (K:Frag)(C f:Addr):Prop where
 makes:PySem.W.makesIn K C=true
 init:PySem.W.findIn K (.ref C) "__init__"=some (some (.ref f))
 fn:PySem.W.isFn K (.ref f)=true
 kp:keepIn K (.ref C)=true
theorem rZ {pins:List (Addr×Obj)}{σ:St}{H:Hp}{s:Shared}{Q:VK}{us:List Value}{vs:List V}(M:Mk X.K C f)(F:cM X.prog X.w X.K X.mg X.base CX k f fd ps sp)(hr:cy (k+1) X.A)(hb:Binds X.K fd ps ds)(hd:Vals dvs ds)
  (hx:Passes CX X E) (I:Inv X pins σ H s) (r:Vals vs us)
  (h:∀x dx,H x=none→H dx=none→dx≠x→sp (.ref x::(vs++dvs)) (upd (upd H dx (.own x)) x (.ins C dx [])) (fun v H2=>v=.cE∧Q (.ref x) H2) E):
  wpAny (model X.prog X.w) X.A (call (.ref C) us) (EP X pins σ Q) X.xe s:=by
 have hq:=h (s.heap.objs.size+1) s.heap.objs.size (I.bI.fresh (aps _)) (I.bI.fresh (aeG _)) (ae4 (afe _))
 have I2:=Inv.made (C:=C) I
 have r2:Vals (V.ref (s.heap.objs.size+1)::(vs++dvs)) (Value.ref (s.heap.objs.size+1)::(us++ds)):=.cons rfl (r.append hd)
 have hl:(Value.ref (s.heap.objs.size+1)::us++ds).length=ps.length:=by
  have e:=r2.length
  rw [F.len _ _ _ _ hq] at e
  exact e.symm
 refine wpAny_call (AH (f:=f) I.iB M.makes M.init (beq_iff_eq.mp M.fn) (codeAny_mono (F.run _ X.stack _ _ ⟨Value.ref (s.heap.objs.size+1)::us,[]⟩ (Value.ref (s.heap.objs.size+1)::(us++ds)) _ _ E (hr.make C us [])
  (I2.Ol.make C us []) (hb _ (Value.ref (s.heap.objs.size+1)::us) I2.iB hl) r2 hq) fun r s' kG => ?_))
 cases r with
 | error e=>exact hx pins σ _ _ e s' I2 kG
 | ok fl=>
  cases fl with
  | ret u=>
   obtain ⟨v,H',I3,rv,ev,q3⟩:=I2.after kG
   subst ev
   exact ⟨rv,⟨V.ref (s.heap.objs.size+1),H',I3,rfl,q3⟩⟩
  | next=>exact False.elim kG
  | brk=>exact False.elim kG
  | cont=>exact False.elim kG
theorem GU (M:Mk X.K C f)(F:cM X.prog X.w X.K X.mg X.base CX k f fd ps sp)(hr:cy (k+1) X.A)(hg:Gl X x)(hm:X.mg x=some (.ref C))(hb:Binds X.K fd ps ds)(hd:Vals dvs ds)(hx:Passes CX X E)
  (ha:PA X (e::es) t) (xw:(x==("__debug__":Str))=false:=by decide) (he:starEach (e::es) X.env=(false,eval e X.env)::starEach es X.env:=by rfl) (vS:(backTo pos (starEach es X.env)).any (·.1)=false:=by rfl):
  PE X (.Call (.Name x p) (e::es) [] pos) (J_ C sp dvs E t):=by
 intro pins s σ H Q I h
 refine wpAny_Call_Name_kw (iY I hg hm ?_ xw)
 refine PySem.W.callWith_K (h₀:=X.base) I.ok.mod.Nt M.kp (b9 (ha pos pins s σ H _ I h) fun us s1 ⟨vs,H1,I1,r,q⟩=>⟨I1.iB,?_⟩) he vS
 exact rZ M F hr hb hd hx I1 r q
theorem AI (M:Mk X.K C f)(F:cM X.prog X.w X.K X.mg X.base CX k f fd ps sp)(hr:cy (k+1) X.A)(hg:Gl X x)(hm:X.mg x=some (.ref C))(hb:Binds X.K fd ps ds)(hd:Vals dvs ds)(hx:Passes CX X E)
  (xw:(x==("__debug__":Str))=false:=by decide):PE X (.Call (.Name x p) [] [] pos) (J_ C sp dvs E gN):=by
 intro pins s σ H Q I h
 refine wpAny_Call_Name_kw (iY I hg hm ?_ xw)
 exact PySem.W.callWith_K0 I.iB M.kp (rZ (us:=[]) M F hr hb hd hx I .nil h)
end
section
variable {X:Cx}{CX:jD}{k:Nat}{f C:Addr}{fd:FuncData}{ps ks:List Str}{sp:Sp}{E:XK}{x m:Str}{p pos apos aoX:Pos}{e o:Expr}{es:List Expr}{kws:List Keyword}{te ta:TE}{t tk:TA}{nm:Option Str}
variable {g:List Value→List Value→List Value}{gV:List V→List V→List V}
end
structure aG (N P:List Str)(sc:Scope):Prop where
 kind:sc.kind=.function
 co:sc.isCoroutine=false
 gen:sc.isGenerator=false
 nd:N.Nodup
 pre:N.take P.length=P
 par:∀x∈P,sc.names.lookup x=some .local∨sc.names.lookup x=some .cell
 Lr:∀y∈sc.names,y.2≠.free
theorem oH {kindOf:Str→Option NameKind}{x:Str}:∀{binds:List (Str×Value)} {m:Str→Option Value},(∀v,(x,v)∉binds)→bindL kindOf binds m x=m x
 | [],_,_=>rfl
 | (n,v)::r,m,h=>by
  unfold bindL
  rw [oH fun w hw=>h w (aeF _ hw)]
  split
  ·have:x≠n:=by rintro rfl;exact h v aeI
   simp [this]
  ·rfl
theorem oI {kindOf:Str→Option NameKind}{x:Str}:∀{binds:List (Str×Value)} {m:Str→Option Value},(∀v,(x,v)∉binds)→bindC kindOf binds m x=m x
 | [],_,_=>rfl
 | (n,v)::r,m,h=>by
  unfold bindC
  rw [oI fun w hw=>h w (aeF _ hw)]
  split
  ·rfl
  ·have:x≠n:=by rintro rfl;exact h v aeI
   simp [this]
theorem oJ {kindOf:Str→Option NameKind}{x:Str}{v:Value}:∀{P:List Str} {vs:List Value} {i:Nat} {m:Str→Option Value},P.Nodup→P[i]? =some x→vs[i]? =some v→kindOf x=some .local→
  bindL kindOf (P.zip vs) m x=some v
 | [],_,_,_,_,h,_,_=>by simp at h
 | _::_,[],_,_,_,_,h,_=>by simp at h
 | p::P,w::vs,0,m,nd,h1,h2,hk=>by
  simp at h1 h2;subst h1;subst h2
  show bindL kindOf ((p,w)::P.zip vs) m p=_
  unfold bindL
  rw [oH fun v hv=>(ae9.mp nd).1 (aoL hv).1,if_pos hk]
  simp
 | p::P,w::vs,i+1,m,nd,h1,h2,hk=>by
  show bindL kindOf ((p,w)::P.zip vs) m x=_
  unfold bindL
  exact oJ (i:=i) (ae9.mp nd).2 (by simpa using h1) (by simpa using h2) hk
theorem oK {kindOf:Str→Option NameKind}{x:Str}{v:Value}:∀{P:List Str} {vs:List Value} {i:Nat} {m:Str→Option Value},P.Nodup→P[i]? =some x→vs[i]? =some v→kindOf x≠some .local→
  bindC kindOf (P.zip vs) m x=some v
 | [],_,_,_,_,h,_,_=>by simp at h
 | _::_,[],_,_,_,_,h,_=>by simp at h
 | p::P,w::vs,0,m,nd,h1,h2,hk=>by
  simp at h1 h2;subst h1;subst h2
  show bindC kindOf ((p,w)::P.zip vs) m p=_
  unfold bindC
  rw [oI fun v hv=>(ae9.mp nd).1 (aoL hv).1,if_neg hk]
  simp
 | p::P,w::vs,i+1,m,nd,h1,h2,hk=>by
  show bindC kindOf ((p,w)::P.zip vs) m x=_
  unfold bindC
  exact oK (i:=i) (ae9.mp nd).2 (by simpa using h1) (by simpa using h2) hk
def start (N:List Str)(vs:List V):St:=vs.map some++aeW (N.length - vs.length) none
def kH (CX:jD)(P:Program)(w:World)(K:Frag)(mg:Str→Option Value)(base:Heap)(N:List Str)(qual:Str)(scope:Scope)(f:Addr)(cd:Value)(A:Around)(outer:List Env)(s:Shared)(H:Hp)(E:XK):Cx where
 prog:=P
 w:=w
 K:=K
 mg:=mg
 base:=base
 A:=A.deeper (envOfC qual scope s.heap.objs.size f cd)
 N:=N
 s₀:=s
 H₀:=H
 env:=envOfC qual scope s.heap.objs.size f cd
 outer:=outer
 stack:=envOfC qual scope s.heap.objs.size f cd::outer
 ex:=[]
 calm:=true
 fn:=fun _=>true
 pn:=[]
 xe:=fun e s' =>wpAny (model P w) (A.deeper (envOfC qual scope s.heap.objs.size f cd)) (leaving (envOfC qual scope s.heap.objs.size f cd) e) (fun _ Om =>CX outer H s E e Om) (fun e' Om =>CX outer H s E e' Om) s'
theorem r6 {sc:Scope}{n:Nat}{x:Str}(h:sc.names.lookup x=some .cell):∃c,(cellsFrom n sc.names []).lookup x=some c:=by
 have q:=PySem.W.cellsFrom_some sc.names n [] (.inl h)
 exact ak_.mp q
theorem xx {CX:jD}{P:Program}{w:World}{K:Frag}{mg:Str→Option Value}{base:Heap}{N ps:List Str}{qual:Str}{scope:Scope}{f:Addr}{cd:Value}{A:Around}{outer:List Env}{s s1:Shared}{H:Hp}{E:XK}{us:List Value}{vs:List V}
  (S:aG N ps scope) (hd:A.handled=none) (e0:uO P w K mg base A outer s H) (hl:vs.length=ps.length) (r:Vals vs us)
  (x:InCallC s s.heap.objs.size (bindL (envOfC qual scope s.heap.objs.size f cd).kindOf (ps.zip us) fun _=>none) (cellsFrom (s.heap.objs.size+1) scope.names []) (bindC (envOfC qual scope s.heap.objs.size f cd).kindOf (ps.zip us) fun _=>none) s1):
  Inv (kH CX P w K mg base N qual scope f cd A outer s H E) [] (start N vs) H s1:=by
 have vS:ps.length≤N.length:=by have:=congrArg afJ S.pre;rw [ae2] at this;omega
 obtain ⟨h1,tk,rfl,hk⟩:=x.done
 have Oo:∀b:Addr,b∉(kH CX P w K mg base N qual scope f cd A outer s H E).ex:=fun b z=>absurd (show b∈([]:List Addr) from z) (by simp)
 refine ⟨⟨e0.mod,S.kind,rfl,rfl,aeG _,fun y z c h1 h2=> ?_,fun y hy=> ?_,fun y c _ h=> ?_,fun _=>hd,Around.frames_deeper e0.frames,.inr ⟨rfl,rfl⟩,fun b z=>absurd z (Oo b),e0.bs,e0.FV,fun b _ _=>Oo b,fun b z=>absurd z (Oo b),e0.kE,e0.La⟩,
  rfl,e0.bare,Un.kept hk,⟨_,x.toInCall.ns,fun i y v h1 h2 h3=> ?_⟩,fun y c h=>⟨_,x.cell y c h⟩,e0.bI.fresh (aeG _),fun y c h=> ?_,fun p hp=>absurd (show p∈([]:List (Addr×Obj)) from hp) (by simp),e0.bI.kept hk,?_⟩
 ·exact name_of_addr x.apart (PySem.mem_of_lookup h1) (PySem.mem_of_lookup h2)
 ·have hy:scope.names.lookup y=some .cell∨scope.names.lookup y=some .free:=hy
  rcases hy with hy | hy
  ·exact r6 hy
  ·exact absurd rfl (S.Lr _ (PySem.mem_of_lookup hy))
 ·exact afl (x.above y c (PySem.mem_of_lookup h))
 ·have hi:i < vs.length:=by
   unfold start at h2
   by_cases hi:i < vs.length
   ·exact hi
   ·rw [aeP (by simpa using hi)] at h2
    rw [afr] at h2
    split at h2 <;> cases h2
  have ha:vs[i]? =some v:=by
   unfold start at h2
   rw [aeL (by simpa using hi),Wp] at h2
   cases e:vs[i]? with
   | none=>rw [e] at h2;cases h2
   | some a=>rw [e] at h2;cases h2;rfl
  obtain ⟨u,hu,rv⟩:=r.get ha
  have hp:ps[i]? =some y:=by
   rw [← S.pre,List.getElem?_take_of_lt (by omega)];exact h1
  have ndP:ps.Nodup:=by rw [← S.pre];exact S.nd.sublist (List.take_sublist _ _)
  refine ⟨u,rv,?_⟩
  rcases S.par y (ir hp) with k | k
  ·exact .inl ⟨k,oJ ndP hp hu k⟩
  ·obtain ⟨c,e⟩:=r6 (n:=s.heap.objs.size+1) k
   refine .inr ⟨.inl k,c,e,?_⟩
   have q:=x.cell y c e
   rw [oK ndP hp hu (by show scope.names.lookup y≠_;rw [k];decide)] at q
   exact q
 ·exact e0.bI.fresh (afl (x.above y c (PySem.mem_of_lookup h)))
 ·unfold start
  show _=N.length
  rw [aeO,aa_,afF]
  omega
theorem vT {CX:jD}{P:Program}{w:World}{K:Frag}{mg:Str→Option Value}{base:Heap}{k:Nat}{f:Addr}{name qual:Str}{params:Arguments}{body:List Stmt}{scope:Scope}{dV kV doc pm bF ct oc:Value}{an od:Option Addr}
  {nR:Array (Option Value)} {N ps:List Str} {sp:Sp} (lk:K.lookup f=some ⟨oc,od,.func (fnOf name qual params body scope dV kV doc pm an bF ct),nR⟩) (og:codeIn K bF qual=true) (S:aG N ps scope)
  (len:∀vs H Q E,sp vs H Q E→vs.length=ps.length)
  (i0:∀(A:Around) (outer:List Env) (s:Shared) (H:Hp) (vs:List V) (Q:VK) (E:XK),cy k (A.deeper (envOfC qual scope s.heap.objs.size f bF))→sp vs H Q E→
   ∃t,PSs (kH CX P w K mg base N qual scope f bF A outer s H E) body t∧t {nx:=fun _ H' =>Q .cE H',rt:=Q} (start N vs) H):
  cM P w K mg base CX (k+1) f (fnOf name qual params body scope dV kV doc pm an bF ct) ps sp:=by
 refine ⟨len,fun A outer s H args us vs Q E hr e0 hb r uv=> ?_⟩
 have hl:=len _ _ _ _ uv
 have KX:K.In s.heap:=e0.mod.Nt.keeps fun b o e=>(e0.bs b o e).1
 have lim:s.heap.NoLimit:=e0.mod.nolimit.keeps fun b o e=>(e0.bs b o e).1
 have Oq:∀y∈ps.zip us,scope.names.lookup y.1=some .local∨(scope.names.lookup y.1=some .cell∧((cellsFrom (s.heap.objs.size+1) scope.names []).lookup y.1).isSome=true):=fun ⟨n,v⟩ hy=>by
  rcases S.par n (aoL hy).1 with q | q
  ·exact .inl q
  ·exact .inr ⟨q,PySem.W.cellsFrom_some _ _ _ (.inl q)⟩
 refine codeAny_call_function hr.depth (KX _ _ lk) rfl S.co S.gen rfl (PySem.W.codeRec_of KX og) (hb _ _ _ _ ?_)
 refine wpAny_newFunctionEnv_cells S.kind Oq fun env he s1 x=> ?_
 subst he
 refine ⟨lim.keeps x.toInCall.keep,codeAny_func ?_⟩
 obtain ⟨t,ht,hq⟩:=i0 A outer s H vs Q E (hr.deeper _) uv
 have I:Inv (kH CX P w K mg base N qual scope f bF A outer s H E) [] (start N vs) H s1:=xx S hr.hd e0 hl r x
 refine wpAny_mono (ht [] s1 (start N vs) H _ I hq) (fun fl s' hs=> ?_) fun e s' hs=>hs
 have fin:∀{σ' :St} {H' :Hp} {v:V} {u:Value},Inv (kH CX P w K mg base N qual scope f bF A outer s H E) [] σ' H' s' →RelV v u→Q v H' →CE outer P w H s Q u s' :=
  fun {σ' H' v u} J rv q=>⟨v,H',J.os,J.bare,J.base,J.bI,rv,q⟩
 cases fl with
 | ret u=>
  obtain ⟨v,σ',H',J,rv,q⟩:=hs
  exact fin J rv q
 | next=>
  obtain ⟨σ',H',J,q⟩:=hs
  exact fin (v:=V.cE) (u:=Value.none) J rfl q
 | brk=>
  obtain ⟨_,_,_,q⟩:=hs
  exact False.elim q
 | cont=>
  obtain ⟨_,_,_,q⟩:=hs
  exact False.elim q
end L2
namespace L2
open PySem PySem.Spec PyProof.Rows
section
variable {X:Cx}{x:Str}{p pos:Pos}{e:Expr}{es:List Expr}{t:TA}{id T:String}{r:List V→Hp→VK→Prop}
def tCB (r:List V→Hp→VK→Prop)(t:TA):TE:=fun σ H Q=>t σ H fun vs H1=>r vs H1 Q
theorem aR (hc:eg X (.builtin id) r)(hg:Gl X x)(hm:X.mg x=none)(hv:bootBuiltins x=some (.builtin id))(ha:PA X (e::es) t)(hn:x≠ "__name__":=by decide)(xw:(x==("__debug__":Str))=false:=by decide)
  (he:starEach (e::es) X.env=(false,eval e X.env)::starEach es X.env:=by rfl) (vS:(backTo pos (starEach es X.env)).any (·.1)=false:=by rfl):PE X (.Call (.Name x p) (e::es) [] pos) (tCB r t):=by
 intro pins s σ H Q I h
 refine wpAny_Call_Name_kw (gi I hg hm hv ?_ hn xw)
 exact PyProof.Rows.callWith_builtin1 (b9 (ha pos pins s σ H _ I h) fun us s1 ⟨vs,H1,I1,r1,q1⟩=>hc pins s1 σ H1 vs us Q I1 r1 q1) he vS
theorem ck (hc:eg X (.type T) r)(hg:Gl X x)(hm:X.mg x=none)(hv:bootBuiltins x=some (.type T))(ha:PA X (e::es) t)(hn:x≠ "__name__":=by decide)(xw:(x==("__debug__":Str))=false:=by decide)
  (he:starEach (e::es) X.env=(false,eval e X.env)::starEach es X.env:=by rfl) (vS:(backTo pos (starEach es X.env)).any (·.1)=false:=by rfl):PE X (.Call (.Name x p) (e::es) [] pos) (tCB r t):=by
 intro pins s σ H Q I h
 refine wpAny_Call_Name_kw (gi I hg hm hv ?_ hn xw)
 exact PyProof.Rows.callWith_type1 (b9 (ha pos pins s σ H _ I h) fun us s1 ⟨vs,H1,I1,r1,q1⟩=>hc pins s1 σ H1 vs us Q I1 r1 q1) he vS
end
end L2
namespace HT
open PySem PyProof.Rows
section
open PySem.SeqAt
open PySem.AutoSeq1 (wpAny_loadPart')
open PySem.MeetsSeq PySem.MeetsSeq2 PySem.MeetsSeq3
end
section
variable {prog:Program}{w:World}{A:Around}{E:Value→Shared→Prop}{s:Shared}
def r8 (n d:Nat):Option Int→Nat
 | none=>d
 | some v=>if v < 0 then (v+(n:Int)).toNat else min v.toNat n
theorem r9 (n d:Nat):r8 n d none=d:=rfl
theorem kR (n d k:Nat):r8 n d (some (k:Int))=min k n:=by
 show (if (k:Int) < 0 then ((k:Int)+(n:Int)).toNat else min (k:Int).toNat n)=min k n
 rw [if_neg (by omega),Int.toNat_natCast]
end
end HT
namespace L2
open PySem PySem.Spec PyProof.Rows
abbrev TO:=St→Hp→(Option Int→Hp→Prop)→Prop
def PO (X:Cx)(e:Option Expr)(t:TO):Prop:=
 ∀(pins:List (Addr×Obj)) (s:Shared) (σ:St) (H:Hp) (Q:Option Int→Hp→Prop),Inv X pins σ H s→t σ H Q→
  wpAny (model X.prog X.w) X.A (evalPart e X.env) (fun u s' =>∃o H',Inv X pins σ H' s' ∧IsPart u o∧Q o H') X.xe s
def GV:TO:=fun _ H Q=>Q none H
inductive AJ (Q:(Option Int→Hp→Prop))(x:V)(H1:Hp):Prop where
 | mk (i:_) (_:x=.int i) (_:Q (some i) H1):AJ Q x H1
def Ot (t:TE):TO:=fun σ H Q=>t σ H fun x H1=>AJ Q x H1
section
variable {X:Cx}{e:Expr}{te:TE}{lo hi:Option Expr}{tl th:TO}{pos p2:Pos}
theorem eE:PO X none GV:=by
 intro pins s σ H Q I h
 rw [evalPart_none]
 exact wpAny_pure ⟨none,H,I,.none,h⟩
theorem dD (h:PE X e te):PO X (some e) (Ot te):=by
 intro pins s σ H Q I hw
 rw [evalPart_some]
 refine b9 (h pins s σ H _ I hw) fun u s1 ⟨x,H1,I1,r1,q1⟩=> ?_
 obtain ⟨i,rfl,q⟩:=q1
 obtain ⟨t,rfl⟩:=r1
 exact ⟨some i,H1,I1,.int i t,q⟩
def Wy (X:Cx)(r:V→Option Int→Option Int→Hp→VK→Prop):Prop:=
 ∀(pins:List (Addr×Obj)) (s:Shared) (σ:St) (H:Hp) (x:V) (v vl vu:Value) (lo hi:Option Int) (sl:Addr) (Q:VK),Inv X pins σ H s→RelV x v→s.heap.IsSliceOf sl vl vu .none→IsPart vl lo→IsPart vu hi→r x lo hi H Q→
  ∃T id,typeLookup (.type T) "__getitem__"=pure (some (.builtin id))∧s.TypeIs v T∧wpAny (model X.prog X.w) X.A (getItem v (.ref sl)) (EP X pins σ Q) X.xe s
def tSl (r:V→Option Int→Option Int→Hp→VK→Prop)(te:TE)(tl th:TO):TE:=fun σ H Q=>te σ H fun x H1=>tl σ H1 fun l H2=>th σ H2 fun u H3=>r x l u H3 Q
theorem dj {r:V→Option Int→Option Int→Hp→VK→Prop}(hr:Wy X r)(he:PE X e te)(hl:PO X lo tl)(hu:PO X hi th):PE X (.Subscript e (.Slice lo hi none p2) pos) (tSl r te tl th):=by
 intro pins s σ H Q I h
 refine Subscript_ (b9 (he pins s σ H _ I h) fun v s1 ⟨x,H1,I1,r1,q1⟩=> ?_)
 refine wpAny_Slice (b9 (hl pins s1 σ H1 _ I1 q1) fun vl s2 ⟨l,H2,I2,pl,q2⟩=>b9 (hu pins s2 σ H2 _ I2 q2) fun vu s3 ⟨u,H3,I3,pu,q3⟩=> ?_)
 rw [evalPart_none]
 refine wpAny_pure ?_
 have I4:Inv X pins σ H3 {s3 with heap:=s3.heap.push {cls:=.type "slice",data:=.fields #[vl,vu,.none]}}:=I3.kept (t' :=s3.toks) fun b ob q=>Heap.get?_push_of_some _ q
 obtain ⟨T,id,hT,ht,hg⟩:=hr pins {s3 with heap:=s3.heap.push {cls:=.type "slice",data:=.fields #[vl,vu,.none]}} σ H3 x v vl vu l u s3.heap.objs.size Q I4 r1 (Heap.IsSliceOf.new ..) pl pu q3
 show wpAny (model X.prog X.w) X.A (subscriptTail e (.Slice lo hi none p2) v (.ref s3.heap.objs.size)) (EP X pins σ Q) X.xe {s3 with heap:=s3.heap.push {cls:=.type "slice",data:=.fields #[vl,vu,.none]}}
 exact tail_any (ops:=[.ref s3.heap.objs.size,v]) ht hT hg (by with_unfolding_all rfl)
def fW (xs:List V)(lo hi:Option Int):List V:=(xs.drop (HT.r8 xs.length 0 lo)).take (HT.r8 xs.length xs.length hi - HT.r8 xs.length 0 lo)
theorem r_ (xs:List V)(lo hi:Option Int):(fW xs lo hi).length≤xs.length:=by
 unfold fW
 rw [ae2,agn]
 omega
end
end L2
namespace L2
open PySem PySem.Spec PyProof.Rows
def EU (n:Nat)(i:Int):Option Nat:=if 0≤i then (if i < n then some i.toNat else none) else if -(n:Int)≤i then some (i+n).toNat else none
def fN {α:Type}(xs:List α)(i:Int):Option α:=(EU xs.length i).bind fun j=>xs[j]?
theorem vU {n:Nat}{i:Int}{j:Nat}(h:EU n i=some j):seqIndex? i n=some j∧j < n∧ -(n:Int)≤i∧i < n:=by
 unfold EU at h
 by_cases h0:0≤i
 ·rw [if_pos h0] at h
  by_cases h1:i < n
  ·rw [if_pos h1] at h
   have e:i.toNat=j:=aeY h
   exact ⟨by rw [seqIndex_of h0 h1,e],by omega,by omega,h1⟩
  ·rw [if_neg h1] at h;cases h
 ·rw [if_neg h0] at h
  by_cases h1: -(n:Int)≤i
  ·rw [if_pos h1] at h
   have e:(i+n).toNat=j:=aeY h
   exact ⟨by rw [seqIndex_neg (by omega) h1,e],by omega,h1,by omega⟩
  ·rw [if_neg h1] at h;cases h
theorem p_ {α:Type}{xs:List α}{i:Int}{v:α}(h:fN xs i=some v):∃j,seqIndex? i xs.length=some j∧xs[j]? =some v∧j < xs.length∧ -(xs.length:Int)≤i∧i < xs.length:=by
 unfold fN at h
 cases e:EU xs.length i with
 | none=>rw [e] at h;cases h
 | some j=>
  rw [e] at h
  obtain ⟨h1,h2,h3,h4⟩:=vU e
  exact ⟨j,h1,h,h2,h3,h4⟩
theorem bG {α:Type}{xs:List α}{j:Nat}{v:α}(h:xs[j]? =some v):fN xs (j:Int)=some v:=by
 have hj:j < xs.length:=(be.mp h).1
 have e:EU xs.length (j:Int)=some j:=by
  unfold EU
  rw [if_pos (by omega),if_pos (by omega)];simp
 unfold fN;rw [e];exact h
def GX (b:Expr):Prop:=∀o i,subscripted b false o i=operate [o,i] (getItem o i)
def Ls (X:Cx)(r:R2):Prop:=
 ∀(value slice:Expr) (pins:List (Addr×Obj)) (s:Shared) (σ:St) (H:Hp) (x y:V) (v u:Value) (Q:VK),Inv X pins σ H s→RelV x v→RelV y u→r x y H Q→
  subscripted slice false v u=operate [v,u] (getItem v u)→wpAny (model X.prog X.w) X.A (subscriptTail value slice v u) (EP X pins σ Q) X.xe s
def MtR (X:Cx)(id:String)(r:V→List V→Hp→VK→Prop):Prop:=
 ∀(pins:List (Addr×Obj)) (s:Shared) (σ:St) (H:Hp) (x:V) (xs:List V) (v:Value) (us:List Value) (Q:VK),Inv X pins σ H s→RelV x v→Vals xs us→r x xs H Q→
  wpAny (model X.prog X.w) X.A (call (.builtin id) (v::us)) (EP X pins σ Q) X.xe s
section
variable {X:Cx}{a b:Expr}{ta tb:TE}{pos:Pos}
theorem aY {r:R2}(hr:Ls X r)(ha:PE X a ta)(hb:PE X b tb)(hs:GX b):PE X (.Subscript a b pos) (Ll r ta tb):=by
 intro pins s σ H Q I h
 exact Subscript_ (Lm ha hb I h fun v u s2 x y H2 I2 rx ry q=>hr a b pins s2 σ H2 x y v u Q I2 rx ry q (hs _ _))
inductive GY (K:Frag)(x:V)(y:V)(H:Hp)(Q:VK):Prop where
 | mk (p xs i v:_) (_:x=.ref p) (_:y=.int i) (_:aU K H p xs) (_:fN xs i=some v) (_:Q v H):GY K x y H Q
inductive AK (K:Frag)(x:V)(y:V)(H:Hp)(Q:VK):Prop where
 | mk (p xs i v:_) (_:x=.ref p) (_:y=.int i) (_:bL K H p xs) (_:fN xs i=some v) (_:Q v H):AK K x y H Q
inductive Ou (x:V)(y:V)(H:Hp)(Q:VK):Prop where
 | mk (z i c:_) (_:x=.str z) (_:y=.int i) (_:z.length≤sizeLine) (_:fN z.cps.toList i=some c) (_:Q (.str ⟨#[c]⟩) H):Ou x y H Q
theorem aX:Ls X (GY X.K):=by
 intro value slice pins s σ H x y v u Q I rx ry h hs
 obtain ⟨p,xs,i,z,rfl,rfl,hq,he,q⟩:=h
 cases rx
 obtain ⟨t,rfl⟩:=ry
 obtain ⟨its,r,pl,hz⟩:=I.list hq
 obtain ⟨j,h1,h2,h3,h4,h5⟩:=p_ he
 obtain ⟨w,ew,rN⟩:=r.get h2
 have hl:=r.length
 have hn:=lR
 have fin:EP X pins σ Q w s:=⟨z,H,I,rN,q⟩
 by_cases h0:0≤i
 ·have hj:i.toNat=j:=by
   rw [seqIndex_of h0 h5] at h1
   exact aeY h1
  exact item_listR pl.isList h0 (by omega) (by rw [hj];simpa using ew) fin hs
 ·have hj:(i+(its.toArray.size:Int)).toNat=j:=by
   rw [seqIndex_neg (by omega) h4] at h1
   rw [aeU, ← hl]
   exact aeY h1
  exact subscriptTail_builtinR (x:=w) pl.isList.typeIs slot_list_getitem.lookup
   (wpAny_getItem_list_neg (Q:=fun r s' =>r=w∧EP X pins σ Q r s') pl.isList (by omega) (by rw [aeU] <;> omega) (by omega) (by rw [hj];simpa using ew) ⟨rfl,fin⟩) hs
theorem iE:Ls X (AK X.K):=by
 intro value slice pins s σ H x y v u Q I rx ry h hs
 obtain ⟨p,xs,i,z,rfl,rfl,hq,he,q⟩:=h
 cases rx
 obtain ⟨t,rfl⟩:=ry
 obtain ⟨its,r,pl,hz⟩:=I.tuple hq
 obtain ⟨j,h1,h2,h3,h4,h5⟩:=p_ he
 obtain ⟨w,ew,rN⟩:=r.get h2
 have hl:=r.length
 have hn:=lR
 have fin:EP X pins σ Q w s:=⟨z,H,I,rN,q⟩
 exact subscriptTail_builtinR (x:=w) pl.typeIs slot_tuple_getitem.lookup
  (getItem_tuple (j:=j) (Q:=fun r s' =>r=w∧EP X pins σ Q r s') pl (by omega) (by omega) (by rw [aeU, ← hl];exact h1) (by simpa using ew) ⟨rfl,fin⟩) hs
theorem Lu:Ls X Ou:=by
 intro value slice pins s σ H x y v u Q I rx ry h hs
 obtain ⟨z,i,c,rfl,rfl,hz,he,q⟩:=h
 obtain ⟨t,rfl⟩:=rx
 obtain ⟨t',rfl⟩:=ry
 obtain ⟨j,h1,h2,h3,h4,h5⟩:=p_ he
 have hl:z.cps.toList.length=z.length:=by simp [Str.length]
 rw [hl] at h1 h4 h5
 have hn:=lR
 exact tail_any (typeIs_str s z t) slot_str_getitem.lookup (getItem_str (c:=c) (by
  have e1:decide (i < -(2^63:Int))=false:=decide_eq_false (by omega)
  have e2:decide (i≥2^63)=false:=decide_eq_false (by omega)
  rw [e1,e2,apS]) (by rw [h1];simpa using h2) ⟨.str ⟨#[c]⟩,H,I.tok _,⟨_,rfl⟩,q⟩) hs
theorem uP (its:List Value)(n j:Nat)(u:Value):Obj.mapSeq (·.setIfInBounds j u) {cls:=.type "list",data:=.seq its.toArray n}={cls:=.type "list",data:=.seq (its.set j u).toArray n}:=by
 simp [Obj.mapSeq]
theorem Inv.lst {pins:List (Addr×Obj)}{σ:St}{H:Hp}{s:Shared}{p:Addr}{xs:List V}(I:Inv X pins σ H s)(h:H p=some (.lst xs)):
  ∃(its:List Value) (n:Nat),Vals xs its∧s.heap.get? p=some {cls:=.type "list",data:=.seq its.toArray n}∧xs.length≤sizeLine:=by
 obtain ⟨z,its,n,r,e⟩:=I.bI p _ h
 exact ⟨its,n,r,e,z⟩
theorem Inv.Lv {pins:List (Addr×Obj)}{σ:St}{H:Hp}{s:Shared}{p:Addr}{xs ys:List V}{its its' :List Value}{n n' :Nat}{f:Obj→Obj}(I:Inv X pins σ H s)(h:H p=some (.lst xs))
  (ho:s.heap.get? p=some {cls:=.type "list",data:=.seq its.toArray n}) (hf:f {cls:=.type "list",data:=.seq its.toArray n}={cls:=.type "list",data:=.seq its'.toArray n' }) (r:Vals ys its') (hz:ys.length≤sizeLine) (t:Nat):
  Inv X pins σ (upd H p (.lst ys)) {s with heap:=s.heap.update p f,toks:=t}:=by
 have e:(s.heap.update p f).get? p=some {cls:=.type "list",data:=.seq its'.toArray n' }:=by
  rw [Heap.get?_update_self f ho (by rw [hf] <;> rfl),hf]
 refine I.write (x:=p) (e:=p) (by rw [h];trivial) (.inl rfl) (fun b u hb q=>(Heap.get?_update_other _ _ (ae8 hb)).trans q) ⟨_,e⟩ ?_
 exact ⟨hz,its',n',r,e⟩
inductive J' (o:V)(i:V)(v:V)(H:Hp)(Q:(Hp→Prop)):Prop where
 | mk (p xs k j:_) (_:o=.ref p) (_:i=.int k) (_:H p=some (.lst xs)) (_:EU xs.length k=some j) (_:Q (upd H p (.lst (xs.set j v)))):J' o i v H Q
theorem set_list:N' X J':=by
 intro pins s σ H o i v ov iv u Q I ro ri rv h
 obtain ⟨p,xs,k,j,rfl,rfl,hp,hj,q⟩:=h
 cases ro
 obtain ⟨t,rfl⟩:=ri
 obtain ⟨its,n,r,ho,hz⟩:=I.lst hp
 obtain ⟨h1,h2,h3,h4⟩:=vU hj
 have hl:=r.length
 have hn:=lR
 have I' :Inv X pins σ (upd H p (.lst (xs.set j v))) {s with heap:=s.heap.update p (Obj.mapSeq (·.setIfInBounds j u))}:=
  I.Lv hp ho (uP its n j u) (r.set rv j) (by rw [List.length_set];exact hz) s.toks
 by_cases h0:0≤k
 ·have hk:k.toNat=j:=by
   rw [seqIndex_of h0 h4] at h1
   exact aeY h1
  exact PySem.W.ki_setAt ho h0 (by omega) (by rw [aeU, ← hl];exact h4) (by rw [hk];exact ⟨_,I',q⟩)
 ·have hk:(k+(its.toArray.size:Int)).toNat=j:=by
   rw [seqIndex_neg (by omega) h3] at h1
   rw [aeU, ← hl]
   exact aeY h1
  exact PySem.W.ki_setBack ho (by omega) (by rw [aeU, ← hl];exact h3) (by omega) (by rw [hk];exact ⟨_,I',q⟩)
theorem qa (lo hi:Option Int)(n:Nat):(sliceBounds lo hi none n).1=((HT.r8 n 0 lo:Nat):Int)∧(sliceBounds lo hi none n).2.1=((HT.r8 n n hi:Nat):Int)∧(sliceBounds lo hi none n).2.2=1:=by
 refine ⟨?_,?_,rfl⟩
 ·cases lo with
  | none=>simp [sliceBounds,HT.r8]
  | some i=>
   simp only [sliceBounds,HT.r8,apl,show (1:Int) > 0 by decide,if_true]
   by_cases h:i < 0
   ·simp only [h,if_true] <;> omega
   ·simp only [h,if_false] <;> omega
 ·cases hi with
  | none=>simp [sliceBounds,HT.r8]
  | some i=>
   simp only [sliceBounds,HT.r8,apl,show (1:Int) > 0 by decide,if_true]
   by_cases h:i < 0
   ·simp only [h,if_true] <;> omega
   ·simp only [h,if_false] <;> omega
theorem oj (its:List Value)(lo hi:Option Int):slicePick its.toArray lo hi none=((its.drop (HT.r8 its.length 0 lo)).take (HT.r8 its.length its.length hi - HT.r8 its.length 0 lo)).toArray:=by
 obtain ⟨h1,h2,h3⟩:=qa lo hi its.toArray.size
 unfold slicePick
 rw [h1,h2,h3]
 simp only [sliceRange_one,pick_run,aeU] <;> rfl
inductive Ov (K:Frag)(x:V)(lo:Option Int)(hi:Option Int)(H:Hp)(Q:VK):Prop where
 | mk (a xs:_) (_:x=.ref a) (_:aU K H a xs) (_:∀p,H p=none→Q (.ref p) (upd H p (.lst (fW xs lo hi)))):Ov K x lo hi H Q
theorem eG:Wy X (Ov X.K):=by
 intro pins s σ H x v vl vu lo hi sl Q I rx hs pl pu h
 obtain ⟨a,xs,rfl,hx,q⟩:=h
 cases rx
 obtain ⟨its,r,ht,hz⟩:=I.list hx
 have hlen:=r.length
 refine ⟨"list",_,slot_list_getitem.lookup,ht.isList.typeIs,?_⟩
 refine wpAny_getItem_list_slice ht.isList hs pl pu .none (by simp) ?_ (by rw [aeU] <;> omega)
 rw [oj, ← hlen]
 refine ⟨.ref s.heap.objs.size,_,I.laid (t' :=s.toks) (o:=.lst (fW xs lo hi)) (fun b ob q=>Heap.get?_push_of_some _ q) (aeG _) ?_,rfl,q _ (I.bI.fresh (aeG _))⟩
 exact ⟨ad_ (r_ xs lo hi) hz,_,0,(r.drop (HT.r8 xs.length 0 lo)).take (HT.r8 xs.length xs.length hi - HT.r8 xs.length 0 lo),Heap.get?_push_size _ rfl⟩
def gO:V→Bool
 | .cE=>true
 | .bl _=>true
 | .int _=>true
 | .str _=>true
 | _=>false
def i5:V→V→Bool
 | .cE,.cE=>true
 | .bl a,.bl b=>a==b
 | .bl a,.int b=>(if a then 1 else 0)==b
 | .int a,.bl b=>a==(if b then 1 else 0)
 | .int a,.int b=>a==b
 | .str a,.str b=>a==b
 | _,_=>false
theorem AL {A:Around}{s:Shared}{y x:V}{u v:Value}(ry:RelV y u)(rx:RelV x v)(fy:gO y=true)(fx:gO x=true):SeqAt.EqAt A s u v (i5 y x):=by
 cases y with
 | cE=>
  cases ry
  cases x with
  | cE=>cases rx;exact SeqAt.EqAt.same _
  | bl b=>cases rx;exact SeqAt.EqAt.none_bool b
  | int b=>obtain ⟨t,rfl⟩:=rx;exact SeqAt.EqAt.none_int b t
  | str b=>obtain ⟨t,rfl⟩:=rx;exact SeqAt.EqAt.none_str b t
  | _=>exact absurd (show false=true from fx) aeQ
 | bl a=>
  cases ry
  cases x with
  | cE=>cases rx;exact SeqAt.EqAt.bool_none a
  | bl b=>cases rx;exact SeqAt.EqAt.bool_bool a b
  | int b=>obtain ⟨t,rfl⟩:=rx;exact SeqAt.EqAt.bool_int a b t
  | str b=>obtain ⟨t,rfl⟩:=rx;exact SeqAt.EqAt.bool_str a b t
  | _=>exact absurd (show false=true from fx) aeQ
 | int a=>
  obtain ⟨t',rfl⟩:=ry
  cases x with
  | cE=>cases rx;exact SeqAt.EqAt.int_none a t'
  | bl b=>cases rx;exact SeqAt.EqAt.int_bool a t' b
  | int b=>obtain ⟨t,rfl⟩:=rx;exact SeqAt.EqAt.int_int a t' b t
  | str b=>obtain ⟨t,rfl⟩:=rx;exact SeqAt.EqAt.int_str a t' b t
  | _=>exact absurd (show false=true from fx) aeQ
 | str a=>
  obtain ⟨t',rfl⟩:=ry
  cases x with
  | cE=>cases rx;exact SeqAt.EqAt.str_none a t'
  | bl b=>cases rx;exact SeqAt.EqAt.str_bool a t' b
  | int b=>obtain ⟨t,rfl⟩:=rx;exact SeqAt.EqAt.str_int a t' b t
  | str b=>obtain ⟨t,rfl⟩:=rx;exact SeqAt.EqAt.str_str a t' b t
  | _=>exact absurd (show false=true from fx) aeQ
 | _=>exact absurd (show false=true from fy) aeQ
def GZ (x:V)(u:Value):Bool:=match u with
 | .none=>i5 .cE x
 | .bool b=>i5 (.bl b) x
 | .int i _=>i5 (.int i) x
 | .str z _=>i5 (.str z) x
 | _=>false
theorem AM {x y:V}{u:Value}(r:RelV y u)(f:gO y=true):GZ x u=i5 y x:=by
 cases y with
 | cE=>cases r;rfl
 | bl b=>cases r;rfl
 | int i=>obtain ⟨t,rfl⟩:=r;rfl
 | str z=>obtain ⟨t,rfl⟩:=r;rfl
 | _=>exact absurd (show false=true from f) aeQ
theorem qb {x:V}:∀{xs:List V} {us:List Value},Vals xs us→xs.all gO=true→us.any (GZ x)=xs.any fun y=>i5 y x
 | _,_,.nil,_=>rfl
 | y::xs,u::us,.cons r t,f=>by
  rw [agq,afE] at f
  rw [af_,af_,AM r f.1,qb t f.2]
theorem lS {A:Around}{s:Shared}{x:V}{v:Value}(rx:RelV x v)(fx:gO x=true):∀{xs:List V} {us:List Value},Vals xs us→xs.all gO=true→∀u∈us,SeqAt.EqAt A s u v (GZ x u)
 | _,_,.nil,_=>fun u hu=>by cases hu
 | y::xs,u::us,.cons r t,f=>fun u' hu=>by
  rw [agq,afE] at f
  rcases ae1.mp hu with rfl | hu
  ·rw [AM r f.1];exact AL r rx f.1 fx
  ·exact lS rx fx t f.2 u' hu
def Lw (x:V)(xs:List V):Bool:=xs.any fun y=>i5 y x
inductive rIn (K:Frag)(neg:Bool)(x:V)(y:V)(H:Hp)(Q:VK):Prop where
 | mk (p xs:_) (_:y=.ref p) (_:(aU K H p xs∨bL K H p xs)) (_:gO x=true) (_:xs.all gO=true) (_:Q (.bl (if neg then !Lw x xs else Lw x xs)) H):rIn K neg x y H Q
theorem i6:ib X (compareOp .NotIn) (rIn X.K true):=by
 intro pins s σ H x y v u Q I rx ry h
 obtain ⟨p,xs,rfl,hq,fx,fs,q⟩:=h
 cases ry
 rcases hq with hq | hq
 ·obtain ⟨its,r,pl,hz⟩:=I.list hq
  refine SeqAt.notIn_listAt (GZ x) pl.isList (fun w hw=>lS rx fx r fs w (by simpa using hw)) ⟨.bl _,H,I,rfl,?_⟩
  rw [show its.toArray.any (GZ x)=its.any (GZ x) by simp,qb r fs]
  exact q
 ·obtain ⟨its,r,pl,hz⟩:=I.tuple hq
  refine SeqAt.notIn_tupleAt (GZ x) pl (fun w hw=>lS rx fx r fs w (by simpa using hw)) ⟨.bl _,H,I,rfl,?_⟩
  rw [show its.toArray.any (GZ x)=its.any (GZ x) by simp,qb r fs]
  exact q
theorem aJ:eg X (.builtin "len") (fun xs H Q=>∃p ys,xs=[.ref p]∧(aU X.K H p ys∨bL X.K H p ys)∧Q (.int ys.length) H):=by
 intro pins s σ H xs us Q I r h
 obtain ⟨p,ys,rfl,hq,q⟩:=h
 obtain ⟨u,rfl,rx⟩:=vals1 r
 cases rx
 have hn:=lR
 rcases hq with hq | hq
 ·obtain ⟨its,r',pl,hz⟩:=I.list hq
  have hlen:=r'.length
  exact Calls.call_len_list pl.isList (by simp only [aeU] <;> omega) ⟨.int ys.length,H,I.tok _,⟨s.toks+1,by rw [aeU,hlen]⟩,q⟩
 ·obtain ⟨its,r',pl,hz⟩:=I.tuple hq
  have hlen:=r'.length
  exact len_tuple pl (by simp only [aeU] <;> omega) ⟨.int ys.length,H,I.tok _,⟨s.toks+1,by rw [aeU,hlen]⟩,q⟩
def tyV (K:Frag)(T:String)(x:V)(H:Hp):Prop:=match x with
 | .str _=>T="str"
 | .int _=>T="int"
 | .ref p=>(T="list"∧∃xs,aU K H p xs)∨(T="tuple"∧∃o,K.lookup p=some o∧o.cls=.type "tuple"∧o.dict=none)∨
   (T="dict"∧((∃kvs,H p=some (.dK kvs))∨∃kvs,H p=some (.dT kvs)))∨(T="set"∧∃S n,H p=some (.set S n))
 | _=>False
theorem AN {pins:List (Addr×Obj)}{σ:St}{H:Hp}{s:Shared}{T:String}{x:V}{v:Value}(I:Inv X pins σ H s)(r:RelV x v)(ty:tyV X.K T x H):
  s.TypeIs v T∧∀a,v=.ref a→∃ob,s.heap.get? a=some ob∧ob.dict=none:=by
 cases x with
 | str z=>
  obtain ⟨t,rfl⟩:=r
  cases (show T="str" from ty)
  exact ⟨typeIs_str s z t,fun _ e=>nomatch e⟩
 | int i=>
  obtain ⟨t,rfl⟩:=r
  cases (show T="int" from ty)
  exact ⟨typeIs_int s i t,fun _ e=>nomatch e⟩
 | ref p=>
  cases r
  rcases ty with ⟨rfl,xs,hq⟩ | ⟨rfl,o,hk,hc,hd⟩ | ⟨rfl,hk⟩ | ⟨rfl,S,n,hk⟩
  ·obtain ⟨its,_,pl,_⟩:=I.list hq
   refine ⟨pl.isList.typeIs,fun a e=> ?_⟩
   cases e
   obtain ⟨o,n,e,c,hd,_⟩:=pl
   exact ⟨o,e,hd⟩
  ·refine ⟨⟨o,I.iB p o hk,hc⟩,fun a e=> ?_⟩
   cases e
   exact ⟨o,I.iB _ o hk,hd⟩
  ·have z:∃o,s.heap.get? p=some o∧o.ExactDict:=by
    rcases hk with ⟨kvs,hk⟩ | ⟨kvs,hk⟩
    ·obtain ⟨_,_,_,_,o,_,_,e,ex,_⟩:=I.bI p _ hk
     exact ⟨o,e,ex⟩
    ·obtain ⟨_,_,_,_,o,_,_,e,ex,_⟩:=I.bI p _ hk
     exact ⟨o,e,ex⟩
   obtain ⟨o,e,ex⟩:=z
   refine ⟨⟨o,e,ex.1⟩,fun a e2=> ?_⟩
   cases e2
   exact ⟨o,e,ex.2.1⟩
  ·obtain ⟨o,_,_,_,e,ex,_⟩:=I.bI p _ hk
   refine ⟨⟨o,e,ex.1⟩,fun a e2=> ?_⟩
   cases e2
   exact ⟨o,e,ex.2.1⟩
 | _=>exact False.elim ty
def tBM (K:Frag)(T:String)(r:V→List V→Hp→VK→Prop)(to:TE)(t:TA):TE:=fun σ H Q=>to σ H fun x H1=>tyV K T x H1∧t σ H1 fun xs H2=>r x xs H2 Q
variable {o e:Expr}{es:List Expr}{to:TE}{t:TA}{name:Str}{apos dJ:Pos}{T id:String}{r:V→List V→Hp→VK→Prop}
theorem i7 (pa:PlainAttrs T)(slot:Slot T name id)(hty:typeOf (.builtin id)=pure (.type "method_descriptor"))(hm:MtR X id r)(ho:PE X o to)(ha:PA X (e::es) t)
  (lV:attributeBase o name X.env (eval o X.env)=eval o X.env:=by rfl)
  (Wz:((backTo dJ (starEach (e::es) X.env)).all (fun x=> !x.1) && (backToKw dJ (keywordEach [] X.env)).all (fun x=>x.1.isSome)
   && decide ((e::es).length+([]:List Keyword).length+(if ([]:List Keyword).isEmpty then 0 else 1) < 30))=true:=by rfl)
  (lW:(apos.endLine==dJ.line)=true:=by rfl) (hs:starEach (e::es) X.env=(false,eval e X.env)::starEach es X.env:=by rfl) (Ly:(backTo dJ (starEach es X.env)).any (·.1)=false:=by rfl):
  PE X (.Call (.Attribute o name apos) (e::es) [] dJ) (tBM X.K T r to t):=by
 intro pins s σ H Q I h
 refine wpAny_Call_method_late lV Wz lW rfl (b9 (ho pins s σ H _ I h) fun v s1 ⟨x,H1,I1,r1,ty,q1⟩=> ?_)
 obtain ⟨h1,h2⟩:=AN I1 r1 ty
 refine ⟨T,id,pa,slot,hty,h1,h2,?_⟩
 have hA:=ha dJ pins s1 σ H1 _ I1 q1
 rw [hs] at hA ⊢
 refine Calls.callWith_builtin (by show (false || (backTo dJ (starEach es X.env)).any (·.1))=false;rw [Ly] <;> rfl) (Calls.evalArgs_plain ?_)
 exact b9 hA fun us s2 ⟨vs,H2,I2,r2,q2⟩=>hm pins s2 σ H2 x vs v us Q I2 r1 r2 q2
end
end L2
namespace L2
open PySem PySem.Spec PyProof.Rows
def MtM (X:Cx)(id:String)(r:V→List V→Hp→VK→Prop):Prop:=
 ∀(pins:List (Addr×Obj)) (s:Shared) (σ:St) (H:Hp) (x:V) (xs:List V) (v:Value) (us:List Value) (Q:VK),Inv X pins σ H s→RelV x v→Vals xs us→r x xs H Q→
  wpAny (model X.prog X.w) X.A (call (.builtin id) (v::us)) (EP X pins σ Q) X.xe s
theorem Vals.one:∀{x:V} {us:List Value},Vals [x] us→∃u,us=[u]∧RelV x u
 | _,_,.cons r .nil=>⟨_,rfl,r⟩
theorem Vals.rep {xs:List V}{us:List Value}(h:Vals xs us):∀k:Nat,Vals (aeW k xs).flatten (aeW k us).flatten
 | 0=>.nil
 | k+1=>by
  rw [afD,afD,agc,agc]
  exact Vals.append h (Vals.rep h k)
theorem foldl_rep (its:List Value):∀(k:Nat) (acc:List Value),
  apD (fun x1 x2=>x1++x2) acc.toArray (aeW k its.toArray)=(acc++(aeW k its).flatten).toArray
 | 0,acc=>by simp
 | k+1,acc=>by
  have e:acc.toArray++its.toArray=(acc++its).toArray:=by simp
  have e2:(acc++its)++(aeW k its).flatten=acc++(aeW (k+1) its).flatten:=by
   rw [afD,agc,af4]
  rw [← e2, ← foldl_rep its k (acc++its), ← e,afD,List.foldl_cons]
section
variable {X:Cx}{pins:List (Addr×Obj)}{σ:St}{H:Hp}{s:Shared}{l b:Addr}{xs ys zs:List V}
theorem Inv.Ow {its its' :List Value}{n:Nat}{f:Array Value→Array Value}{t' :Nat}(I:Inv X pins σ H s)(hH:H l=some (.lst xs))
  (e:s.heap.get? l=some {cls:=.type "list",data:=.seq its.toArray n}) (hf:f its.toArray=its'.toArray) (hv:Vals ys its') (hz:ys.length≤sizeLine):
  Inv X pins σ (upd H l (.lst ys)) {s with heap:=s.heap.update l (Obj.mapSeq f),toks:=t' }:=by
 have q:=PySem.IsL.update e f
 rw [hf] at q
 refine I.write (x:=l) (e:=l) (by rw [hH];exact trivial) (.inl rfl) (fun b' u hb hu=>(Heap.get?_update_other s.heap (Obj.mapSeq f) (ae8 hb)).trans hu) ⟨_,q⟩ ?_
 exact ⟨hz,its',_,hv,q⟩
theorem Inv.Lz {its:List Value}{t' :Nat}(I:Inv X pins σ H s)(hv:Vals ys its)(hz:ys.length≤sizeLine):
  Inv X pins σ (upd H s.heap.objs.size (.lst ys)) {s with heap:=s.heap.push {cls:=.type "list",data:=.seq its.toArray},toks:=t' }:=
 I.laid (fun _ _ q=>Heap.get?_push_of_some _ q) (aeG _) ⟨hz,its,0,hv,Heap.get?_push_size _ rfl⟩
theorem Inv.fresh (I:Inv X pins σ H s):H s.heap.objs.size=none:=I.bI.fresh (aeG _)
theorem Inv.i8 (I:Inv X pins σ H s)(hH:H l=some (.lst xs)):xs.length≤sizeLine∧∃(its:List Value) (n:Nat),Vals xs its∧xs.length=its.length∧s.heap.get? l=some {cls:=.type "list",data:=.seq its.toArray n}:=by
 obtain ⟨z,its,n,r,e⟩:=I.bI l _ hH
 exact ⟨z,its,n,r,r.length,e⟩
theorem se {n:Nat}(h:n≤sizeLine):Builtin.List.listTooLong n=false:=by
 unfold Builtin.List.listTooLong
 exact decide_eq_false (by omega)
end
section
variable {X:Cx}
inductive vV (x:V)(vs:List V)(H:Hp)(Q:VK):Prop where
 | mk (l xs y:_) (_:x=.ref l) (_:vs=[y]) (_:H l=some (.lst xs)) (_:xs.length < sizeLine) (_:Q .cE (upd H l (.lst (xs++[y])))):vV x vs H Q
theorem cW:MtM X "list.append" vV:=by
 intro pins s σ H x vs v us Q I rx rv h
 obtain ⟨l,xs,y,rfl,rfl,hH,hz,q⟩:=h
 cases rx
 obtain ⟨u,rfl,ru⟩:=rv.one
 obtain ⟨z,its,n,r,hl,e⟩:=I.i8 hH
 refine call_meets F.slot_list_append ⟨_,e,rfl⟩ F.entry_list_append (F.args_list_append_2 _ _) (PySem.list_append l its.toArray n u (by rw [aeU];omega)) ⟨e,?_⟩
 refine ⟨.cE,_,I.Ow (its' :=its++[u]) hH e (by simp) (r.append (.cons ru .nil)) ?_,rfl,q⟩
 rw [aeO,aoO]
 omega
inductive Ox (x:V)(y:V)(H:Hp)(Q:VK):Prop where
 | mk (l b xs zs:_) (_:x=.ref l) (_:y=.ref b) (_:H l=some (.lst xs)) (_:H b=some (.lst zs)) (_:xs.length+zs.length≤sizeLine) (_:∀p,H p=none→Q (.ref p) (upd H p (.lst (xs++zs)))):Ox x y H Q
theorem iF:ib X (binaryOp .Add) Ox:=by
 intro pins s σ H x y v u Q I rx ry h
 obtain ⟨l,b,xs,zs,rfl,rfl,hH,hB,hz,q⟩:=h
 cases rx
 cases ry
 obtain ⟨z,its,n,r,hl,e⟩:=I.i8 hH
 obtain ⟨z2,dN,n2,r2,uQ,e2⟩:=I.i8 hB
 refine PySem.P.add_list e e2 ?_ (by rw [aeU,aeU];omega)
 have ea:its.toArray++dN.toArray=(its++dN).toArray:=by simp
 rw [ea]
 exact ⟨.ref _,_,I.Lz (t' :=s.toks) (r.append r2) (by rw [aeO];omega),rfl,q _ I.fresh⟩
inductive Oy (x:V)(y:V)(H:Hp)(Q:VK):Prop where
 | mk (l k xs:_) (_:x=.ref l) (_:y=.int k) (_:H l=some (.lst xs)) (_: -(2^63)≤k) (_:k < 2^63) (_:xs.length*k.toNat≤sizeLine) (_:∀p,H p=none→Q (.ref p) (upd H p (.lst (aeW k.toNat xs).flatten))):Oy x y H Q
theorem len_rep {α:Type}(xs:List α)(k:Nat):(aeW k xs).flatten.length=k*xs.length:=by
 induction k with
 | zero=>simp
 | succ k ih=>rw [afD,agc,aeO,ih,Nat.succ_mul,aoF]
theorem AO:ib X (binaryOp .Mult) Oy:=by
 intro pins s σ H x y v u Q I rx ry h
 obtain ⟨l,k,xs,rfl,rfl,hH,h1,h2,hz,q⟩:=h
 cases rx
 obtain ⟨t,rfl⟩:=ry
 obtain ⟨z,its,n,r,hl,e⟩:=I.i8 hH
 have hlen:its.toArray.size*k.toNat≤sizeLine:=by rw [aeU, ← hl];exact hz
 have WA:¬ its.toArray.size*k.toNat > (2^63 - 1) / 8:=by
  have:(sizeLine:Nat)≤(2^63 - 1) / 8:=by decide
  omega
 have WC:¬ (!Builtin.List.listFitsIndex k)=true:=by
  rw [fitsIndex_both h1 h2]
  exact aeQ
 have AQ:¬ Builtin.List.listTooLong (its.toArray.size*k.toNat)=true:=by
  rw [se hlen]
  exact aeQ
 have WD:apD (fun x1 x2=>x1++x2) #[] (aeW (if its.toArray.isEmpty=true then 0 else k.toNat) its.toArray)=(aeW k.toNat its).flatten.toArray:=by
  have f0:∀m:Nat,apD (fun x1 x2=>x1++x2) #[] (aeW m its.toArray)=(aeW m its).flatten.toArray:=fun m=>by
   have:=foldl_rep its m []
   rw [afH] at this
   exact this
  rw [f0]
  cases its with
  | nil=>simp
  | cons a r' =>rw [if_neg (by simp)]
 refine wpAny_binaryOp_repeat_ref (T:="list") (U:="int") (by decide) ⟨_,e,rfl⟩ (fun s' =>typeIs_int s' k t) noFill_list_mul F.fills_int_mul F.slot_int_rmul repeat_list F.slot_int_index.lookup
  (call_meets F.slot_int_rmul (typeIs_int s k t) F.entry_int_rmul (F.args_int_rmul_2 _ _) (int___rmul___int_list k t l its.toArray n)
   ⟨e,rfl,⟨_,e,rfl⟩,call_meets F.slot_list_mul ⟨_,e,rfl⟩ F.entry_list_mul (F.args_list_mul_2 _ _) (AutoListH.list___mul___list_int_3 l its.toArray n k t WC WA AQ) ⟨e,?_⟩⟩)
 rw [WD]
 exact ⟨.ref _,_,I.Lz (t' :=s.toks) (r.rep k.toNat) (by rw [len_rep,agx];exact hz),rfl,q _ I.fresh⟩
end
section
variable {prog:Program}{w:World}{A:Around}{E:Value→Shared→Prop}{s:Shared}
set_option maxRecDepth 100000 in
end
section
variable {X:Cx}
end
end L2
namespace Att
open PySem PySem.W PySem.Calls PyProof.Rows
theorem kI {P:Params}{h:Heap}:∀(ns:List Int) (vs:List Value),WellAll P h vs (ns.map WData.int)→IntsAre vs ns:=by
 intro ns
 induction ns with
 | nil=>
  intro vs w
  rw [afh] at w
  cases w
  exact .nil
 | cons n ns ih=>
  intro vs w
  rw [ac_] at w
  cases w with
  | cons a b=>
   cases a
   exact .cons _ _ (ih _ b)
theorem xy {l:OpenLaw}{n:Nat}(hn:l.most=some n){P:Params}{h:Heap}{args:List WData}{vals:List Value}
  (G_:l.row.toRowW.claim.pre args=true) (WE:WellAll P h vals args):
  ∃a vs ns,vals=[Value.ref a]∧args=[WData.list (ns.map WData.int)]∧h.get? a=some {cls:=.type "list",data:=.seq vs.toArray}∧IntsAre vs ns∧ns.length≤n:=by
 have hsh:WShape.hasAll [] args [.list .int]=true:=(pre_splitW G_).1
 have hc:l.pre.holds [] {args:=args}=true:=(pre_splitW G_).2
 obtain ⟨d,r,rfl,h1,h2⟩:=hasAllW_cons hsh
 obtain rfl:=hasAllW_nil h2
 obtain ⟨xs,rfl,h3⟩:=hasW_list h1
 obtain ⟨ns,rfl⟩:=items_int h3
 have hlen:ns.length≤n:=by
  unfold OpenLaw.pre at hc
  have h4:(WTm.not (.lt (.lit (.int (n:Int))) (.len (.arg 0)))).holds [] {args:=[.list (ns.map .int)]}=true:=by
   have h4:=(holds_andW hc).1
   rw [hn] at h4
   exact h4
  have h5:=condW_of h4 (w_not (w_lt w_lit (w_len_list (w_arg rfl))))
  rw [aa_] at h5
  refine am_ fun q=> ?_
  have q' :(n:Int) < ((ns.length:Nat):Int):=by omega
  first
   | (rw [decide_eq_true q'] at h5;exact absurd h5 (by decide))
   | (simp at h5;omega)
 cases WE with
 | cons w1 w2=>
  cases w2
  cases w1 with
  | list ho AR=>exact ⟨_,_,ns,rfl,rfl,ho,kI ns _ AR,hlen⟩
theorem xA (l:OpenLaw)(args:List WData):l.row.toRowW.claim.post args (.bool true) args=true:=
 postW_of (r:=l.row.toRowW) (X:=(true==true))
  (show WShape.has [] (.bool true) .bool=true by first | rfl | decide | simp [WShape.has,WShape.arms,WShape.armsAll])
  (show (WTm.eq .res (.lit (.bool true))).value [] {args:=args,res:=some (.bool true),after:=args}=some (.bool (true==true)) from w_eq_bool (w_res rfl) w_lit) rfl
section
variable {prog:Program}{w:World}{A:Around}{E:Value→Shared→Prop}{s:Shared}{K:Frag}
end
end Att
namespace L2
open PySem PySem.Spec PyProof.Rows
theorem oM:∀{vs:List Value} {ns:List Int},IntsAre vs ns→Vals (ns.map V.int) vs
 | _,_,.nil=>.nil
 | _,_,.cons n t h=>.cons ⟨t,rfl⟩ (oM h)
def Oz (H:Hp):Prop:=∀b,H b=none∨∃o xs,H b=some (.fU o (.lst xs))
theorem AS {P:Program}{w:World}{K:Frag}{mg mb:Str→Option Value}{CX:jD}{k:Nat}{fa a:Addr}{fd:FuncData}{x:Str}{sp:Sp}{s₁:Shared}{vs:List Value}{ns:List Int}
  (KX:K.In s₁.heap) (hns:s₁.heap.Ns mainGlobals mg) (hb:s₁.heap.Ns builtinsNs mb) (hbb:∀x:Str,x≠ "__name__"→mb x=bootBuiltins x) (WG:s₁.heap.NoLimit) (G':s₁.heap.NoSeer) (hg:s₁.gens= #[])
  (ha:s₁.heap.get? a=some {cls:=.type "list",data:=.seq vs.toArray}) (hi:IntsAre vs ns) (hl:ns.length≤sizeLine) (hr:cy k callerA)
  (F:∀base:Heap,K.In base→base.Ns mainGlobals mg→cM P w K mg base CX k fa fd [x] sp) (OA:∀(s:Shared) (u:Value),BindsTo s fd ⟨[u],[]⟩ [(x,u)])
  (uv:∀H:Hp,Oz H→aU K H a (ns.map V.int)→sp [.ref a] H (fun v _=>v=.bl true) fun _ _ _=>False)
  (hCX:∀H e s',CX [] H s₁ (fun _ _ _=>False) e s' →False):
  codeAny (model P w) callerA (.call (.ref fa) ⟨[.ref a],[]⟩) (fun r s' =>r=.ok (.ret (.bool true))∧OldK s₁.heap s'.heap∧s'.os=s₁.os∧AllBare s'.gens) s₁:=by
 have rv:=oM hi
 have WH:=hi.length
 have core:∀H:Hp,Oz H→aU K H a (ns.map V.int)→iu P w H s₁.heap→(∀b,H b≠none→b=a)→(H a≠none→K.lookup a=none)→
   codeAny (model P w) callerA (.call (.ref fa) ⟨[.ref a],[]⟩) (fun r s' =>r=.ok (.ret (.bool true))∧OldK s₁.heap s'.heap∧s'.os=s₁.os∧AllBare s'.gens) s₁:=by
  intro H hO hS bI hA hK
  have qc:∀{b:Addr} {o:Obj},s₁.heap.get? b=some o→H b=none→(pQ s₁.heap H).get? b=some o:=fun e n=>zO e n
  have Oo:∀{b:Addr} {o:Obj} {es:Array DictEntry} {ep:Nat},s₁.heap.get? b=some o→o.data=.dict es ep→H b=none:=fun {b o es ep} e d=>by
   cases q:H b with
   | none=>rfl
   | some u=>
    have e' :b=a:=hA b (by rw [q];simp)
    subst e'
    rw [ha] at e;cases e
    have d' :Data.seq vs.toArray _=Data.dict es ep:=d
    cases d'
  have Ka:∀{b:Addr} {m:Str→Option Value},s₁.heap.Ns b m→(pQ s₁.heap H).Ns b m:=fun {b m} ⟨o,es,ep,e,d,r⟩=>⟨o,es,ep,qc e (Oo e d),d,r⟩
  have hKb:K.In (pQ s₁.heap H):=fun b o e=>qc (KX b o e) (by
   cases q:H b with
   | none=>rfl
   | some u=>
    have e' :b=a:=hA b (by rw [q];simp)
    subst e'
    rw [hK (by rw [q];simp)] at e;cases e)
  have hM:Mod K mg (pQ s₁.heap H):=⟨hKb,Ka hns,⟨mb,Ka hb,hbb⟩,let ⟨mc,h1,h2⟩:=WG;⟨mc,Ka h1,h2⟩,
   ⟨let ⟨mc,h1,h2⟩:=G'.statics;⟨mc,Ka h1,h2⟩,let ⟨mc,h1,h2⟩:=G'.mods;⟨mc,Ka h1,h2⟩,let ⟨mc,h1,h2⟩:=G'.imp;⟨mc,Ka h1,h2⟩,
    let ⟨mg',bm,ob,h1,h2,h3,h4,h5⟩:=G'.main;⟨mg',bm,ob,Ka h1,h2,qc h3 (by
     cases q:H bm with
     | none=>rfl
     | some u=>
      have e' :bm=a:=hA bm (by rw [q];simp)
      subst e'
      rw [ha] at h3
      cases h3
      have h4' :Value.type "list"=Value.type "module":=h4
      injection h4' with e9
      exact absurd e9 (by decide)),h4,h5⟩⟩⟩
  have e0:uO P w K mg (pQ s₁.heap H) callerA [] s₁ H:=⟨rfl,hM,fun b o e=>FT e,ao' (xj _ _),trivial,fun b hb=>absurd (show b∈([]:List Addr) from hb) (by simp),bI,.of_eq hg⟩
  refine codeAny_mono ((F _ hKb (Ka hns)).run callerA [] s₁ H ⟨[.ref a],[]⟩ [.ref a] [.ref a] _ _ hr e0 (OA s₁ (.ref a)) (.cons rfl .nil) (uv H hO hS)) fun r s' h=> ?_
  cases r with
  | error e=>exact (hCX H e s' h).elim
  | ok fl=>
   cases fl with
   | next=>exact False.elim h
   | brk=>exact False.elim h
   | cont=>exact False.elim h
   | ret u=>
    obtain ⟨v,H',os,bare,un,WI,r',q⟩:=h
    have q' :v=.bl true:=q
    subst q'
    obtain rfl:u=Value.bool true:=r'
    refine ⟨rfl,OldK.of_keep fun b o e=> ?_,os,bare⟩
    cases q:H b with
    | none=>exact un.keep b o e q (by intro z;exact absurd (show b∈([]:List Addr) from z) (by simp)) (by simp)
    | some u=>
     rcases hO b with z | ⟨ob,xs,z⟩
     ·rw [q] at z;cases z
     ·have z2:=un.lK b ob _ z
      obtain ⟨e1,_⟩:=bI b _ z
      obtain ⟨e2,_⟩:=WI b _ z2
      rw [e] at e1;cases e1
      exact e2
 cases hk:K.lookup a with
 | some o=>
  have e:=KX a o hk
  rw [ha] at e
  cases e
  refine core (fun _=>none) (fun _=>.inl rfl) (.inr ⟨_,vs.toArray,_,hk,rfl,rfl,rfl,by rw [aeU,WH];exact hl,by simpa using rv⟩) (fun b u z=>by have z' :(none:Option HO)=some u:=z;cases z') (fun b z=>absurd rfl z) fun z=>absurd rfl z
 | none=>
  refine core (fun b=>if b=a then some (.fU {cls:=.type "list",data:=.seq vs.toArray} (.lst (ns.map V.int))) else none) (fun b=> ?_) (.inl (.inr ⟨{cls:=.type "list",data:=.seq vs.toArray},if_pos rfl⟩)) (fun b u z=> ?_) (fun b z=> ?_) fun _=>hk
  ·by_cases hb:b=a
   ·exact .inr ⟨_,_,if_pos hb⟩
   ·exact .inl (if_neg hb)
  ·by_cases hb:b=a
   ·have z' :=(if_pos hb).symm.trans z
    cases z'
    subst hb
    exact ⟨ha,by rw [aa_];exact hl,vs,_,rv,ha⟩
   ·have z' :=(if_neg hb).symm.trans z
    cases z'
  ·by_cases hb:b=a
   ·exact hb
   ·exact absurd (if_neg hb) z
end L2
namespace L2
open PySem PySem.Spec PyProof.Rows
abbrev KOf {K:Frag}{h:Heap}(_:K.In h):Frag:=K
end L2
namespace L2
open PySem PySem.Spec PyProof.Rows
def inClass (s:Stmt)(j:Nat):Stmt:=match s with
 | .ClassDef _ _ _ body _ _ _ _ _ _ _=>body.getD j (.Pass ⟨0,0,0,0⟩)
 | _=>.Pass ⟨0,0,0,0⟩
def aD (s:Stmt):Arguments:=match s with
 | .FunctionDef _ a _ _ _ _ _ _ _ _=>a
 | _=>{posonlyargs:=[],args:=[],vararg:=none,kwonlyargs:=[],kw_defaults:=[],kwarg:=none,defaults:=[]}
def ay (s:Stmt):List Stmt:=match s with
 | .FunctionDef _ _ b _ _ _ _ _ _ _=>b
 | _=>[]
def ag (s:Stmt):Scope:=match s with
 | .FunctionDef _ _ _ _ _ _ sc _ _ _=>sc
 | _=>{kind:=.function,names:=[],isGenerator:=false,isCoroutine:=false}
abbrev E0:XK:=fun _ _ _=>False
structure nV (K:Frag)(x qual:Str)(st:Stmt)(f:Addr)(fd:FuncData):Prop where
 ex:∃(oc:Value) (od:Option Addr) (kV doc pm:Value) (an:Option Addr) (bF ct:Value) (nR:Array (Option Value)),
  fd=fnOf x qual (aD st) (ay st) (ag st) .none kV doc pm an bF ct∧K.lookup f=some ⟨oc,od,.func fd,nR⟩∧codeIn K bF qual=true
 kp:keepIn K (.ref f)=true
section
variable {P:Program}{w:World}{K:Frag}{mg:Str→Option Value}{base:Heap}
theorem nV.binds {x qual:Str}{st:Stmt}{f:Addr}{fd:FuncData}{ps:List Str}(F:nV K x qual st f fd)
  (h:∀(kV doc pm:Value) (an:Option Addr) (bF ct:Value) (us:List Value),us.length=ps.length→bindArgs (fnOf x qual (aD st) (ay st) (ag st) .none kV doc pm an bF ct) ⟨us,[]⟩=pure (ps.zip us)):Binds K fd ps []:=by
 obtain ⟨oc,od,kV,doc,pm,an,bF,ct,nR,rfl,lk,og⟩:=F.ex
 exact .all (h kV doc pm an bF ct)
theorem c8 {x qual:Str}{st:Stmt}{f:Addr}{oc:Value}{od an:Option Addr}{nR:Array (Option Value)}{kV doc pm bF ct:Value}(l:K.lookup f=some ⟨oc,od,.func (fnOf x qual (aD st) (ay st) (ag st) .none kV doc pm an bF ct),nR⟩)
  (c:codeIn K bF qual=true) (k:keepIn K (.ref f)=true):nV K x qual st f (fnOf x qual (aD st) (ay st) (ag st) .none kV doc pm an bF ct):=⟨⟨oc,od,kV,doc,pm,an,bF,ct,nR,rfl,l,c⟩,k⟩
end
theorem bU {A:Around}{k:Nat}(hr:cy k A):A.units+1 < cLine:=aeJ (Nat.add_le_add_left (by decide:1≤64) _) hr.units
section
variable {X:Cx}
theorem pv (i:Nat){x:Str}{pos:Pos}(hN:X.N[i]? =some x:=by rfl)(hv:V' X.env.scope x:=by first | exact ab_ rfl | exact aff (ab_ rfl) | exact aff (aff rfl))(hd:(x==("__debug__":Str))=false:=by decide)
  (og:(x==("__classdict__":Str))=false:=by decide):PE X (.Name x pos) (FZ i):=Lc hN hv hd og
end
theorem LA {A B:Prop}(h:B):if false=true then A else B:=by
 rw [if_neg aeQ]
 exact h
theorem bf {c A B:Prop}[Decidable c](h1:c→A)(h2:¬ c→B):if c then A else B:=by
 by_cases h:c
 ·rw [if_pos h]
  exact h1 h
 ·rw [if_neg h]
  exact h2 h
theorem AU {c A B:Prop}[Decidable c](hc:c)(h:B):if (!decide c)=true then A else B:=by
 rw [decide_eq_true hc]
 exact LA h
def av (H H' :Hp):Prop:=∀b o,H b=some o→H' b=some o
theorem av.refl (H:Hp):av H H:=fun _ _ h=>h
theorem av.trans {H H1 H2:Hp}(a:av H H1)(b:av H1 H2):av H H2:=fun c o h=>b c o (a c o h)
theorem av.free {H H' :Hp}(e:av H H'){l:Addr}(h:H' l=ap4):H l=ap4:=by
 cases q:H l with
 | none=>rfl
 | some o=>
  rw [e l o q] at h
  cases h
theorem av.seq {K:Frag}{H H' :Hp}{a:Addr}{xs:List V}(e:av H H')(h:aU K H a xs):aU K H' a xs:=by
 rcases h with (h | ⟨o,h⟩) | h
 ·exact .inl (.inl (e _ _ h))
 ·exact .inl (.inr ⟨o,e _ _ h⟩)
 ·exact .inr h
end L2
namespace Ty
def gz (t b:Int):Int:=(afi t b:Nat)
def sg (t b:Int):Int:=if b < 0 then -gz t b else gz t b
def low (t b:Int):Int×Int:=(t.fdiv (sg t b),b.fdiv (sg t b))
theorem sf (a b:Int):afi b (a.fmod b)=afi a b:=by
 rw [apa,Int.gcd_sub_mul_left_right,Int.gcd_comm]
theorem oN {a b:Int}(h:b≠0):(a.fmod b).natAbs < b.natAbs:=by
 rcases ai_ b 0 with q | q | q
 ·have h1:(-a).fmod (-b)= -(a.fmod b):=by
   rw [apa,apa,Int.neg_fdiv_neg,Int.neg_mul]
   omega
  have h2:=afX (-a) (show 0 < -b by omega)
  have h3:=agz (-a) (show 0 < -b by omega)
  omega
 ·exact absurd q h
 ·have h2:=afX a q
  have h3:=agz a q
  omega
theorem qd {t b:Int}(h:b≠0):0 < gz t b:=by
 have:=apu.mpr (aff h:t≠0∨b≠0)
 show (0:Int) < ((afi t b:Nat):Int)
 omega
theorem OB {t b:Int}(h:b≠0):(gz t b).natAbs≤b.natAbs:=by
 have h1:afi t b ∣ b.natAbs:=af2.mpr (afK t b)
 have h2:=Nat.le_of_dvd (by omega) h1
 show ((afi t b:Nat):Int).natAbs≤_
 omega
theorem lX {t b:Int}(h:b≠0):sg t b≠0:=by
 have:=qd (t:=t) h
 unfold sg
 split <;> omega
theorem LB {t b:Int}:(sg t b).natAbs=(gz t b).natAbs:=by
 unfold sg
 split
 ·exact aoT _
 ·rfl
theorem si (t b:Int):sg t b ∣ t:=by
 unfold sg gz
 split
 ·exact Int.neg_dvd.mpr (afT t b)
 ·exact afT t b
theorem qe (t b:Int):sg t b ∣ b:=by
 unfold sg gz
 split
 ·exact Int.neg_dvd.mpr (afK t b)
 ·exact afK t b
theorem cn {a g:Int}(h:g≠0)(d:g ∣ a):a=g*a.fdiv g:=by
 obtain ⟨c,hc⟩:=d
 have:=af5 h hc
 rw [this]
 exact hc
theorem kX {t b:Int}(h:b≠0):t=sg t b*(low t b).1:=cn (lX h) (si t b)
theorem i9 {t b:Int}(h:b≠0):b=sg t b*(low t b).2:=cn (lX h) (qe t b)
theorem i_ {t b:Int}(h:b≠0):0 < (low t b).2:=by
 have e:=i9 (t:=t) h
 have g:=qd (t:=t) h
 rcases ai_ (low t b).2 0 with q | q | q
 ·exfalso
  by_cases c:b < 0
  ·have s:sg t b= -gz t b:=by unfold sg;rw [if_pos c]
   rw [s] at e
   have:=Int.mul_pos_of_neg_of_neg (show -gz t b < 0 by omega) q
   omega
  ·have s:sg t b=gz t b:=by unfold sg;rw [if_neg c]
   rw [s] at e
   have:=ag_ g q
   omega
 ·exfalso
  rw [q,agd] at e
  exact h e
 ·exact q
theorem xB {t b:Int}(h:b≠0):(low t b).1*b=t*(low t b).2:=by
 have e1:=kX (t:=t) h
 have e2:=i9 (t:=t) h
 calc (low t b).1*b=(low t b).1*(sg t b*(low t b).2):=by rw [← e2]
  _=sg t b*(low t b).1*(low t b).2:=by rw [← agr,afL (low t b).1]
  _=t*(low t b).2:=by rw [← e1]
theorem kY {t b:Int}(h:b≠0):afi (low t b).1 (low t b).2=1:=by
 have e1:=kX (t:=t) h
 have e2:=i9 (t:=t) h
 have k:afi t b=(sg t b).natAbs*afi (low t b).1 (low t b).2:=by
  have q:=apm (sg t b) (low t b).1 (low t b).2
  rw [← e1, ← e2] at q
  exact q
 have g:(sg t b).natAbs=afi t b:=by
  rw [LB]
  rfl
 have p:=apu.mpr (aff h:t≠0∨b≠0)
 rw [g] at k
 have k' :afi t b*1=afi t b*afi (low t b).1 (low t b).2:=by rw [Nat.mul_one];exact k
 exact (Nat.eq_of_mul_eq_mul_left p k').symm
theorem dk {g a:Int}(h:g≠0):a.natAbs≤(g*a).natAbs:=by
 rw [afB]
 have:1≤g.natAbs:=by omega
 have:=aeX a.natAbs this
 omega
theorem lY {t b:Int}(h:b≠0):(low t b).1.natAbs≤t.natAbs:=by
 have e:=kX (t:=t) h
 have:=dk (g:=sg t b) (a:=(low t b).1) (lX h)
 rw [← e] at this
 exact this
theorem lZ {t b:Int}(h:b≠0):(low t b).2.natAbs≤b.natAbs:=by
 have e:=i9 (t:=t) h
 have:=dk (g:=sg t b) (a:=(low t b).2) (lX h)
 rw [← e] at this
 exact this
theorem AV {t b g x y:Int}(hg:g≠0)(ht:t=g*x)(hb:b=g*y)(hy:0 < y)(h1:afi x y=1):low t b=(x,y):=by
 have hbn:b≠0:=by
  rw [hb]
  exact apv hg (by omega)
 have gg:afi t b=g.natAbs:=by
  rw [ht,hb,apm,h1,Nat.mul_one]
 have s:sg t b=g:=by
  unfold sg gz
  rw [gg]
  by_cases c:g < 0
  ·have:b < 0:=by rw [hb];exact Int.mul_neg_of_neg_of_pos c hy
   rw [if_pos this]
   omega
  ·have:¬ b < 0:=by
    have:=Int.mul_nonneg (show 0≤g by omega) (show 0≤y by omega)
    omega
   rw [if_neg this]
   omega
 unfold low
 rw [s]
 rw [af5 hg ht,af5 hg hb]
theorem l_ {x y:Int}(hy:0 < y)(h:afi x y=1):low x y=(x,y):=AV (g:=1) (by decide) (by omega) (by omega) hy h
theorem oO {t b k:Int}(hk:k≠0)(h:b≠0):low (k*t) (k*b)=low t b:=by
 refine AV (g:=k*sg t b) (apv hk (lX h)) ?_ ?_ (i_ h) (kY h)
 ·rw [agr]
  exact congrArg (k*·) (kX h)
 ·rw [agr]
  exact congrArg (k*·) (i9 h)
theorem om {t b u c:Int}(hb:b≠0)(hc:c≠0)(h:t*c=u*b):low t b=low u c:=by
 rw [← oO (t:=t) (b:=b) hc hb, ← oO (t:=u) (b:=c) hb hc]
 rw [afL c t,h,afL u b,afL c b]
end Ty
set_option maxHeartbeats 4000000
namespace Ty
open PySem PySem.Spec PyProof.Rows L2
open Builtin.Int (intBits)
section
variable {X:Cx}
def sj (i j:Int):Prop:=intBits i≤33554432∧intBits j≤33554432
theorem cf:ib X (binaryOp .Mult) (rI sj fun i j=>.int (i*j)):=
 Oe fun _ _ _ _ _ _ _ hc q=>mul_int q (IntMulOk.of_le hc.1 hc.2 (by decide))
def OC (i j:Int):Prop:=j≠0∧intBits j≤9000
theorem WJ {i j:Int}(h:intBits j≤9000):Builtin.divisionGoesByPylong i j=false:=by
 refine PyProof.noPylong_of_log2 ?_
 have h1:=intBits_le_iff.mp h
 by_cases h0:j.natAbs=0
 ·rw [h0]
  decide+kernel
 ·exact (Nat.log2_lt h0).mpr h1
theorem ma:ib X (binaryOp .FloorDiv) (rI OC fun i j=>.int (i.fdiv j)):=
 Oe fun _ _ _ _ _ _ _ hc q=>floordiv_int hc.1 q (.inl (WJ hc.2))
end
inductive Da where
 | v (x:V)
 | t (ds:List Da)
 | l (ds:List Da)
mutual
def Is (K:Frag)(H:Hp):Da→V→Prop
 | .v x,u=>u=x∧gO x=true
 | .t ds,u=>∃p xs,u=.ref p∧bL K H p xs∧fh K H ds xs
 | .l ds,u=>∃p xs,u=.ref p∧aU K H p xs∧fh K H ds xs
def fh (K:Frag)(H:Hp):List Da→List V→Prop
 | [],[]=>True
 | d::ds,x::xs=>Is K H d x∧fh K H ds xs
 | _,_=>False
end
mutual
def fX:Da→Da→Bool
 | .v x,.v y=>i5 x y
 | .t ds,.t es=>cO ds es
 | .l ds,.l es=>cO ds es
 | _,_=>false
def cO:List Da→List Da→Bool
 | [],[]=>true
 | d::ds,e::es=>fX d e && cO ds es
 | _,_=>false
end
mutual
def alike:Da→Da→Bool
 | .v _,.v _=>true
 | .t ds,.t es=>cT ds es
 | .l ds,.l es=>cT ds es
 | _,_=>false
def cT:List Da→List Da→Bool
 | d::ds,e::es=>alike d e && cT ds es
 | _,_=>true
end
mutual
def dep:Da→Nat
 | .v _=>0
 | .t ds=>fj ds+1
 | .l ds=>fj ds+1
def fj:List Da→Nat
 | []=>0
 | d::ds=>max (dep d) (fj ds)
end
theorem fh.length {K:Frag}{H:Hp}:∀{ds:List Da} {xs:List V},fh K H ds xs→ds.length=xs.length
 | [],[],_=>rfl
 | _::_,_::_,h=>congrArg (·+1) (fh.length (by unfold fh at h;exact h.2))
 | [],_::_,h=>by unfold fh at h;exact h.elim
 | _::_,[],h=>by unfold fh at h;exact h.elim
def gP (ds es:List Da)(j:Nat):Bool:=match ds[j]?,es[j]? with
 | some d,some e=>fX d e
 | _,_=>true
theorem cU:∀ds es:List Da,cO ds es=((afV (min ds.length es.length)).all (gP ds es) && ds.length==es.length)
 | [],[]=>rfl
 | [],_::_=>by simp [cO]
 | _::_,[]=>by simp [cO]
 | d::ds,e::es=>by
  have ih:=cU ds es
  have r:min (d::ds).length (e::es).length=min ds.length es.length+1:=by simp [Nat.succ_min_succ]
  rw [r,aoG,agq,apb]
  have b0:gP (d::ds) (e::es) 0=fX d e:=rfl
  have b1:(gP (d::ds) (e::es) ∘ Nat.succ)=gP ds es:=by
   funext j
   rfl
  have l1:((d::ds).length==(e::es).length)=(ds.length==es.length):=by simp
  rw [b0,b1,l1,Bool.and_assoc, ← ih]
  rfl
section
variable {X:Cx}{pins:List (Addr×Obj)}{σ:L2.St}{H:Hp}{s:Shared}
theorem sk {x:V}(h:gO x=true):i5 x x=true:=by
 cases x <;> first | rfl | (simp [i5];done) | (cases h;done)
mutual
theorem qf (I:Inv X pins σ H s):∀(d e:Da) (x:V),Is X.K H d x→Is X.K H e x→alike d e=true→fX d e=true
 | .v a,.v b,x,h1,h2,_=>by
  unfold Is at h1 h2
  obtain ⟨rfl,f⟩:=h1
  obtain ⟨rfl,_⟩:=h2
  unfold fX
  exact sk f
 | .t ds,.t es,x,h1,h2,a=>by
  unfold Is at h1 h2
  obtain ⟨p,xs,rfl,q1,k1⟩:=h1
  obtain ⟨p',ys,e',q2,k2⟩:=h2
  cases e'
  cases I.fV q1 q2
  unfold fX
  unfold alike at a
  exact me I ds es xs k1 k2 a
 | .l ds,.l es,x,h1,h2,a=>by
  unfold Is at h1 h2
  obtain ⟨p,xs,rfl,q1,k1⟩:=h1
  obtain ⟨p',ys,e',q2,k2⟩:=h2
  cases e'
  cases I.gJ q1 q2
  unfold fX
  unfold alike at a
  exact me I ds es xs k1 k2 a
 | .v _,.t _,_,_,_,a=>by unfold alike at a;cases a
 | .v _,.l _,_,_,_,a=>by unfold alike at a;cases a
 | .t _,.v _,_,_,_,a=>by unfold alike at a;cases a
 | .t _,.l _,_,_,_,a=>by unfold alike at a;cases a
 | .l _,.v _,_,_,_,a=>by unfold alike at a;cases a
 | .l _,.t _,_,_,_,a=>by unfold alike at a;cases a
theorem me (I:Inv X pins σ H s):∀(ds es:List Da) (xs:List V),fh X.K H ds xs→fh X.K H es xs→cT ds es=true→cO ds es=true
 | [],[],_,_,_,_=>by unfold cO;rfl
 | d::ds,e::es,x::xs,h1,h2,a=>by
  unfold fh at h1 h2
  unfold cT at a
  rw [afE] at a
  unfold cO
  rw [qf I d e x h1.1 h2.1 a.1,me I ds es xs h1.2 h2.2 a.2]
  rfl
 | [],_::_,[],_,h2,_=>by unfold fh at h2;exact h2.elim
 | [],_::_,_::_,h1,_,_=>by unfold fh at h1;exact h1.elim
 | _::_,[],[],h1,_,_=>by unfold fh at h1;exact h1.elim
 | _::_,[],_::_,_,h2,_=>by unfold fh at h2;exact h2.elim
 | _::_,_::_,[],h1,_,_=>by unfold fh at h1;exact h1.elim
end
theorem in1_units (A:Around):A.in1.units=A.units+1:=rfl
mutual
theorem vW (I:Inv X pins σ H s):∀(d e:Da) (x y:V) (u w:Value) (A:Around),Is X.K H d x→Is X.K H e y→alike d e=true→RelV x u→RelV y w→A.units+dep d < cLine→SeqAt.EqAt A s u w (fX d e)
 | .v a,.v b,x,y,u,w,A,h1,h2,_,r1,r2,_=>by
  unfold Is at h1 h2
  obtain ⟨rfl,f1⟩:=h1
  obtain ⟨rfl,f2⟩:=h2
  unfold fX
  exact AL r1 r2 f1 f2
 | .t ds,.t es,x,y,u,w,A,h1,h2,a,r1,r2,hu=>by
  have ie :=h1
  have Kb :=h2
  unfold Is at h1 h2
  obtain ⟨p,xs,rfl,q1,k1⟩:=h1
  obtain ⟨p',ys,rfl,q2,k2⟩:=h2
  cases r1
  cases r2
  by_cases e:p=p'
  ·subst e
   rw [qf I _ _ _ ie Kb a]
   exact .same _
  ·refine .of_refs e ?_
   obtain ⟨its,v1,t1,_⟩:=I.tuple q1
   obtain ⟨dN,v2,t2,_⟩:=I.tuple q2
   unfold fX
   rw [cU,k1.length,k2.length,v1.length,v2.length]
   have z:=SeqAt.RcAt.tuples (A:=A) (e:=gP ds es) t1 t2 (by unfold dep at hu;omega) fun j g1 g2=>by
    unfold dep at hu
    unfold alike at a
    exact fk I ds es xs ys its dN A.in1 k1 k2 a v1 v2 (by rw [in1_units];omega) j (by simpa using g1) (by simpa using g2)
   simpa using z
 | .l ds,.l es,x,y,u,w,A,h1,h2,a,r1,r2,hu=>by
  have ie :=h1
  have Kb :=h2
  unfold Is at h1 h2
  obtain ⟨p,xs,rfl,q1,k1⟩:=h1
  obtain ⟨p',ys,rfl,q2,k2⟩:=h2
  cases r1
  cases r2
  by_cases e:p=p'
  ·subst e
   rw [qf I _ _ _ ie Kb a]
   exact .same _
  ·refine .of_refs e ?_
   obtain ⟨its,v1,t1,_⟩:=I.list q1
   obtain ⟨dN,v2,t2,_⟩:=I.list q2
   unfold fX
   unfold dep at hu
   unfold alike at a
   by_cases el:its.length=dN.length
   ·rw [cU,k1.length,k2.length,v1.length,v2.length]
    have z:=SeqAt.RcAt.lists (A:=A) (e:=gP ds es) t1.isList t2.isList (by simpa using el) (by omega) fun j g1 g2=>
     fk I ds es xs ys its dN A.in1 k1 k2 a v1 v2 (by rw [in1_units];omega) j (by simpa using g1) (by simpa using g2)
    rw [el,apc,beq_self_eq_true,ao3]
    rw [aeU,el] at z
    exact z
   ·have ne:cO ds es=false:=by
     rw [cU,k1.length,k2.length,v1.length,v2.length,beq_eq_false_iff_ne.mpr el,agA]
    rw [ne]
    exact SeqAt.RcAt.lists_lengths t1.isList t2.isList (by simpa using el) (by omega)
 | .v _,.t _,_,_,_,_,_,_,_,a,_,_,_=>by unfold alike at a;cases a
 | .v _,.l _,_,_,_,_,_,_,_,a,_,_,_=>by unfold alike at a;cases a
 | .t _,.v _,_,_,_,_,_,_,_,a,_,_,_=>by unfold alike at a;cases a
 | .t _,.l _,_,_,_,_,_,_,_,a,_,_,_=>by unfold alike at a;cases a
 | .l _,.v _,_,_,_,_,_,_,_,a,_,_,_=>by unfold alike at a;cases a
 | .l _,.t _,_,_,_,_,_,_,_,a,_,_,_=>by unfold alike at a;cases a
theorem fk (I:Inv X pins σ H s):∀(ds es:List Da) (xs ys:List V) (us ws:List Value) (A:Around),fh X.K H ds xs→fh X.K H es ys→cT ds es=true→Vals xs us→Vals ys ws→A.units+fj ds < cLine→
  ∀(j:Nat) (h1:j < us.length) (h2:j < ws.length),SeqAt.EqAt A s us[j] ws[j] (gP ds es j)
 | d::ds,e::es,x::xs,y::ys,u::us,w::ws,A,k1,k2,a,.cons r1 v1,.cons r2 v2,hu,0,_,_=>by
  unfold fh at k1 k2
  unfold cT at a
  rw [afE] at a
  unfold fj at hu
  exact vW I d e x y u w A k1.1 k2.1 a.1 r1 r2 (by omega)
 | d::ds,e::es,x::xs,y::ys,u::us,w::ws,A,k1,k2,a,.cons r1 v1,.cons r2 v2,hu,j+1,h1,h2=>by
  unfold fh at k1 k2
  unfold cT at a
  rw [afE] at a
  unfold fj at hu
  exact fk I ds es xs ys us ws A k1.2 k2.2 a.2 v1 v2 (by omega) j (by simpa using h1) (by simpa using h2)
 | [],_,[],_,_,_,_,_,_,_,.nil,_,_,_,h1,_=>absurd h1 (afC _)
 | _,[],_,[],_,_,_,_,_,_,_,.nil,_,_,_,h2=>absurd h2 (afC _)
 | [],_,_::_,_,_,_,_,k1,_,_,_,_,_,_,_,_=>by unfold fh at k1;exact k1.elim
 | _::_,_,[],_,_,_,_,k1,_,_,_,_,_,_,_,_=>by unfold fh at k1;exact k1.elim
 | _,[],_,_::_,_,_,_,_,k2,_,_,_,_,_,_,_=>by unfold fh at k2;exact k2.elim
 | _,_::_,_,[],_,_,_,_,k2,_,_,_,_,_,_,_=>by unfold fh at k2;exact k2.elim
end
end
section
variable {X:Cx}
inductive Kc (K:Frag)(x:V)(y:V)(H:Hp)(Q:VK):Prop where
 | mk (ds es:_) (_:((Is K H (.t ds) x∧Is K H (.t es) y)∨(Is K H (.l ds) x∧Is K H (.l es) y))) (_:cT ds es=true) (_:fj ds≤60) (_:Q (.bl (cO ds es)) H):Kc K x y H Q
inductive so (K:Frag)(x:V)(y:V)(H:Hp)(Q:VK):Prop where
 | mk (ds es:_) (_:((Is K H (.t ds) x∧Is K H (.t es) y)∨(Is K H (.l ds) x∧Is K H (.l es) y))) (_:cT ds es=true) (_:fj ds≤60) (_:Q (.bl (!cO ds es)) H):so K x y H Q
theorem vX (hu:X.A.units+64 < cLine):ib X (compareOp .Eq) (Kc X.K):=by
 intro pins s σ H x y v u Q I rx ry h
 obtain ⟨ds,es,h,a,hd,q⟩:=h
 rcases h with ⟨h1,h2⟩ | ⟨h1,h2⟩
 ·unfold Is at h1 h2
  obtain ⟨p,xs,rfl,q1,k1⟩:=h1
  obtain ⟨p',ys,rfl,q2,k2⟩:=h2
  cases rx
  cases ry
  obtain ⟨its,v1,t1,_⟩:=I.tuple q1
  obtain ⟨dN,v2,t2,_⟩:=I.tuple q2
  have z:=SeqAt.RcAt.tuples (A:=X.A) (e:=gP ds es) t1 t2 (by omega) fun j g1 g2=>
   fk I ds es xs ys its dN X.A.in1 k1 k2 a v1 v2 (by rw [in1_units];omega) j (by simpa using g1) (by simpa using g2)
  refine z X.prog X.w X.xe _ ⟨.bl _,H,I,rfl,?_⟩
  have e:=cU ds es
  rw [k1.length,k2.length,v1.length,v2.length] at e
  simpa [e] using q
 ·unfold Is at h1 h2
  obtain ⟨p,xs,rfl,q1,k1⟩:=h1
  obtain ⟨p',ys,rfl,q2,k2⟩:=h2
  cases rx
  cases ry
  obtain ⟨its,v1,t1,_⟩:=I.list q1
  obtain ⟨dN,v2,t2,_⟩:=I.list q2
  have e:=cU ds es
  rw [k1.length,k2.length,v1.length,v2.length] at e
  by_cases el:its.length=dN.length
  ·have z:=SeqAt.RcAt.lists (A:=X.A) (e:=gP ds es) t1.isList t2.isList (by simpa using el) (by omega) fun j g1 g2=>
    fk I ds es xs ys its dN X.A.in1 k1 k2 a v1 v2 (by rw [in1_units];omega) j (by simpa using g1) (by simpa using g2)
   refine z X.prog X.w X.xe _ ⟨.bl _,H,I,rfl,?_⟩
   rw [el,apc,beq_self_eq_true,ao3] at e
   simpa [e,el] using q
  ·have ne:cO ds es=false:=by rw [e,beq_eq_false_iff_ne.mpr el,agA]
   rw [ne] at q
   exact SeqAt.RcAt.lists_lengths t1.isList t2.isList (by simpa using el) (by omega) X.prog X.w X.xe _ ⟨.bl _,H,I,rfl,q⟩
theorem eK (hu:X.A.units+64 < cLine):ib X (compareOp .NotEq) (so X.K):=by
 intro pins s σ H x y v u Q I rx ry h
 obtain ⟨ds,es,h,a,hd,q⟩:=h
 rcases h with ⟨h1,h2⟩ | ⟨h1,h2⟩
 ·unfold Is at h1 h2
  obtain ⟨p,xs,rfl,q1,k1⟩:=h1
  obtain ⟨p',ys,rfl,q2,k2⟩:=h2
  cases rx
  cases ry
  obtain ⟨its,v1,t1,_⟩:=I.tuple q1
  obtain ⟨dN,v2,t2,_⟩:=I.tuple q2
  have z:=SeqAt.RcNeAt.tuples (A:=X.A) (e:=gP ds es) t1 t2 (by omega) fun j g1 g2=>
   fk I ds es xs ys its dN X.A.in1 k1 k2 a v1 v2 (by rw [in1_units];omega) j (by simpa using g1) (by simpa using g2)
  refine z X.prog X.w X.xe _ ⟨.bl _,H,I,rfl,?_⟩
  have e:=cU ds es
  rw [k1.length,k2.length,v1.length,v2.length] at e
  simpa [e] using q
 ·unfold Is at h1 h2
  obtain ⟨p,xs,rfl,q1,k1⟩:=h1
  obtain ⟨p',ys,rfl,q2,k2⟩:=h2
  cases rx
  cases ry
  obtain ⟨its,v1,t1,_⟩:=I.list q1
  obtain ⟨dN,v2,t2,_⟩:=I.list q2
  have e:=cU ds es
  rw [k1.length,k2.length,v1.length,v2.length] at e
  by_cases el:its.length=dN.length
  ·have z:=SeqAt.RcNeAt.lists (A:=X.A) (e:=gP ds es) t1.isList t2.isList (by simpa using el) (by omega) fun j g1 g2=>
    fk I ds es xs ys its dN X.A.in1 k1 k2 a v1 v2 (by rw [in1_units];omega) j (by simpa using g1) (by simpa using g2)
   refine z X.prog X.w X.xe _ ⟨.bl _,H,I,rfl,?_⟩
   rw [el,apc,beq_self_eq_true,ao3] at e
   simpa [e,el] using q
  ·have ne:cO ds es=false:=by rw [e,beq_eq_false_iff_ne.mpr el,agA]
   rw [ne] at q
   exact SeqAt.RcNeAt.lists_lengths t1.isList t2.isList (by simpa using el) (by omega) X.prog X.w X.xe _ ⟨.bl _,H,I,rfl,q⟩
def LC:V→Value
 | .ty n=>.type n
 | .ref a=>.ref a
 | _=>.none
def Kd:V→Bool
 | .ty _=>true
 | .ref _=>true
 | _=>false
theorem vY {c:V}{u:Value}(h:Kd c=true)(r:RelV c u):u=LC c:=by
 cases c <;> first | exact r | (cases h;done)
inductive OD (K:Frag)(xs:List V)(H:Hp)(Q:VK):Prop where
 | mk (x c t b:_) (_:xs=[x,c]) (_:Kd c=true) (_:jH K H x t) (_:PySem.W.kitOne K t (LC c)=some b) (_:Q (.bl b) H):OD K xs H Q
theorem d5:eg X (.builtin "isinstance") (OD X.K):=by
 intro pins s σ H xs us Q I r h
 obtain ⟨x,c,t,b,rfl,hc,ty,e,q⟩:=h
 obtain ⟨u,w,rfl,r1,r2⟩:=vals2 r
 obtain rfl:=vY hc r2
 exact xu I r1 ty e fun tk=>⟨.bl b,H,I.tok tk,rfl,q⟩
end
section
variable {K:Frag}
theorem AW {a b:String}{v:Bool}(h:((Value.type a==Value.type b)=true→v=true)∧((Value.type a==Value.type b)=false→PySem.W.kitMeta b=true∧(fastBuiltinMro a).map (·.contains (Value.type b))=some v)):PySem.W.kitOne K (.type a) (.type b)=some v:=by
 unfold PySem.W.kitOne
 by_cases e:(Value.type a==Value.type b)=true
 ·rw [if_pos e,h.1 e]
 ·rw [if_neg e]
  obtain ⟨h1,h2⟩:=h.2 (by simpa using e)
  unfold PySem.W.kitCls
  dsimp only
  rw [if_pos h1]
  exact h2
end
theorem bW:bootBuiltins "len"=some (.builtin "len"):=by decide+kernel
theorem Ke:bootBuiltins "abs"=some (.builtin "abs"):=by decide+kernel
theorem b6:bootBuiltins "isinstance"=some (.builtin "isinstance"):=by decide+kernel
theorem Kf:bootBuiltins "all"=some (.builtin "all"):=by decide+kernel
theorem Kg:bootBuiltins "int"=some (.type "int"):=by decide+kernel
theorem LD:bootBuiltins "bool"=some (.type "bool"):=by decide+kernel
theorem OE:bootBuiltins "str"=some (.type "str"):=by decide+kernel
theorem gk:bootBuiltins "list"=some (.type "list"):=by decide+kernel
theorem qg:bootBuiltins "tuple"=some (.type "tuple"):=by decide+kernel
theorem mf:bootBuiltins "dict"=some (.type "dict"):=by decide+kernel
theorem ja {X:Cx}{x:Str}{n:String}{pos:Pos}(hg:Gl X x)(hm:X.mg x=none)(hv:bootBuiltins x=some (.type n))(hn:x≠ "__name__":=by decide)(hd:(x==("__debug__":Str))=false:=by decide):PE X (.Name x pos) (tC (.ty n)):=F_ (v:=.ty n) hg hm hv rfl hn hd
def LF (_ j:Int):Prop:=j≠0
theorem nz {i j:Int}(h:j≠0):LF i j:=h
theorem dE {X:Cx}:ib X (binaryOp .Mod) (rI LF fun i j=>.int (i.fmod j)):=GK
theorem HE {a b:V}:fj [.v a,.v b]≤60:=by simp [fj,dep]
end Ty
set_option maxHeartbeats 4000000
namespace TyAtt
open PySem PySem.W PySem.Calls PyProof.Rows
open Builtin.Int (intBits)
theorem xC {ns:List Int}{n:Int}(h:(WData.list (ns.map WData.int)).layable=true)(hn:n∈ns):intBits n≤1048576:=by
 obtain ⟨_,_,hw⟩:=layableW_iff.mp h
 have a:∀(l:List Int),n∈l→intBits n≤WData.weightAll (l.map WData.int):=by
  intro l
  induction l with
  | nil=>intro q;cases q
  | cons y r ih=>
   intro q
   rw [ac_]
   unfold WData.weightAll
   rcases ae1.mp q with z | z
   ·subst z
    have:intBits n≤WData.weight (.int n):=by
     unfold WData.weight
     exact aeG _
    omega
   ·have:=ih z
    omega
 have b:=a ns hn
 unfold WData.weight at hw
 omega
theorem sr {l:OpenLaw}{n:Nat}{q:Program}{loose:List Str}{XP:(Str→Option Value)→Heap→Prop}{YP:World→Heap→Prop}{d:DefRec}
  (hn:l.most=some n) (WK:d.params.defaults=[])
  (call:∀(w:World) (s₀ s₁:Shared) (mg mb:Str→Option Value) (fa:Addr) (o:Obj) (pm cd doc:Value) (a:Addr) (vs:List Value) (ns:List Int),
   Ground q loose [] XP w s₀ mg mb s₁.heap→YP w s₁.heap→
   s₁.heap.get? fa=some o→o.data=.func (docDef d.name d.params d.body d.scope pm cd doc)→s₁.heap.CodeRec cd d.name→mg d.name=some (.ref fa)→
   s₁.heap.get? a=some {cls:=.type "list",data:=.seq vs.toArray}→IntsAre vs ns→ns.length≤n→(∀i∈ns,intBits i≤1048576)→s₁.gens= #[]→
   codeAny (model l.prog w) callerA (.call (.ref fa) ⟨[.ref a],[]⟩) (fun r s' =>r=.ok (.ret (.bool true))∧OldK s₁.heap s'.heap∧s'.os=s₁.os∧AllBare s'.gens) s₁):
  WalkO q loose XP YP l.row.toRowW d [] (fun f vs=>PySem.call f vs):=by
 intro w s₀ s₁ mg mb G Y fa o pm cd doc dV kV ho hd og hD OF hg args vals as G_ hlay hrd WE hlo
 obtain rfl:dV=.none:=Dflts.none hD WK
 obtain rfl:kV=.none:=Dflts.noKw hD
 obtain ⟨a,vs,ns,rfl,rfl,LG,hints,hlen⟩:=Att.xy hn G_ WE
 have hb:∀i∈ns,intBits i≤1048576:=fun i hi=>xC (layW_cons hlay).1 hi
 refine enter_call (codeAny_mono (call w s₀ s₁ mg mb fa o pm cd doc a vs ns G Y ho (fd_plain hd) og OF LG hints hlen hb hg) fun r s' hq=> ?_)
 obtain ⟨rfl,h2,h3,h4⟩:=hq
 exact ⟨.inl ⟨.bool true,.bool true,[],rfl,fun _=>rfl,.bool true,Att.xA l _,fun _=>⟨List.Pairwise.nil,fun _ hm=>(nomatch hm)⟩⟩,h2,h3,h4⟩
end TyAtt
namespace Ty
open PySem PySem.Spec PyProof.Rows L2
open Builtin.Int (intBits)
structure Fn (P:Program)(w:World)(K:Frag)(mg:Str→Option Value)(base:Heap)(CX:jD)(k:Nat)(x:Str)(ps:List Str)(sp:Sp):Prop where
 ex:∃(f:Addr) (fd:FuncData),cM P w K mg base CX k f fd ps sp∧Binds K fd ps []∧mg x=some (.ref f)∧keepIn K (.ref f)=true
structure Def (K:Frag)(mg:Str→Option Value)(x:Str)(st:Stmt)(ps:List Str):Prop where
 ex:∃(f:Addr) (dV oc:Value) (od:Option Addr) (kV doc pm:Value) (an:Option Addr) (bF ct:Value) (nR:Array (Option Value)),
  K.lookup f=some ⟨oc,od,.func (fnOf x x (aD st) (ay st) (ag st) dV kV doc pm an bF ct),nR⟩∧codeIn K bF x=true∧keepIn K (.ref f)=true∧
  Binds K (fnOf x x (aD st) (ay st) (ag st) dV kV doc pm an bF ct) ps []∧mg x=some (.ref f)
theorem Def.of {K:Frag}{mg:Str→Option Value}{x:Str}{st:Stmt}{ps:List Str}{f:Addr}{fd:FuncData}(F:nV K x x st f fd)(b:Binds K fd ps [])(m:mg x=some (.ref f)):Def K mg x st ps:=by
 obtain ⟨oc,od,kV,doc,pm,an,bF,ct,nR,rfl,lk,og⟩:=F.ex
 exact ⟨f,.none,oc,od,kV,doc,pm,an,bF,ct,nR,lk,og,F.kp,b,m⟩
section
variable {P:Program}{w:World}{K:Frag}{mg:Str→Option Value}{base:Heap}{CX:jD}
theorem Def.ok {x:Str}{st:Stmt}{N ps:List Str}{k:Nat}{sp:Sp}(D:Def K mg x st ps)(S:aG N ps (ag st))(len:∀vs H Q E,sp vs H Q E→vs.length=ps.length)
  (i0:∀(f:Addr) (bF:Value) (A:Around) (outer:List Env) (s:Shared) (H:Hp) (vs:List V) (Q:VK) (E:XK),cy k (A.deeper (envOfC x (ag st) s.heap.objs.size f bF))→sp vs H Q E→
   ∃t,PSs (kH CX P w K mg base N x (ag st) f bF A outer s H E).vM (ay st) t∧t {nx:=fun _ H' =>Q .cE H',rt:=Q} (start N vs) H):Fn P w K mg base CX (k+1) x ps sp:=by
 obtain ⟨f,dV,oc,od,kV,doc,pm,an,bF,ct,nR,lk,og,kp,b,m⟩:=D.ex
 refine ⟨f,_,vT lk og S len fun A outer s H vs Q E hr uv=> ?_,b,m,kp⟩
 obtain ⟨t,h,q⟩:=i0 f bF A outer s H vs Q E hr uv
 exact ⟨t,h.vM,q⟩
theorem _root_.L2.nV.okG {x:Str}{st:Stmt}{f:Addr}{fd:FuncData}{N ps:List Str}{k:Nat}{sp:Sp}(F:nV K x x st f fd)(S:aG N ps (ag st))(len:∀vs H Q E,sp vs H Q E→vs.length=ps.length)
  (i0:∀(bF:Value) (A:Around) (outer:List Env) (s:Shared) (H:Hp) (vs:List V) (Q:VK) (E:XK),cy k (A.deeper (envOfC x (ag st) s.heap.objs.size f bF))→sp vs H Q E→
   ∃t,PSs (kH CX P w K mg base N x (ag st) f bF A outer s H E).vM (ay st) t∧t {nx:=fun _ H' =>Q .cE H',rt:=Q} (start N vs) H):cM P w K mg base CX (k+1) f fd ps sp:=by
 obtain ⟨oc,od,kV,doc,pm,an,bF,ct,nR,rfl,lk,og⟩:=F.ex
 refine vT lk og S len fun A outer s H vs Q E hr uv=> ?_
 obtain ⟨t,h,q⟩:=i0 bF A outer s H vs Q E hr uv
 exact ⟨t,h.vM,q⟩
def sy (CX:jD):Prop:=∀outer H s e s',CX outer H s E0 e s' →False
theorem sE {X:Cx}(h:sy CX):Passes CX X.vM E0:=fun _ _ _ _ _ _ _ q=>(h _ _ _ _ _ q).elim
section
variable {X:Cx}{k:Nat}{ps:List Str}{sp:Sp}{E:XK}{x:Str}{p pos:Pos}{e:Expr}{es:List Expr}{t:TA}
theorem aA (F:Fn X.prog X.w X.K X.mg X.base CX k x ps sp)(hr:cy k X.A)(hx:Passes CX X E)(ha:PA X (e::es) t)(hg:Gl X x:=by rfl)(xw:(x==("__debug__":Str))=false:=by decide)
  (he:starEach (e::es) X.env=(false,eval e X.env)::starEach es X.env:=by rfl) (vS:(backTo pos (starEach es X.env)).any (·.1)=false:=by rfl):PE X (.Call (.Name x p) (e::es) [] pos) (JZ sp [] E t):=by
 obtain ⟨f,fd,G,b,m,kp⟩:=F.ex
 exact GQ G hr hg m kp b .nil hx ha xw he vS
end
end
def AX (K:Frag):Sp:=fun vs H Q _=>∃(a:Addr) (ns:List Int),vs=[.ref a]∧aU K H a (ns.map V.int)∧ns.length≤63∧(∀i∈ns,intBits i≤1048576)∧∀H',Q (.bl true) H'
theorem walk {l:PySem.W.OpenLaw}{q:Program}{loose:List Str}{XP:(Str→Option Value)→Heap→Prop}{YP:World→Heap→Prop}{d:DefRec}{K:Params→Frag}{CX:World→jD}{x:Str}{k:Nat}
  (hn:l.most=some 63) (WK:d.params.defaults=[]) (hi:importsNone q=true) (hr:cy k callerA)
  (hY:∀(w:World) (h:Heap),YP w h→(K w.params).In h) (hm:∀w,sy (CX w))
  (F:∀(w:World) (mg:Str→Option Value) (fa:Addr) (h:Heap),(K w.params).In h→h.Ns mainGlobals mg→mg d.name=some (.ref fa)→
   ∃fd:FuncData,(∀(s:Shared) (u:Value),BindsTo s fd ⟨[u],[]⟩ [(x,u)])∧
    ∀base:Heap,(K w.params).In base→base.Ns mainGlobals mg→cM l.prog w (K w.params) mg base (CX w) k fa fd [x] (AX (K w.params))):
  PySem.W.WalkO q loose XP YP l.row.toRowW d [] (fun f vs=>PySem.call f vs):=by
 refine TyAtt.sr hn WK fun w s₀ s₁ mg mb fa o pm cd doc a vs ns G Y ho hd og OF LG hints hlen hb hg=> ?_
 have KX:=hY w _ Y
 obtain ⟨fd,hbd,hF⟩:=F w mg fa _ KX G.T.g OF
 exact AS KX G.T.g G.T.b G.T.builtins G.T.nolimit (G.T.seer hi) hg LG hints (ad_ hlen (by decide)) hr hF hbd (fun H hO hS=>⟨a,ns,rfl,hS,hlen,hb,fun _=>rfl⟩) fun H e s' =>hm w [] H s₁ e s'
end Ty
set_option maxHeartbeats 4000000
namespace Ty
open PySem PySem.Spec PyProof.Rows
end Ty
set_option maxHeartbeats 4000000
namespace Ty
open PySem PySem.Spec PyProof.Rows L2
def DictAt (h:Heap)(a:Addr)(dx:Option Addr):Prop:=∃o,h.get? a=some o∧o.dict=dx
def a9 (P:Program)(w:World):jD:=fun outer H s E e s' =>∃(a:Addr) (cls a0:Value) (dx:Option Addr) (H' :Hp) (B:Heap),
 e=.ref a∧Heap.FlyingW B outer a cls a0 s'.heap∧DictAt s'.heap a dx∧Un (vJ outer) [] H H' s.heap s'.heap∧iu P w H' s'.heap∧s'.os=s.os∧AllBare s'.gens∧
 (∀b o,s.heap.get? b=some o→b∉vJ outer→∃o',B.get? b=some o')∧(∀b u,H' b=some u→∃o,B.get? b=some o)∧E cls dx H'
theorem a9.mh {P:Program}{w:World}:sy (a9 P w):=fun _ _ _ _ _ ⟨_,_,_,_,_,_,_,_,_,_,_,_,_,_,_,z⟩=>z
section
variable {P:Program}{w:World}{K:Frag}{mg:Str→Option Value}{base:Heap}{N:List Str}{qual:Str}{scope:Scope}{f:Addr}{bF:Value}{A:Around}{outer:List Env}{s0:Shared}{H0:Hp}{E:XK}
abbrev cxr (P:Program)(w:World)(K:Frag)(mg:Str→Option Value)(base:Heap)(N:List Str)(qual:Str)(scope:Scope)(f:Addr)(bF:Value)(A:Around)(outer:List Env)(s0:Shared)(H0:Hp)(E:XK):Cx:=kH (a9 P w) P w K mg base N qual scope f bF A outer s0 H0 E
end
section
variable {X:Cx}{pins:List (Addr×Obj)}{σ:L2.St}{H H' :Hp}{s:Shared}
def XP (X:Cx)(pins:List (Addr×Obj))(σ:L2.St)(E:XK)(e:Value)(s' :Shared):Prop:=∃H s,Inv X pins σ H s∧a9 X.prog X.w X.stack H s E e s'
end
end Ty
set_option maxHeartbeats 4000000
namespace TyExc
open PySem PySem.W PySem.Calls PyProof.Rows Builtin Builtin.ObjectAttr Builtin.Getset_descriptor
section
variable {prog:Program}{w:World}{A:Around}{E:Value→Shared→Prop}{K:Frag}{h:Heap}{g:Array GenState}{d:Drawn}{t:Nat}{os:OsState}{a C:Addr}{o:Obj}
end
end TyExc
set_option maxHeartbeats 4000000
namespace Ty
open PySem PySem.Spec PyProof.Rows L2
section
variable {X:Cx}
end
end Ty
set_option maxHeartbeats 4000000
namespace TyExc
open PySem PySem.W PySem.Calls PyProof.Rows Builtin Builtin.ObjectAttr Builtin.Getset_descriptor
section
variable {prog:Program}{w:World}{A:Around}{E:Value→Shared→Prop}{K:Frag}{h:Heap}{g:Array GenState}{d:Drawn}{t:Nat}{os:OsState}{a C:Addr}{o:Obj}{od:Option Obj}{name:Str}{v:Value}
end
end TyExc
set_option maxHeartbeats 4000000
namespace TyExc
open PySem PySem.W PySem.Calls PyProof.Rows Builtin Builtin.ObjectAttr
section
variable {prog:Program}{w:World}{A:Around}{E:Value→Shared→Prop}{K:Frag}{s:Shared}{x C:Addr}{ox:Obj}{od:Option Obj}{name:Str}{v:Value}{cd:ClassData}
end
end TyExc
set_option maxHeartbeats 400000
namespace TyExc
open PySem PySem.W PySem.Calls PyProof.Rows Builtin
section
variable {prog:Program}{w:World}{A:Around}{K:Frag}{h:Heap}{g:Array GenState}{d:Drawn}{t:Nat}{os:OsState}{e C:Addr}{oe:Obj}{vs:Array Value}{args:List Value}{E:Value→Shared→Prop}
end
end TyExc
set_option maxHeartbeats 400000
namespace TyExc
open PySem PySem.W PySem.Calls PyProof.Rows Builtin
section
variable {prog:Program}{w:World}{A:Around}{K:Frag}{h:Heap}{g:Array GenState}{d:Drawn}{t:Nat}{os:OsState}{nm q:Str}{C N f:Addr}{bs bm bmB:List Value}{WL:Bool}{sn:List Str}{sub:List Value}{ab:Bool}{col:Option Bool}{dd:Option Addr}{k0 k1 k2 k3 k5:Option Value}{B newId WM:String}{rest:List Value}{E:Value→Shared→Prop}
end
end TyExc
set_option maxHeartbeats 400000
namespace TyExc
open PySem PySem.W PySem.Calls PyProof.Rows Builtin
section
variable {M:Model}{A:Around}{E:Value→Shared→Prop}{env:Env}{nm q:Str}{C N:Addr}{bs bm:List Value}{WL:Bool}{sn:List Str}{sub:List Value}{ab:Bool}{col:Option Bool}{dd:Option Addr}{k0 k1 k2 k3 k5:Option Value}{newId:String}{s:Shared}{x:Sem Value}{Q:Flow→Shared→Prop}
end
end TyExc
set_option maxHeartbeats 400000
namespace TyExc
open PySem PySem.W
end TyExc
namespace Ty
open PySem PySem.Spec PyProof.Rows L2
section
variable {P:Program}{w:World}{H:Hp}{h:Heap}{C a:Addr}{dx:Option Addr}
end
section
variable {X:Cx}
end
end Ty
set_option maxHeartbeats 1000000
namespace Ty
open PySem PySem.Spec PyProof.Rows L2
section
variable {P:Program}{w:World}{K:Frag}{mg:Str→Option Value}{base:Heap}{N:List Str}{qual:Str}{scope:Scope}{f:Addr}{bF:Value}{A:Around}{outer:List Env}{s0:Shared}{H0:Hp}{E:XK}
end
section
variable {prog:Program}{w:World}{A:Around}{R:Result→Shared→Prop}{s:Shared}
theorem qh {elt target iter:Expr}{ifs:List Expr}{scope:Scope}{pos:Pos}{it acc:Value}{env:Env}(I:Nat→Shared→Prop)
  (turn:∀n s,I n s→wpAny (model prog w) A (pyNext it) (fun r s₁=>match r with
   | none=>R (.ok .next) s₁
   | some v=>wpAny (model prog w) A (letOwnedTupleGo target it v) (fun _ s₁' =>wpAny (model prog w) A (assign target env v) (fun _ s₂=>
     wpAny (model prog w) A (forIn ifs true fun c r=>if r=true then do let ok ← isTrue c env (eval c env);pure (ForInStep.yield ok) else pure (ForInStep.yield r)) (fun ok s₃=>
      if ok=true then wpAny (model prog w) A (eval elt env) (fun x s₄=>
       wpAny (model prog w) A (call (.builtin "list.append") [acc,x]) (fun _ s₅=>∃m,m < n∧I m s₅) (fun _ _=>False) s₄) (fun _ _=>False) s₃
      else ∃m,m < n∧I m s₃) (fun _ _=>False) s₂) (fun _ _=>False) s₁') (fun _ _=>False) s₁) (fun _ _=>False) s)
  (n:Nat) (h:I n s):
  codeAny (model prog w) A (.compLoop (.ListComp elt [⟨target,iter,ifs,0⟩] scope pos) 0 it acc env) R s:=by
 refine codeAny_loop rfl I (fun n s hI=> ?_) n h
 show wpAny _ A ((compTurn (.ListComp elt [⟨target,iter,ifs,0⟩] scope pos) 0 it acc env).onRaise (fun x=>do noteFrame x env;theTreesLotGoes x)) _ _ s
 refine wpAny_noted ?_
 rw [compTurn_list]
 refine wpAny_bind (wpAny_standAt (wpAny_bind (wpAny_mono (turn n s hI) (fun r s₁ h₁=> ?_) fun _ _ h' =>h'.elim)))
 cases r with
 | none=>exact wpAny_pure h₁
 | some v=>
  refine wpAny_bind (wpAny_mono h₁ (fun _ s₁' h₁' => ?_) fun _ _ h' =>h'.elim)
  refine wpAny_bind (wpAny_mono h₁' (fun _ s₂ h₂=>wpAny_bind (wpAny_mono h₂ (fun ok s₃ h₃=> ?_) fun _ _ h' =>h'.elim)) fun _ _ h' =>h'.elim)
  cases ok with
  | false=>exact wpAny_pure ⟨rfl,h₃⟩
  | true=>
   exact wpAny_bind (wpAny_bind (wpAny_mono h₃ (fun x s₄ h₄=>wpAny_bind (wpAny_mono h₄ (fun _ s₅ h₅=>wpAny_pure (wpAny_pure ⟨rfl,h₅⟩)) fun _ _ h' =>h'.elim)) fun _ _ h' =>h'.elim))
end
def cP (env:Env)(fr:List Str):List (Str×Addr):=fr.filterMap fun n=>(env.cells.lookup n).map fun c=>(n,c)
theorem lookup_mem {α:Type}{x:Str}{c:α}:∀{l:List (Str×α)},l.lookup x=some c→(x,c)∈l
 | [],h=>by simp at h
 | (y,d)::r,h=>by
  rw [apn] at h
  cases e:x==y with
  | true=>
   rw [e] at h
   have e1:x=y:=by simpa using e
   cases h
   rw [e1]
   exact aeI
  | false=>
   rw [e] at h
   exact aeF _ (lookup_mem h)
theorem xD {env:Env}{fr:List Str}{x:Str}{c:Addr}(h:(x,c)∈cP env fr):env.cells.lookup x=some c:=by
 obtain ⟨n,_,e⟩:=agy.mp h
 cases q:env.cells.lookup n with
 | none=>rw [q] at e;cases e
 | some d=>
  rw [q] at e
  have e' :(n,d)=(x,c):=aeY e
  cases e'
  exact q
theorem eW {env:Env}{fr:List Str}{x:Str}{c:Addr}(h:(cP env fr).lookup x=some c):env.cells.lookup x=some c:=xD (lookup_mem h)
theorem jI {env:Env}{x:Str}{c:Addr}(q:env.cells.lookup x=some c):∀{fr:List Str},x∈fr→(cP env fr).lookup x=some c
 | [],h=>nomatch h
 | y::r,h=>by
  unfold cP
  rw [af9]
  by_cases e:x=y
  ·subst e
   rw [q]
   simp
  ·have hr:x∈r:=by
    rcases ae1.mp h with z | z
    ·exact absurd z e
    ·exact z
   have ih:=jI q hr
   cases z:env.cells.lookup y with
   | none=>exact ih
   | some d=>
    show afI x ((y,d)::_)=_
    rw [apn]
    have ne:(x==y)=false:=by simpa using e
    rw [ne]
    exact ih
def jJ (env:Env):List Str→Prop
 | []=>True
 | y::r=>(env.kindOf y=some .cell∨env.kindOf y=some .free)∧jJ env r
theorem jJ.at {env:Env}{x:Str}:∀{fr:List Str},jJ env fr→x∈fr→env.kindOf x=some .cell∨env.kindOf x=some .free
 | [],_,h=>nomatch h
 | y::r,a,h=>by
  rcases ae1.mp h with z | z
  ·rw [z]
   exact a.1
  ·exact jJ.at a.2 z
section
variable {X:Cx}
def sG (X:Cx)(NB:List Str)(scope:Scope)(cl:List (Str×Addr))(C:Addr)(s:Shared)(H:Hp)(fp:List Addr):Cx:=
 {prog:=X.prog,w:=X.w,K:=X.K,mg:=X.mg,base:=X.base,A:=X.A,N:=NB,s₀:=s,H₀:=H,env:=compEnvC scope cl C X.env,outer:=X.stack,stack:=X.stack,ex:=fp,fn:=fun _=>false,calm:=X.calm,pn:=[],xe:=fun _ _=>False}
structure LH (X:Cx)(scope:Scope)(fr:List Str)(caps:List Nat):Prop where
 OG:closureFor scope X.env=pure (cP X.env fr)
 cell:∀y∈scope.names,y.2≠.cell
 kind:scope.kind=.function
 names:∀y∈scope.names,y.2=.local→scope.names.lookup y.1=some .local
 free:∀y∈scope.names,y.2=.free→y.1∈fr
 caps:caps.map (fun i=>X.N[i]?)=fr.map some
 out:jJ X.env fr
 inn:jJ (compEnvC scope [] 0 X.env) fr
def PF (X:Cx)(ifs:List Expr)(t:TT):Prop:=
 ∀(pins:List (Addr×Obj)) (s:Shared) (σ:L2.St) (H:Hp) (Q:Bool→Hp→Prop),Inv X pins σ H s→t σ H Q→
  wpAny (model X.prog X.w) X.A (forIn ifs true fun c r=>if r=true then do let ok ← isTrue c X.env (eval c X.env);pure (ForInStep.yield ok) else pure (ForInStep.yield r)) (TP X pins σ Q) X.xe s
def jb:TT:=fun _ H Q=>Q true H
theorem cj:PF X [] jb:=fun _ _ _ H _ I h=>wpAny_tests_nil ⟨H,I,h⟩
def sB (k:Nat)(caps:List Nat)(σ:L2.St):L2.St:=aeW k none++caps.map fun i=>(σ[i]?).getD none
def kJ (D:Addr)(g:TG)(tt:TT)(te:TE)(J:It)(σ0:L2.St)(H1:Hp)(Q:VK):Prop:=∃W:Nat→Nat→L2.St→List V→Hp→Prop,
 (∃m,W 0 m σ0 [] (upd H1 D (.lst [])))∧∀i m σ2 ys H2,W i m σ2 ys H2→(J.stop i H2∧Q (.ref D) H2)∨(J.go i H2∧∀x H3,J.zB i H2 x H3→g x σ2 H3 fun σ4 H4=>tt σ4 H4 fun b H5=>
  if b=true then te σ4 H5 fun v H6=>H6 D=some (.lst ys)∧ys.length < sizeLine∧∃m',m' < m∧W (i+1) m' σ4 (ys++[v]) (upd H6 D (.lst (ys++[v]))) else ∃m',m' < m∧W (i+1) m' σ4 ys H5)
def Kh (k:Nat)(caps:List Nat)(wi:TI)(g:TG)(tt:TT)(te:TE):TE:=fun σ H Q=>wi σ H fun J H1=>∀D,H1 D=none→kJ D g tt te J (sB k caps σ) H1 Q
theorem LI {k:Nat}{caps:List Nat}{σ:L2.St}{i:Nat}{v:V}(h:(sB k caps σ)[i]? =some (some v)):k≤i∧∃j,caps[i - k]? =some j∧σ[j]? =some (some v):=by
 unfold sB at h
 by_cases c:i < k
 ·rw [aeL (by simpa using c),afr,if_pos c] at h
  cases h
 ·rw [aeP (by simpa using am_ c),afF,Wp] at h
  refine ⟨am_ c,?_⟩
  cases e:caps[i - k]? with
  | none=>rw [e] at h;cases h
  | some j=>
   rw [e] at h
   refine ⟨j,rfl,?_⟩
   have h' :(σ[j]?).getD none=some v:=aeY h
   cases z:σ[j]? with
   | none=>rw [z] at h';cases h'
   | some o=>
    rw [z] at h'
    exact congrArg some h'
theorem mi {elt target iter:Expr}{ifs:List Expr}{scope:Scope}{pos:Pos}{tn fr:List Str}{caps:List Nat}{g:TG}{tt:TT}{te:TE}{pins:List (Addr×Obj)}{σ:L2.St}{H2:Hp}{s2:Shared}{J:It}{fp:List Addr}{it:Addr}
  {Ki:Nat→Heap→Prop} {Q:VK} {RR:Value→Addr→Result→Shared→Prop} {E:Value→Shared→Prop} (hc:X.calm=true) (B:LH X scope fr caps)
  (hg:∀C s H fp,PG (sG X (tn++fr) scope (cP X.env fr) C s H fp) target g) (ht:∀C s H fp,PF (sG X (tn++fr) scope (cP X.env fr) C s H fp) ifs tt) (he:∀C s H fp,PE (sG X (tn++fr) scope (cP X.env fr) C s H fp) elt te)
  (I2:Inv X pins σ H2 s2) (T:Turn X.prog X.w X.K target J fp it Ki) (JT:Ki 0 s2.heap) (f2:∀b∈fp,gL X pins H2 b) (q:∀D,H2 D=none→kJ D g tt te J (sB tn.length caps σ) H2 Q)
  (fin:∀D C H' s' m,Inv X pins σ H' s' →s'.heap.Ns C m→gL X pins H' C→Q (.ref D) H' →RR (.ref D) C (.ok .next) s'):
  wpAny (model X.prog X.w) X.A (newList []) (fun acc s₃=>wpAny (model X.prog X.w) X.A (newFunctionEnv scope X.env.globals (cP X.env fr) [] X.env.qual none .none (some X.env)) (fun OH s₄=>
   codeAny (model X.prog X.w) X.A (.compStart (.ListComp elt [⟨target,iter,ifs,0⟩] scope pos) 0 (.ref it) acc {OH with scope:=relabel scope X.env}) (RR acc OH.locals) s₄) E s₃) E s2:=by
 refine wpAny_newObj_type (wpAny_newFunctionEnv B.cell (by intro y hy;simp at hy) (fun h₁ WN WO=> ?_) B.kind)
 have I3:Inv X pins σ (upd H2 s2.heap.objs.size (.lst [])) {s2 with heap:=s2.heap.push {cls:=.type "list",data:=.seq ([]:List Value).toArray}}:=I2.Lz (t' :=s2.toks) (its:=[]) .nil (ae' _)
 obtain ⟨W,⟨m0,w0⟩,turn⟩:=q s2.heap.objs.size (I2.bI.fresh (aeG _))
 generalize hH3:upd H2 s2.heap.objs.size (.lst [])=H3 at I3 w0
 have f3:∀b∈fp,gL X pins H3 b:=fun b hb=>by
  obtain ⟨a0,a1⟩:=f2 b hb
  refine ⟨?_,a1⟩
  obtain ⟨o,e,_⟩:=T.obj _ _ JT b hb
  rw [← hH3,aj (ae4 (Heap.lt_size e))]
  exact a0
 generalize hD:s2.heap.objs.size=D at*
 generalize Vu:({s2 with heap:=s2.heap.push {cls:=.type "list",data:=.seq ([]:List Value).toArray}}:Shared)=s3 at*
 have e3:s3.heap=s2.heap.push {cls:=.type "list",data:=.seq ([]:List Value).toArray}:=by rw [← Vu]
 have Od:Ki 0 s3.heap:=T.keep _ _ _ JT fun b _ o e=>by rw [e3];exact Heap.get?_push_of_some _ e
 have kept:∀b o,s3.heap.get? b=some o→h₁.get? b=some o:=fun b o e=>(WO.2 b (ae4 (Heap.lt_size e))).trans (Heap.get?_push_of_some _ e)
 generalize hC:s3.heap.objs.size=C at*
 have Vv:s3.heap.objs.size≤C:=ao' hC
 have I4:Inv X pins σ H3 {s3 with heap:=h₁,toks:=s3.toks+([]:List (Str×Value)).length}:=I3.kept kept
 have fpC:∀b∈fp,b≠C:=fun b hb z=>by
  obtain ⟨o,e,_⟩:=T.obj _ _ Od b hb
  exact absurd z (ae4 (aeT (Heap.lt_size e) Vv))
 have nst:∀b∈fp,b∉vJ X.stack:=fun b hb z=>(ae1.mp (I3.uC b z)).elim (f3 b hb).2.1 (f3 b hb).2.2.1
 have okB:(sG X (tn++fr) scope (cP X.env fr) C s3 H3 fp).Ok:=by
  refine ⟨I3.ok.mod,B.kind,I3.ok.glob,I3.ok.blt,Vv,fun x y c e1 e2=>I3.ok.inj x y c (eW e1) (eW e2),fun x hx=> ?_,fun x c z=>(nomatch z),I3.ok.hd,I3.ok.frames,.inl rfl,
   fun b hb=>⟨fpC b hb,fun x c e=>(f3 b hb).2.2.2.2.1 x c (eW e)⟩,I3.bs,ad_ I3.ok.FV I3.sz,fun b o e hb=> ?_,nst,I3.stack,I3.vK⟩
  ·have hm:∃k,(x,k)∈scope.names∧k≠.local∧(k=.cell∨k=.free):=by
    have:∃k',(relabel scope X.env).names.lookup x=some k' ∧(k' =.cell∨k' =.free):=by
     rcases hx with z | z
     ·exact ⟨_,z,.inl rfl⟩
     ·exact ⟨_,z,.inr rfl⟩
    obtain ⟨k',e',h'⟩:=this
    obtain ⟨⟨n,k⟩,hn,en⟩:=abt.mp (lookup_mem e')
    dsimp only at en
    by_cases cc:(k==NameKind.free && X.env.scope.kind==.function && X.env.kindOf n==some .cell)=true
    ·rw [if_pos cc] at en
     cases en
     have kf:k=.free:=by
      rw [afE,afE] at cc
      simpa using cc.1.1
     exact ⟨k,hn,(by intro z;rw [kf] at z;cases z),.inr kf⟩
    ·rw [if_neg cc] at en
     cases en
     exact ⟨k',hn,fun z' =>by rcases h' with y | y <;> (rw [y] at z';cases z'),h'⟩
   obtain ⟨k,hk,_,h2⟩:=hm
   rcases h2 with z | z
   ·exact absurd z (B.cell _ hk)
   ·have hf:=B.free _ hk z
    obtain ⟨c,ec⟩:=I3.ok.has x (B.out.at hf)
    exact ⟨c,jI ec hf⟩
  ·obtain ⟨_,_,_,h1,_⟩:=f3 b hb
   rcases h1 with z | z
   ·exact I3.ok.zP b o e z
   ·exact afj _ (aeT (aeT (Heap.lt_size e) I3.ok.FV) z)
 have IB:Inv (sG X (tn++fr) scope (cP X.env fr) C s3 H3 fp) [] (sB tn.length caps σ) H3 {s3 with heap:=h₁,toks:=s3.toks+([]:List (Str×Value)).length}:=by
  refine ⟨okB,rfl,I3.bare,Un.kept kept,⟨_,WN,fun i x v e1 e2 _=> ?_⟩,fun x c e=>I4.cell x c (eW e),?_,fun x c e=>I3.gD x c (eW e),fun p hp=>(nomatch hp),I3.bI.kept kept,?_⟩
  ·obtain ⟨hk,j,ej,es⟩:=LI e2
   have xE :fr[i - tn.length]? =some x:=by
    have z:(tn++fr)[i]? =some x:=e1
    rw [aeP hk] at z
    exact z
   have hx:x∈fr:=ir xE
   have eN:X.N[j]? =some x:=by
    have z:=congrArg (fun l:List (Option Str)=>l[i - tn.length]?) B.caps
    simp only [Wp,ej,xE,af0] at z
    exact aeY z
   have ko:=B.out.at hx
   obtain ⟨m,hn,hl⟩:=I4.loc
   obtain ⟨u,r,lk⟩:=hl j x v eN es (by rcases ko with z | z;exact .inr (.inl z);exact .inr (.inr z))
   refine ⟨u,r,?_⟩
   rcases lk with ⟨k1,_⟩ | ⟨_,c,ec,ic⟩
   ·rcases ko with z | z <;> (rw [z] at k1;cases k1)
   ·exact .inr ⟨B.inn.at hx,c,jI ec hx,ic⟩
  ·exact I3.bI.fresh Vv
  ·have:=congrArg afJ B.caps
   simp only [aa_] at this
   show (sB tn.length caps σ).length=(tn++fr).length
   unfold sB
   simp [this]
 have AY:∀{H' :Hp},(∀b∈fp,H' b=none)→∀b∈fp,gL (sG X (tn++fr) scope (cP X.env fr) C s3 H3 fp) [] H' b:=fun hn b hb=>
  ⟨hn b hb,fpC b hb,nst b hb,.inl hb,fun x c e=>(f3 b hb).2.2.2.2.1 x c (eW e),fun p hp=>(nomatch hp)⟩
 have st4:Ki 0 h₁:=T.keep _ _ _ Od fun b _ o e=>kept b o e
 have loop:codeAny (model X.prog X.w) X.A (.compLoop (.ListComp elt [⟨target,iter,ifs,0⟩] scope pos) 0 (.ref it) (.ref D) (compEnvC scope (cP X.env fr) C X.env)) (RR (.ref D) C) {s3 with heap:=h₁,toks:=s3.toks+([]:List (Str×Value)).length}:=by
  refine qh (fun n s' =>∃i σ' ys H',Inv (sG X (tn++fr) scope (cP X.env fr) C s3 H3 fp) [] σ' H' s' ∧Ki i s'.heap∧(∀b∈fp,H' b=none)∧W i n σ' ys H') ?_ m0 ⟨0,_,[],H3,IB,st4,fun b hb=>(f3 b hb).1,w0⟩
  rintro n s5 ⟨i,σ5,ys,H5,I5,Nu,Vt,w5⟩
  rcases turn i n σ5 ys H5 w5 with ⟨stop,qn⟩ | ⟨go,step⟩
  ·refine wpAny_mono (T.done (sG X (tn++fr) scope (cP X.env fr) C s3 H3 fp) rfl rfl rfl hc i [] s5 σ5 H5 (fun _ _=>False) I5 (AY Vt) Nu stop) (fun r s6 ⟨hr,I6⟩=> ?_) fun _ _ z=>z
   subst hr
   obtain ⟨m,hn,_⟩:=I6.loc
   have J6:Inv X pins σ H5 s6:=I3.N4 (ch:=fp) I6.os I6.base I6.bI I6.bare fun b hb=>⟨(f3 b hb).2.2.2.1,(f3 b hb).2.1,(f3 b hb).2.2.2.2.1,(f3 b hb).2.2.2.2.2⟩
   exact fin D C H5 s6 m J6 hn (I3.jF Vv I6.free) qn
  ·refine wpAny_mono (T.item (sG X (tn++fr) scope (cP X.env fr) C s3 H3 fp) rfl rfl rfl hc i [] s5 σ5 H5 (fun _ _=>False) I5 (AY Vt) Nu go) (fun r s6 ⟨u,hr,h6⟩=> ?_) fun _ _ z=>z
   subst hr
   refine wpAny_mono h6 (fun _ s7 ⟨x,H7,I7,r7,y7,WQ,LJ⟩=> ?_) fun _ _ z=>z
   have I7' :=I7.pinned (AY LJ) (T.obj _ _ WQ)
   have held:∀{σ' :L2.St} {H' :Hp} {s' :Shared},Inv (sG X (tn++fr) scope (cP X.env fr) C s3 H3 fp) ([]++lQ fp s7.heap) σ' H' s' →Ki (i+1) s'.heap∧∀b∈fp,H' b=none:=fun {σ' H' s'} I' =>by
    refine ⟨T.keep _ _ _ WQ fun b hb o e=>(I'.pin (b,o) (ae7 _ (ae7 _ (gj hb e)))).1,fun b hb=> ?_⟩
    obtain ⟨o,e,d⟩:=T.obj _ _ WQ b hb
    exact (I'.pin (b,o) (ae7 _ (ae7 _ (gj hb e)))).2.1
   refine wpAny_mono (hg C s3 H3 fp _ s7 σ5 H7 x u _ I7' r7 (step x H7 y7)) (fun _ s8 ⟨σ8,H8,I8,q8⟩=> ?_) fun _ _ z=>z
   refine wpAny_mono (ht C s3 H3 fp _ s8 σ8 H8 _ I8 q8) (fun ok s9 ⟨H9,I9,q9⟩=> ?_) fun _ _ z=>z
   cases ok with
   | false=>
    rw [if_neg aeQ] at q9
    obtain ⟨m',hm,w9⟩:=q9
    rw [if_neg aeQ]
    obtain ⟨a,b⟩:=held I9
    exact ⟨m',hm,i+1,σ8,ys,H9,I9.gM,a,b,w9⟩
   | true=>
    rw [if_pos rfl] at q9
    rw [if_pos rfl]
    refine wpAny_mono (he C s3 H3 fp _ s9 σ8 H9 _ I9 q9) (fun v qi ⟨y,HF,I10,r10,hDD,hl,m',hm,w10⟩=> ?_) fun _ _ z=>z
    refine wpAny_mono (cW (X:=sG X (tn++fr) scope (cP X.env fr) C s3 H3 fp) _ qi σ8 HF (.ref D) [y] (.ref D) [v] (fun _ H' =>W (i+1) m' σ8 (ys++[y]) H') I10 rfl (.cons r10 .nil) ⟨D,ys,y,rfl,rfl,hDD,hl,w10⟩) (fun _ vZ ⟨z,LK,I11,_,q11⟩=> ?_) fun _ _ z=>z
    obtain ⟨a,b⟩:=held I11
    exact ⟨m',hm,i+1,σ8,ys++[y],LK,I11.gM,a,b,q11⟩
 exact codeAny_compStart_list loop (T.self X.A 0 _ _ _ st4 loop)
theorem cD {elt target iter:Expr}{ifs:List Expr}{scope:Scope}{pos:Pos}{tn fr:List Str}{caps:List Nat}{wi:TI}{g:TG}{tt:TT}{te:TE}(hc:X.calm=true)(B:LH X scope fr caps)(hi:PI X target iter wi)
  (hg:∀C s H fp,PG (sG X (tn++fr) scope (cP X.env fr) C s H fp) target g) (ht:∀C s H fp,PF (sG X (tn++fr) scope (cP X.env fr) C s H fp) ifs tt) (he:∀C s H fp,PE (sG X (tn++fr) scope (cP X.env fr) C s H fp) elt te)
  (hs:∀x,foldedSetIterable iter X.env x=pure x:=by intro _;rfl):PE X (.ListComp elt [⟨target,iter,ifs,0⟩] scope pos) (Kh tn.length caps wi g tt te):=by
 intro pins s σ H Q I h
 rw [eval_ListComp]
 refine wpAny_comprehension_free (use:=none) rfl hs B.OG B.kind B.names (b9 (hi pins s σ H _ I h) fun v s1 h1=>b9 h1 fun Vs s2 h2=> ?_)
 obtain ⟨it,fp,Ki,J,H2,rfl,I2,T,JT,f2,q⟩:=h2
 refine mi (Q:=Q) (RR:=fun acc C=>compPost (model X.prog X.w) X.A X.xe none (EP X pins σ Q) acc C) hc B hg ht he I2 T JT f2 q ?_
 intro D C H' s' m I' hn fc qq
 obtain ⟨g0,g1,g2,g3,g4,g5⟩:=fc
 exact ⟨m,hn,fun h' Kj =>⟨.ref D,H',I'.turned (t' :=s'.toks) (fun b o hb e=>(Kj.2 b hb).trans e) g0 g1 g3 g4 g5,rfl,qq⟩⟩
theorem g6 {i:Nat}{y:Str}{py:Pos}{OI:Pos}{elt target iter:Expr}{ifs:List Expr}{scope:Scope}{pos:Pos}{tn fr:List Str}{caps:List Nat}{wi:TI}{g:TG}{tt:TT}{te:TE}(hN:X.N.Nodup)(hiN:X.N[i]? =some y)(hx:Loc X.env.scope y)
  (hc:X.calm=true) (B:LH X scope fr caps) (hi:PI X target iter wi)
  (hg:∀C s H fp,PG (sG X (tn++fr) scope (cP X.env fr) C s H fp) target g) (ht:∀C s H fp,PF (sG X (tn++fr) scope (cP X.env fr) C s H fp) ifs tt) (he:∀C s H fp,PE (sG X (tn++fr) scope (cP X.env fr) C s H fp) elt te)
  (Kk:swapsWith (.ListComp elt [⟨target,iter,ifs,0⟩] scope pos) (some (.Name y py)) OI.line X.env=pure true:=by rfl)
  (hs:∀x,foldedSetIterable iter X.env x=pure x:=by intro _;rfl) (hf:X.fn y=true∨X.env.scope.names.lookup y=some .local:=by first | exact .inl rfl | exact .inr rfl | assumption):
  PS X (.Assign [.Name y py] (.ListComp elt [⟨target,iter,ifs,0⟩] scope pos) OI) (Lh (Kh tn.length caps wi g tt te) (cZ i)):=by
 intro pins s σ H D I h
 rw [exec_Assign_Name_used _ _ _ _ Kk]
 refine wpAny_bind (wpAny_standAt (wpAny_bind ?_))
 show wpAny _ X.A (do let _ ← comprehension (.ListComp elt [⟨target,iter,ifs,0⟩] scope pos) scope X.env _ (newList []) false (eval iter X.env) (some (assign (.Name y py) X.env))) _ _ s
 refine wpAny_bind (wpAny_mono (wpAny_comprehension_free (use:=some (assign (.Name y py) X.env)) (Q:=fun _ s' =>SP X pins D .next s') rfl hs B.OG B.kind B.names
  (b9 (hi pins s σ H _ I h) fun v s1 h1=>b9 h1 fun Vs s2 h2=> ?_)) (fun _ s' hq=>wpAny_pure (wpAny_pure hq)) fun _ _ e=>e)
 obtain ⟨it,fp,Ki,J,H2,rfl,I2,T,JT,f2,q⟩:=h2
 refine mi (Q:=fun v H1=>cZ i v σ H1 D.nx) (RR:=fun acc C=>compPost (model X.prog X.w) X.A X.xe (some (assign (.Name y py) X.env)) (fun _ s' =>SP X pins D .next s') acc C) hc B hg ht he I2 T JT f2 q ?_
 intro DD C H' s' m I' hn fc qq
 obtain ⟨g0,g1,g2,g3,g4,g5⟩:=fc
 show wpAny _ X.A (assign (.Name y py) X.env (.ref DD)) _ _ _
 refine wpAny_assign_Name (oE I' hN hiN hx (v:=.ref DD) (u:=.ref DD) rfl (fun Om I'' ⟨a,sb,ha⟩=> ?_) hf)
 have hCa:C≠a:=by
  rcases ha with z | z
  ·rw [z]
   exact g1
  ·exact fun e=>g4 y a z e.symm
 exact ⟨m,hn.sameBut sb hCa,fun h' Kj =>⟨_,H',I''.turned (t' :=Om.toks) (fun b o hb e=>(Kj.2 b hb).trans e) g0 g1 g3 g4 g5,qq⟩⟩
end
section
variable {D:Addr}{te:TE}{cap:L2.St}{H1:Hp}{Q:VK}
theorem uR {J:It}(n:Nat)(xs:Nat→V)(Pv:Nat→List V→Hp→Prop)(h0:Pv 0 [] (upd H1 D (.lst [])))
  (go:∀i ys H,i < n→Pv i ys H→J.go i H∧∀x H',J.zB i H x H' →H' =H∧x=xs i) (stop:∀ys H,Pv n ys H→J.stop n H)
  (hs:∀i ys H (R:VK),i < n→Pv i ys H→H D=some (.lst ys)→(∀v H6,H6 D=some (.lst ys)→ys.length < sizeLine→Pv (i+1) (ys++[v]) (upd H6 D (.lst (ys++[v])))→R v H6)→te (some (xs i)::cap) H R)
  (hd:∀ys H,Pv n ys H→H D=some (.lst ys)→Q (.ref D) H):kJ D (cZ 0) jb te J (none::cap) H1 Q:=by
 refine ⟨fun i m σ ys H=>m=n - i∧i≤n∧(∃o,σ=o::cap)∧Pv i ys H∧H D=some (.lst ys),⟨n,by simp,ae' _,⟨none,rfl⟩,h0,ak⟩,?_⟩
 rintro i m σ ys H ⟨rfl,hi,⟨o,rfl⟩,p,hD⟩
 by_cases kF:i < n
 ·obtain ⟨g1,g2⟩:=go i ys H kF p
  refine .inr ⟨g1,fun x H' y=> ?_⟩
  obtain ⟨e1,e2⟩:=g2 x H' y
  subst e1 e2
  unfold cZ jb
  dsimp only
  rw [if_pos rfl]
  exact hs i ys _ _ kF p hD fun v H6 a b c=>⟨a,b,n - (i+1),by omega,rfl,by omega,⟨_,rfl⟩,c,ak⟩
 ·have e:i=n:=by omega
  subst e
  exact .inl ⟨stop ys H p,hd ys H p hD⟩
end
section
variable {X:Cx}{tg:Expr}
end
section
variable {prog:Program}{w:World}{A:Around}{E:Value→Shared→Prop}
end
structure OJ (K:Frag)(C:Addr):Prop where
 makes:PySem.W.makesIn K C=true
 init:PySem.W.findIn K (.ref C) "__init__"=some (some (.builtin "object.__init__"))
 kp:keepIn K (.ref C)=true
def OK (C:Addr):TE:=fun _ H Q=>∀x dx,H x=none→H dx=none→dx≠x→Q (.ref x) (upd (upd H dx (.own x)) x (.ins C dx []))
section
variable {X:Cx}
theorem HG {pins:List (Addr×Obj)}{σ:L2.St}{H:Hp}{s:Shared}{Q:VK}{C:Addr}(M:OJ X.K C)(I:Inv X pins σ H s)(h:OK C σ H Q):wpAny (model X.prog X.w) X.A (call (.ref C) []) (EP X pins σ Q) X.xe s:=by
 have hq:=h (s.heap.objs.size+1) s.heap.objs.size (I.bI.fresh (aps _)) (I.bI.fresh (aeG _)) (ae4 (afe _))
 have I2:=Inv.made (C:=C) I
 have Y:=PySem.W.makes_of (M:=model X.prog X.w) I.iB M.makes
 refine wpAny_call (xr I.iB M.makes M.init (fun self=>PySem.W.Looks.of_pure (PySem.W.oi_bind self)) ?_)
 have ho:((s.heap.push PySem.W.emptyDict).push (PySem.W.instObj C s.heap.objs.size)).get? (s.heap.objs.size+1)=some (PySem.W.instObj C s.heap.objs.size):=by
  have:=Heap.get?_push_size (s.heap.push PySem.W.emptyDict) (o:=PySem.W.instObj C s.heap.objs.size) rfl
  rwa [Heap.size_push] at this
 have t1:PySem.W.Looks (model X.prog X.w) ((s.heap.push PySem.W.emptyDict).push (PySem.W.instObj C s.heap.objs.size)) (typeOf (.ref (s.heap.objs.size+1))) (.ref C):=(PySem.W.Looks.ld ho).andThen .now
 have t2:PySem.W.Looks (model X.prog X.w) ((s.heap.push PySem.W.emptyDict).push (PySem.W.instObj C s.heap.objs.size)) (isInstance (.ref (s.heap.objs.size+1)) (.type "object")) true:=
  t1.andThen (Y.top.keeps fun b o e=>Heap.get?_push_of_some _ (Heap.get?_push_of_some _ e))
 refine codeAny_call_builtin PySem.W.oi_plain PySem.W.entry_oi (@PySem.W.check_slot (model X.prog X.w) _ _ _ "object.__init__" "object" "__init__" (.ref (s.heap.objs.size+1)) [] [] _ PySem.W.oi_kind PySem.W.oi_split t2 (PySem.W.oi_args (.ref (s.heap.objs.size+1))) ?_)
 rw [PySem.W.oi_run]
 exact wpAny_pure (And.intro rfl ⟨V.ref (s.heap.objs.size+1),_,I2,rfl,hq⟩)
theorem LL {x:Str}{p pos:Pos}{C:Addr}(M:OJ X.K C)(hg:Gl X x)(hm:X.mg x=some (.ref C))(xw:(x==("__debug__":Str))=false:=by decide):PE X (.Call (.Name x p) [] [] pos) (OK C):=by
 intro pins s σ H Q I h
 refine wpAny_Call_Name_kw (iY I hg hm ?_ xw)
 exact PySem.W.callWith_K0 I.iB M.kp (HG M I h)
end
structure bJ (P:Program)(w:World)(K:Frag)(mg:Str→Option Value)(base:Heap)(CX:jD)(k:Nat)(C:Addr)(m:Str)(ps:List Str)(sp:Sp):Prop where
 ex:∃(f:Addr) (fd:FuncData),rY K C∧Meth K C m f∧cM P w K mg base CX k f fd ps sp∧Binds K fd ps []
theorem bJ.mono {P:Program}{w:World}{K:Frag}{mg:Str→Option Value}{base:Heap}{CX:jD}{j k:Nat}{C:Addr}{m:Str}{ps:List Str}{sp:Sp}(M:bJ P w K mg base CX j C m ps sp)(h:j≤k):bJ P w K mg base CX k C m ps sp:=by
 obtain ⟨f,fd,a,b,c,d⟩:=M.ex
 exact ⟨f,fd,a,b,c.mono h,d⟩
section
variable {X:Cx}{CX:jD}{k:Nat}{E:XK}{m:Str}{pos apos:Pos}{e o:Expr}{es:List Expr}{ta:TE}{t:TA}
inductive Kl (P:Program)(w:World)(K:Frag)(mg:Str→Option Value)(base:Heap)(CX:jD)(k:Nat)(m:Str)(E:XK)(t:TA)(σ:L2.St)(Q:VK)(x:V)(H1:Hp):Prop where
 | mk (a C dx fs ps sp:_) (_:x=.ref a) (_:H1 a=some (.ins C dx fs)) (_:fs.lookup m=none) (_:bJ P w K mg base CX k C m ps sp) (_:t σ H1 fun vs H2=>sp (x::vs) H2 Q E):Kl P w K mg base CX k m E t σ Q x H1
def OL (P:Program)(w:World)(K:Frag)(mg:Str→Option Value)(base:Heap)(CX:jD)(k:Nat)(m:Str)(E:XK)(ta:TE)(t:TA):TE:=fun σ H Q=>ta σ H fun x H1=>Kl P w K mg base CX k m E t σ Q x H1
theorem dF {pl:Sem Bool}(he:PE X o ta)(hr:cy k X.A)(hx:Passes CX X E)
  (ht:eval (.Call (.Attribute o m apos) [] [] pos) X.env=(do
   let ov ← eval o X.env
   standAt apos.atName
   let (f,first) ← holding [ov] (getMethod ov m pl)
   callWith pos f first (backTo pos (starEach [] X.env)) (backToKw pos (keywordEach [] X.env))):=by rfl):
  PE X (.Call (.Attribute o m apos) [] [] pos) (OL X.prog X.w X.K X.mg X.base CX k m E ta gN):=by
 intro pins s σ H Q I h
 refine PySem.W.methodCall_KW (pl:=pl) (b9 (he pins s σ H _ I h) fun u s1 ⟨x,H1,I1,rx,a,C,dx,fs,ps,sp,ex,ea,l,M,q⟩=> ?_) ht
 subst ex
 obtain rfl:u=Value.ref a:=rx
 obtain ⟨f,fd,c,hm,F,hb⟩:=M.ex
 refine iD I1 ea c hm l ?_
 exact PySem.W.callWith_K0 (first:=[.ref a]) I1.iB hm.kp (pZ (us:=[.ref a]) (vs:=[.ref a]) (dvs:=[]) F hr hb .nil hx I1 (.cons rfl .nil) q)
theorem c_ {pl:Sem Bool}(he:PE X o ta)(hr:cy k X.A)(hx:Passes CX X E)(ha:PA X (e::es) t)
  (F':starEach (e::es) X.env=(false,eval e X.env)::starEach es X.env:=by rfl) (vS:(backTo pos (starEach es X.env)).any (·.1)=false:=by rfl)
  (ht:eval (.Call (.Attribute o m apos) (e::es) [] pos) X.env=(do
   let ov ← eval o X.env
   standAt apos.atName
   let (f,first) ← holding [ov] (getMethod ov m pl)
   callWith pos f first (backTo pos (starEach (e::es) X.env)) (backToKw pos (keywordEach [] X.env))):=by rfl):
  PE X (.Call (.Attribute o m apos) (e::es) [] pos) (OL X.prog X.w X.K X.mg X.base CX k m E ta t):=by
 intro pins s σ H Q I h
 refine PySem.W.methodCall_KW (pl:=pl) (b9 (he pins s σ H _ I h) fun u s1 ⟨x,H1,I1,rx,a,C,dx,fs,ps,sp,ex,ea,l,M,q⟩=> ?_) ht
 subst ex
 obtain rfl:u=Value.ref a:=rx
 obtain ⟨f,fd,c,hm,F,hb⟩:=M.ex
 refine iD I1 ea c hm l ?_
 refine PySem.W.callWith_K (first:=[.ref a]) (h₀:=X.base) I.ok.mod.Nt hm.kp (b9 (ha pos pins s1 σ H1 _ I1 q) fun us s2 ⟨vs,H2,I2,r,q2⟩=>⟨I2.iB,?_⟩) F' vS
 refine pZ (us:=.ref a::us) (vs:=.ref a::vs) (dvs:=[]) F hr hb .nil hx I2 (.cons rfl r) ?_
 rw [agt]
 exact q2
end
theorem mj {X:Cx}{CX:jD}(h:sy CX)(e:X.xe=fun _ _=>False):Passes CX X E0:=fun _ _ _ _ _ _ _ q=>(h _ _ _ _ _ q).elim
section
variable {σ:L2.St}{H:Hp}{Q:VK}{QB:Bool→Hp→Prop}{QA:List V→Hp→Prop}{D:Ends}{t u:TS}{ta tb te:TE}{tc td:TT}{t1:TA}
end
section
variable {X:Cx}
inductive OM (x:V)(lo:Option Int)(hi:Option Int)(H:Hp)(Q:VK):Prop where
 | mk (z:_) (_:x=.str z) (_:z.length≤sizeLine) (_:Q (.str (Txt.slice z lo hi)) H):OM x lo hi H Q
theorem LM:Wy X OM:=by
 intro pins s σ H x v vl vu lo hi sl Q I rx hs pl pu h
 obtain ⟨z,rfl,hz,q⟩:=h
 obtain ⟨t,rfl⟩:=rx
 refine ⟨"str",_,F.slot_str_getitem.lookup,typeIs_str _ _ _,?_⟩
 cases pl <;> cases pu
 ·exact wpAny_getItem_str_slice (l:=none) (u:=none) (st:=none) hs rfl (post_val_or_str ⟨ad_ (Txt.slice_le z _ _) hz,fun t' k=>⟨.str _,H,I.tok k,⟨t',rfl⟩,q⟩⟩)
 ·rename_i j uj
  exact wpAny_getItem_str_slice (l:=none) (u:=some (j,uj)) (st:=none) hs rfl (post_val_or_str ⟨ad_ (Txt.slice_le z _ _) hz,fun t' k=>⟨.str _,H,I.tok k,⟨t',rfl⟩,q⟩⟩)
 ·rename_i i ui
  exact wpAny_getItem_str_slice (l:=some (i,ui)) (u:=none) (st:=none) hs rfl (post_val_or_str ⟨ad_ (Txt.slice_le z _ _) hz,fun t' k=>⟨.str _,H,I.tok k,⟨t',rfl⟩,q⟩⟩)
 ·rename_i i ui j uj
  exact wpAny_getItem_str_slice (l:=some (i,ui)) (u:=some (j,uj)) (st:=none) hs rfl (post_val_or_str ⟨ad_ (Txt.slice_le z _ _) hz,fun t' k=>⟨.str _,H,I.tok k,⟨t',rfl⟩,q⟩⟩)
inductive Km (x:V)(y:V)(H:Hp)(Q:VK):Prop where
 | mk (z n:_) (_:x=.str z) (_:y=.int n) (_:MulOk z n) (_:Q (.str (Txt.mul z n)) H):Km x y H Q
theorem qj:ib X (binaryOp .Mult) Km:=by
 intro pins s σ H x y v u Q I rx ry h
 obtain ⟨z,n,rfl,rfl,ok,q⟩:=h
 obtain ⟨t,rfl⟩:=rx
 obtain ⟨t',rfl⟩:=ry
 exact SB.mul ok fun t' k=>⟨.str _,H,I.tok k,⟨t',rfl⟩,q⟩
theorem all_range (bs:List Bool):(afV bs.length).all (fun i=>(bs[i]?).getD true)=bs.all id:=by
 induction bs with
 | nil=>rfl
 | cons b r ih=>
  rw [ae6,aoG,agq,apb,agq, ← ih]
  rfl
inductive ON (K:Frag)(xs:List V)(H:Hp)(Q:VK):Prop where
 | mk (p:Addr) (bs:List Bool) (_:xs=[.ref p]) (_:aU K H p (bs.map V.bl)) (_:Q (.bl (bs.all id)) H):ON K xs H Q
theorem oP (hc:X.calm=true):eg X (.builtin "all") (ON X.K):=by
 intro pins s σ H xs us Q I r h
 obtain ⟨p,bs,rfl,hq,q⟩:=h
 obtain ⟨u,rfl,r1⟩:=vals1 r
 cases r1
 obtain ⟨its,rv,pl,hz⟩:=I.list hq
 refine call_all_walk (wpAny_pyIter_list pl.isList ?_)
 have zC:p≠s.heap.objs.size:=by obtain ⟨o,ho,_⟩:=pl.isList;exact ae4 (Heap.lt_size ho)
 have I1:Inv X pins σ H {s with heap:=s.heap.push {cls:=.type "list_iterator",data:=.fields #[.ref p,.int 0 0]}}:=I.kept (t' :=s.toks) fun b o e=>Heap.get?_push_of_some _ e
 obtain ⟨f0,f1,f2,f3,f4,f5⟩:=I.jF (H' :=H) (aeG s.heap.objs.size) (I.bI.fresh (aeG _))
 have hl:its.length=bs.length:=by rw [← rv.length,aa_]
 refine ⟨s.heap.objs.size,_,_,_,_,_,fun i=>(bs[i]?).getD true,rfl,Walks.list (A:=X.A.in1) (I.ok.hd hc) s.heap.objs.size p zC its.toArray,⟨⟨_,Heap.get?_push_size _ rfl,rfl,rfl⟩,pl.isList.at fun o e=>Heap.get?_push_of_some _ e⟩,?_,fun h' tk kk=> ?_⟩
 ·intro i v s' Q' E' hv kG
  have Lq :its[i]? =some v:=by simpa using hv
  have hi:i < bs.length:=by rw [← hl];exact (be.mp Lq).1
  have eb:(bs.map V.bl)[i]? =some (.bl bs[i]):=by rw [Wp,gE hi];rfl
  obtain ⟨u,eu,ru⟩:=rv.get eb
  rw [Lq] at eu
  cases eu
  cases ru
  dsimp only at kG
  rw [gE hi] at kG
  exact wpAny_truthy_bool kG
 ·refine ⟨.bl (bs.all id),H,I1.turned (t' :=tk) (it:=s.heap.objs.size) (fun b o hb e=>kk b o (by simpa using hb) e) f0 f1 f3 f4 f5,?_,q⟩
  show _=_
  rw [← all_range bs,aeU,hl]
end
end Ty
set_option maxHeartbeats 4000000
namespace Ty
open PySem PySem.Spec PyProof.Rows L2 PySem.NumText
def dg (m:Nat):List Nat:=(Nat.toDigits 10 m).map Char.toNat
def tx (n:Int):Str:=Str.ofString (toString n)
def OO:Str:=Str.ofString "/"
def nt (q:Int×Int):Str:=if q.2=1 then tx q.1 else tx q.1++OO++tx q.2
end Ty
set_option maxHeartbeats 4000000
namespace Ty
open PySem PySem.Spec PyProof.Rows L2 PySem.NumText
section
variable {X:Cx}
end
def isStar:Expr→Bool
 | .Starred .. =>true
 | _=>false
theorem xF {e:Expr}{es:List Expr}{env:Env}(h:isStar e=false):starEach (e::es) env=(false,eval e env)::starEach es env:=by
 cases e <;> first | rfl | (cases h;done)
theorem aq {X:Cx}{e:Expr}{es:List Expr}{te:TE}{t:TA}(ha:PE X e te)(hr:PA X es t)(h:isStar e=false:=by rfl):PA X (e::es) (JY te t):=GP ha hr (xF h)
end Ty
set_option maxHeartbeats 4000000
namespace Ty
open PySem PySem.Spec PyProof.Rows L2
section
variable {D:Addr}{te:TE}{cap:L2.St}{H1:Hp}{Q:VK}
def bT (D:Addr)(H H' :Hp):Prop:=∀b o,b≠D→H b=some o→H' b=some o
theorem bT.of {H H' :Hp}(s:av H H'):bT D H H' :=fun b o _ e=>s b o e
theorem bT.upd {H:Hp}{o:HO}:bT D H (upd H D o):=fun b o' n e=>by rw [aj n];exact e
theorem sH {J:It}(n:Nat)(xs:Nat→V)(Rel:Nat→V→Hp→Prop)(nD:H1 D=none)(hn:n < sizeLine)
  (go:∀i H,i < n→av H1 H→J.go i H∧∀x H',J.zB i H x H' →H' =H∧x=xs i) (stop:∀H,av H1 H→J.stop n H)
  (hR:∀i v H H' ys,H D=some (.lst ys)→bT D H H' →Rel i v H→Rel i v H')
  (he:∀i H (R:VK),i < n→av H1 H→(∀v H6,av H H6→Rel i v H6→R v H6)→te (some (xs i)::cap) H R)
  (hd:∀ys H,ys.length=n→(∀i v,ys[i]? =some v→Rel i v H)→av H1 H→H D=some (.lst ys)→Q (.ref D) H):
  kJ D (cZ 0) jb te J (none::cap) H1 Q:=by
 refine uR n xs (fun i ys H=>ys.length=i∧(∀i v,ys[i]? =some v→Rel i v H)∧av H1 H) ⟨rfl,fun i v e=>by simp at e,fun b o e=>by rw [aj (au e nD)];exact e⟩ ?_ ?_ ?_ ?_
 ·rintro i ys H hi ⟨_,_,s⟩
  exact go i H hi s
 ·rintro ys H ⟨_,_,s⟩
  exact stop H s
 ·rintro i ys H R hi ⟨l,r,s⟩ hD k
  refine he i H R hi s fun v H6 s6 rv=>k v H6 (s6 _ _ hD) (by omega) ⟨by simp [l],fun j u e=> ?_,fun b o e=> ?_⟩
  ·by_cases c:j < ys.length
   ·rw [aeL c] at e
    have ru:=hR j u H H6 ys hD (bT.of s6) (r j u e)
    exact hR j u H6 _ ys (s6 _ _ hD) bT.upd ru
   ·rw [aeP (by omega)] at e
    have ej:j=i:=by
     by_cases z:j - ys.length=0
     ·omega
     ·rw [aeE (by simp;omega)] at e
      cases e
    subst ej
    have:v=u:=by
     rw [show j - ys.length=0 by omega] at e
     exact aeY e
    subst this
    exact hR j v H6 _ ys (s6 _ _ hD) bT.upd rv
  ·rw [aj (au e nD)]
   exact s6 _ _ (s _ _ e)
 ·rintro ys H ⟨l,r,s⟩ hD
  exact hd ys H l r s hD
theorem b_ {K:Frag}{a:Addr}{xs:List V}(Rel:Nat→V→Hp→Prop)(nD:H1 D=none)(hn:xs.length < sizeLine)(hS:∀H,av H1 H→aU K H a xs)
  (hR:∀i v H H' ys,H D=some (.lst ys)→bT D H H' →Rel i v H→Rel i v H')
  (he:∀i x H (R:VK),xs[i]? =some x→av H1 H→(∀v H6,av H H6→Rel i v H6→R v H6)→te (some x::cap) H R)
  (hd:∀ys H,ys.length=xs.length→(∀i v,ys[i]? =some v→Rel i v H)→av H1 H→H D=some (.lst ys)→Q (.ref D) H):
  kJ D (cZ 0) jb te (GB K a) (none::cap) H1 Q:=by
 refine sH xs.length (fun i=>(xs[i]?).getD .cE) Rel nD hn (fun i H hi s=>⟨⟨xs,xs[i],hS H s,gE hi⟩,fun x H' y=>⟨y.1,?_⟩⟩) (fun H s=>⟨xs,hS H s,aeG _⟩) hR (fun i H R hi s k=> ?_) hd
 ·rw [y.2 xs (hS H s)];rfl
 ·have e:xs[i]? =some xs[i]:=gE hi
  have k' :=he i _ H R e s k
  rw [← (show (xs[i]?).getD .cE=xs[i] by rw [e];rfl)] at k'
  exact k'
theorem uS {lo:Int}{n:Nat}(Rel:Nat→V→Hp→Prop)(nD:H1 D=none)(hn:n < sizeLine)
  (hR:∀i v H H' ys,H D=some (.lst ys)→bT D H H' →Rel i v H→Rel i v H')
  (he:∀(i:Nat) H (R:VK),i < n→av H1 H→(∀v H6,av H H6→Rel i v H6→R v H6)→te (some (.int (lo+i))::cap) H R)
  (hd:∀ys H,ys.length=n→(∀i v,ys[i]? =some v→Rel i v H)→av H1 H→H D=some (.lst ys)→Q (.ref D) H):
  kJ D (cZ 0) jb te (Lj lo n) (none::cap) H1 Q:=
 sH n (fun i=>.int (lo+i)) Rel nD hn (fun i H hi s=>⟨hi,fun x H' y=>y⟩) (fun H s=>aeG n) hR he hd
end
section
variable {X:Cx}{pins:List (Addr×Obj)}{σ:L2.St}{H:Hp}{s:Shared}{h' :Heap}
theorem Inv.g7 {t' :Nat}{fp:List Addr}(I:Inv X pins σ H s)(k:∀b o,b∉fp→s.heap.get? b=some o→h'.get? b=some o)(hf:∀b∈fp,gL X pins H b):Inv X pins σ H {s with heap:=h',toks:=t' }:=by
 have JN:∀b u,H b=some u→b∉fp:=fun b u e z=>by rw [(hf b z).1] at e;cases e
 refine I.step (g' :=s.gens) (d' :=s.drawn) (ch:=fp) (fun b hb=> ?_) (fun b o _ _ hc e _=>k b o hc e) (fun b o _ _ hc e _=>⟨o.slots,k b o hc e⟩) (fun _ _ _ _ n=>n)
  (fun b o hc e=>⟨o,k b o hc e⟩) (fun _ _ e=>e) (fun _ _ _ e=>e) (fun b ps e=>⟨#[],by rw [e];simp⟩) (fun m hm=> ?_) (fun b u e=> ?_) I.bare
 ·obtain ⟨f0,f1,f2,f3,f4,f5⟩:=hf b hb
  exact ⟨f3,f1,f4,f5⟩
 ·obtain ⟨o,es,ep,ho,r⟩:=hm
  exact ⟨o,es,ep,k _ o (fun z=>(hf _ z).2.1 rfl) ho,r⟩
 ·refine (I.bI b u e).nZ (fun c v hc q=>k c v ?_ q) (fun _ q=>q) fun _ _ q=>q
  rcases hc with z | z
  ·rw [z];exact JN b u e
  ·exact JN c _ z
theorem Inv.qk {t' :Nat}{fp:List Addr}{T:Addr}{xs:List V}{its:List Value}(I:Inv X pins σ H s)(k:∀b o,b∉fp→s.heap.get? b=some o→h'.get? b=some o)(hf:∀b∈fp,gL X pins H b)(hT:s.heap.objs.size≤T)
  (hz:xs.length≤sizeLine) (rv:Vals xs its) (ht:IsTup h' T its.toArray):Inv X pins σ (upd H T (.tup xs)) {s with heap:=h',toks:=t' }:=by
 have hn:=I.bI.fresh hT
 have JN:∀b u,H b=some u→b∉fp:=fun b u e z=>by rw [(hf b z).1] at e;cases e
 have ne:∀b o,s.heap.get? b=some o→b≠T:=fun b o e=>ae4 (aeT (Heap.lt_size e) hT)
 refine I.step (g' :=s.gens) (d' :=s.drawn) (ch:=fp) (fun b hb=> ?_) (fun b o _ _ hc e _=>k b o hc e) (fun b o _ _ hc e _=>⟨o.slots,k b o hc e⟩) (fun b o _ e n=>by rw [aj (ne b o e)];exact n)
  (fun b o hc e=>⟨o,k b o hc e⟩) (fun b ys e=>by rw [aj (au e hn)];exact e) (fun b o u e=>by rw [aj (au e hn)];exact e) (fun b ps e=>⟨#[],by rw [aj (au e hn),e];simp⟩) (fun m hm=> ?_) (fun b u e=> ?_) I.bare
 ·obtain ⟨f0,f1,f2,f3,f4,f5⟩:=hf b hb
  exact ⟨f3,f1,f4,f5⟩
 ·obtain ⟨o,es,ep,ho,r⟩:=hm
  exact ⟨o,es,ep,k _ o (fun z=>(hf _ z).2.1 rfl) ho,r⟩
 ·by_cases hb:b=T
  ·subst hb
   rw [ak] at e
   cases e
   exact ⟨hz,its,rv,ht⟩
  ·rw [aj hb] at e
   refine (I.bI b u e).nZ (fun c v hc q=>k c v ?_ q) (fun c q=>by rw [aj (au q hn)];exact q) fun c ys q=>by rw [aj (au q hn)];exact q
   rcases hc with z | z
   ·rw [z];exact JN b u e
   ·exact JN c _ z
end
def Vw (K:Frag)(a b:Addr):It:=
 ⟨fun i H=>∃xs ys x y,aU K H a xs∧aU K H b ys∧xs[i]? =some x∧ys[i]? =some y,
  fun i H v H' =>∃p x y,(∀xs,aU K H a xs→xs[i]? =some x)∧(∀ys,aU K H b ys→ys[i]? =some y)∧v=.ref p∧H p=none∧H' =upd H p (.tup [x,y]),
  fun i H=>∃xs ys,aU K H a xs∧aU K H b ys∧(xs.length≤i∨ys.length≤i)⟩
theorem AZ {P:Program}{w:World}{K:Frag}{es:List Expr}{k:Nat}{pos:Pos}(a b z TI TO i1 i2:Addr)(D:ZipApart z TI TO i1 i2 a b):
  Turn P w K (.Tuple es k pos) (Vw K a b) [z,TI,TO,i1,i2] z (fun i h=>IsZip h z TI TO .none∧IsPair h TI (.ref i1) (.ref i2)∧(∃x y,IsPair h TO x y)∧h.IsListIter i1 a i∧h.IsListIter i2 b i) where
 mem:=by simp
 obj:=fun i h st c hc=>by
  obtain ⟨hz,iG,⟨x,y,oQ⟩,⟨o1,e1,c1,d1⟩,⟨o2,e2,c2,d2⟩⟩:=st
  have oF :c=z∨c=TI∨c=TO∨c=i1∨c=i2:=by simpa using hc
  rcases oF with e | e | e | e | e <;> subst e
  ·exact ⟨_,hz,fun v z=>by cases z⟩
  ·exact ⟨_,iG,fun v z=>by cases z⟩
  ·exact ⟨_,oQ,fun v z=>by cases z⟩
  ·exact ⟨_,e1,fun v z=>by rw [d1] at z;cases z⟩
  ·exact ⟨_,e2,fun v z=>by rw [d2] at z;cases z⟩
 keep:=fun i h h' st k=>by
  obtain ⟨hz,iG,⟨x,y,oQ⟩,h1,h2⟩:=st
  exact ⟨k z (by simp) _ hz,k TI (by simp) _ iG,⟨x,y,k TO (by simp) _ oQ⟩,h1.at fun o e=>k i1 (by simp) o e,h2.at fun o e=>k i2 (by simp) o e⟩
 item:=by
  intro X hP hw hK hc i pins s σ H E I hf st hg
  subst hP hw hK
  obtain ⟨hz,iG,⟨x0,y0,oQ⟩,h1,h2⟩:=st
  obtain ⟨xs,ys,x,y,qx,qy,ex,ey⟩:=hg
  obtain ⟨its,rv,p,_⟩:=I.list qx
  obtain ⟨Nw,rN,p',_⟩:=I.list qy
  obtain ⟨u,hu,ru⟩:=rv.get ex
  obtain ⟨v,hv,rv'⟩:=rN.get ey
  refine wpAny_pyNext_zip_item D hz iG oQ h1 h2 p.isList p'.isList (x:=u) (y:=v) (by simpa using hu) (by simpa using hv) fun h' a1 a2 a3 a4 a5 a6 a7=> ?_
  refine ⟨_,rfl,wpAny_letOwnedTupleGo_zip (s:={s with heap:=h' }) a1 fun EV b1 sb=> ?_⟩
  have nz:∀c,c≠z→∀o,h'.get? c=some o→EV.get? c=some o:=fun c hc o e=>(sb.2 c hc).trans e
  have kk:∀b o,b∉[z,TI,TO,i1,i2]→s.heap.get? b=some o→EV.get? b=some o:=fun b o hb e=>by
   have gF :b≠z∧b≠TI∧b≠TO∧b≠i1∧b≠i2:=by simpa using hb
   exact nz b gF.1 o (a7 b o gF.1 gF.2.2.1 gF.2.2.2.1 gF.2.2.2.2 e)
  have sz:∀c o,s.heap.get? c=some o→s.heap.objs.size≠c:=fun c o e=>afW (Heap.lt_size e)
  have tz:s.heap.objs.size≠z:=sz _ _ hz
  have hn:=I.bI.fresh (aeG s.heap.objs.size)
  have I2:Inv X pins σ (upd H s.heap.objs.size (.tup [x,y])) {s with heap:=EV,toks:=s.toks}:=
   Inv.qk I kk hf (aeG _) (by show 2≤sizeLine;decide) (its:=[u,v]) (.cons ru (.cons rv' .nil)) ⟨_,nz _ tz _ a5,rfl,_,rfl⟩
  refine ⟨.ref s.heap.objs.size,_,I2,rfl,⟨s.heap.objs.size,x,y,fun xs' q=>by rw [I.gJ q qx];exact ex,fun ys' q=>by rw [I.gJ q qy];exact ey,rfl,hn,rfl⟩,⟨b1,nz _ D.TIz _ (a7 _ _ D.TIz D.TITO D.TIi1 D.TIi2 iG),⟨_,_,nz _ D.TOz _ a2⟩,a3.at fun o e=>nz _ D.i1z o e,a4.at fun o e=>nz _ D.i2z o e⟩,fun b hb=> ?_⟩
  have ob:∃o,s.heap.get? b=some o:=by
   obtain ⟨o1,e1,_⟩:=h1
   obtain ⟨o2,e2,_⟩:=h2
   have oF :b=z∨b=TI∨b=TO∨b=i1∨b=i2:=by simpa using hb
   rcases oF with e | e | e | e | e <;> subst e
   ·exact ⟨_,hz⟩
   ·exact ⟨_,iG⟩
   ·exact ⟨_,oQ⟩
   ·exact ⟨_,e1⟩
   ·exact ⟨_,e2⟩
  obtain ⟨o,e⟩:=ob
  rw [aj (ae8 (sz _ _ e))]
  exact (hf b hb).1
 done:=by
  intro X hP hw hK hc i pins s σ H E I hf st hg
  subst hP hw hK
  obtain ⟨hz,iG,⟨x0,y0,oQ⟩,h1,h2⟩:=st
  obtain ⟨xs,ys,qx,qy,ee⟩:=hg
  obtain ⟨its,rv,p,_⟩:=I.list qx
  obtain ⟨Nw,rN,p',_⟩:=I.list qy
  have l1:=rv.length
  have l2:=rN.length
  refine wpAny_pyNext_zip_end (I.ok.hd hc) D hz iG oQ h1 h2 p.isList p'.isList ?_ fun h' kk=>⟨rfl,Inv.g7 I (fun b o hb e=> ?_) hf⟩
  ·rcases ee with e | e
   ·exact .inl (by simp;omega)
   ·exact .inr (by simp;omega)
  ·have gF :b≠z∧b≠TI∧b≠TO∧b≠i1∧b≠i2:=by simpa using hb
   exact kk b o gF.1 gF.2.2.1 gF.2.2.2.1 gF.2.2.2.2 e
 self:=fun _ _ _ _ _ st h=>wpAny_pyIter_zip st.1 h
theorem boot_zip:bootBuiltins "zip"=some (.type "zip"):=by decide+kernel
section
variable {X:Cx}
inductive Kn (K:Frag)(R:(It→Hp→Prop))(vs:List V)(H1:Hp):Prop where
 | mk (a b:_) (_:vs=[.ref a,.ref b]) (_:(∃xs,aU K H1 a xs)) (_:(∃ys,aU K H1 b ys)) (_:R (Vw K a b) H1):Kn K R vs H1
def WR (K:Frag)(ta:TA):TI:=fun σ H R=>ta σ H fun vs H1=>Kn K R vs H1
theorem uT {e1 e2:Expr}{ta:TA}{p pos:Pos}{es:List Expr}{k:Nat}{uL:Pos}(hg:Gl X "zip")(hm:X.mg "zip"=none)(ha:PA X [e1,e2] ta)(hs:starEach [e1,e2] X.env=[(false,eval e1 X.env),(false,eval e2 X.env)]:=by rfl)(AG:starEach [e2] X.env=[(false,eval e2 X.env)]:=by rfl):
  PI X (.Tuple es k uL) (.Call (.Name "zip" p) [e1,e2] [] pos) (WR X.K ta):=by
 intro pins s σ H R I h
 refine Call_ (gi I hg hm boot_zip (PyProof.Rows.callWith_type1 (b9 (ha pos pins s σ H _ I h) fun us s1 ⟨vs,H1,I1,r1,q1⟩=> ?_) (by rw [hs,AG]) (by rw [AG];rfl)))
 obtain ⟨a,b,e,⟨xs,hx⟩,⟨ys,hy⟩,q⟩:=q1
 subst e
 cases r1 with
 | cons r rr=>
  cases rr with
  | cons r' rr=>
   cases rr
   cases r
   cases r'
   obtain ⟨its,rv,pl,_⟩:=I1.list hx
   obtain ⟨Nw,rN,pl',_⟩:=I1.list hy
   have lt1:a < s1.heap.objs.size:=by obtain ⟨o,ho,_⟩:=pl.isList;exact Heap.lt_size ho
   have lt2:b < s1.heap.objs.size:=by obtain ⟨o,ho,_⟩:=pl'.isList;exact Heap.lt_size ho
   refine call_zip_2 pl.isList pl'.isList fun h' hz iG oQ Ko OP hsz hk=>wpAny_pyIter_zip (s:={s1 with heap:=h' }) hz ?_
   refine ⟨s1.heap.objs.size+4,[s1.heap.objs.size+4,s1.heap.objs.size+2,s1.heap.objs.size+3,s1.heap.objs.size,s1.heap.objs.size+1],_,_,H1,rfl,I1.kept (t' :=s1.toks) hk,AZ a b _ _ _ _ _ ?_,⟨hz,iG,⟨_,_,oQ⟩,Ko,OP⟩,fun c hc=> ?_,q⟩
   ·constructor <;> (intro z;simp only [Addr] at*;omega)
   ·have oF :s1.heap.objs.size≤c:=by
     have:c=s1.heap.objs.size+4∨c=s1.heap.objs.size+2∨c=s1.heap.objs.size+3∨c=s1.heap.objs.size∨c=s1.heap.objs.size+1:=by simpa using hc
     simp only [Addr] at*
     omega
    exact I1.jF oF (I1.bI.fresh oF)
inductive A_ (K:Frag)(xs:List V)(H:Hp)(Q:VK):Prop where
 | mk (p:Addr) (ys:List V) (_:xs=[.ref p]) (_:aU K H p ys) (_:∀l,H l=none→Q (.ref l) (upd H l (.lst ys))):A_ K xs H Q
theorem mq:eg X (.type "list") (A_ X.K):=by
 intro pins s σ H xs us Q I r h
 obtain ⟨p,ys,rfl,hq,q⟩:=h
 obtain ⟨u,rfl,r1⟩:=vals1 r
 cases r1
 obtain ⟨its,rv,⟨o,n,e,c,d1,d⟩,hz⟩:=I.list hq
 have hlen:=rv.length
 refine call_list_seq p (.inl rfl) e c d (fun h' c' hk hl=> ?_) (by simp;omega)
 have hn:=I.bI.fresh (aeG s.heap.objs.size)
 have I2:Inv X pins σ (upd H s.heap.objs.size (.lst ys)) {s with heap:=h',toks:=s.toks}:=I.laid (t' :=s.toks) hk (aeG _) ⟨hz,its,c',rv,hl⟩
 exact ⟨.ref _,_,I2,rfl,q _ hn⟩
end
section
variable {X:Cx}{K:Frag}
theorem cp (h:X.K=K):Ls X (AK K):=by subst h;exact iE
theorem sL (h:X.K=K):Ls X (GY K):=by subst h;exact aX
theorem qm {es:List Expr}{k:Nat}{t:JQ}{n:Nat}{pos:Pos}(hK:X.K=K)(hc:X.calm=true)(h:N_ X es t)
  (hn:(assignEach es X.env).length=n:=by rfl) (F':(assignEach es X.env).findIdx? (·.1)=none:=by rfl):PG X (.Tuple es k pos) (zR K n t):=by subst hK;exact dB hc h hn F'
end
section
variable {D:Addr}{te:TE}{cap:L2.St}{H1:Hp}{Q:VK}
theorem sM {K:Frag}{a b:Addr}{xs ys:List V}(Rel:Nat→V→Hp→Prop)(nD:H1 D=none)(hn:xs.length < sizeLine)(hl:ys.length=xs.length)(hX:∀H,av H1 H→aU K H a xs)(hY:∀H,av H1 H→aU K H b ys)
  (hR:∀i v H H' ys,H D=some (.lst ys)→bT D H H' →Rel i v H→Rel i v H')
  (he:∀i x y H (R:VK),xs[i]? =some x→ys[i]? =some y→av H1 H→(∀v H6,av H H6→Rel i v H6→R v H6)→te (some x::some y::cap) H R)
  (hd:∀zs H,zs.length=xs.length→(∀i v,zs[i]? =some v→Rel i v H)→av H1 H→H D=some (.lst zs)→Q (.ref D) H):
  kJ D (zR K 2 (rV (cZ 0) (rV (cZ 1) Lg))) jb te (Vw K a b) (none::none::cap) H1 Q:=by
 refine ⟨fun i m σ zs H=>m=xs.length - i∧i≤xs.length∧(∃o o',σ=o::o' ::cap)∧(zs.length=i∧(∀i v,zs[i]? =some v→Rel i v H)∧av H1 H)∧H D=some (.lst zs),⟨xs.length,by simp,ae' _,⟨none,none,rfl⟩,⟨rfl,fun i v e=>by simp at e,fun b o e=>by rw [aj (au e nD)];exact e⟩,ak⟩,?_⟩
 rintro i m σ zs H ⟨rfl,hi,⟨o,o',rfl⟩,⟨l,r,s⟩,hD⟩
 by_cases kF:i < xs.length
 ·have e1:xs[i]? =some xs[i]:=gE kF
  have e2:ys[i]? =some (ys[i]'(by omega)):=gE (by omega)
  refine .inr ⟨⟨xs,ys,_,_,hX H s,hY H s,e1,e2⟩,fun v H' y=> ?_⟩
  obtain ⟨p,x,y,q1,q2,rfl,np,rfl⟩:=y
  have e1:=q1 xs (hX H s)
  have e2:=q2 ys (hY H s)
  have sp:av H (upd H p (.tup [x,y])):=fun b o e=>by rw [aj (au e np)];exact e
  refine ⟨p,_,rfl,bL.of ak,rfl,_,_,rfl,_,_,rfl,rfl,?_⟩
  unfold jb
  dsimp only
  rw [if_pos rfl]
  refine he i x y _ _ e1 e2 (fun b o e=>sp _ _ (s _ _ e)) fun v H6 s6 rv=>⟨s6 _ _ (sp _ _ hD),by omega,xs.length - (i+1),by omega,rfl,by omega,⟨_,_,rfl⟩,⟨by simp [l],fun j u e=> ?_,fun b o e=> ?_⟩,ak⟩
  ·by_cases c:j < zs.length
   ·rw [aeL c] at e
    have ru:=hR j u H H6 zs hD (bT.of fun b o q=>s6 _ _ (sp _ _ q)) (r j u e)
    exact hR j u H6 _ zs (s6 _ _ (sp _ _ hD)) bT.upd ru
   ·rw [aeP (by omega)] at e
    have ej:j=i:=by
     by_cases z:j - zs.length=0
     ·omega
     ·rw [aeE (by simp;omega)] at e
      cases e
    subst ej
    have:v=u:=by
     rw [show j - zs.length=0 by omega] at e
     exact aeY e
    subst this
    exact hR j v H6 _ zs (s6 _ _ (sp _ _ hD)) bT.upd rv
  ·rw [aj (au e nD)]
   exact s6 _ _ (sp _ _ (s _ _ e))
 ·have e:i=xs.length:=by omega
  subst e
  exact .inl ⟨⟨xs,ys,hX H s,hY H s,.inl (aeG _)⟩,hd zs H l r s hD⟩
end
open Builtin.Int (intBits)
def vl (q:Int×Int):Rat:=(q.1:Rat) / (q.2:Rat)
structure Sm (T B:Nat)(q:Int×Int):Prop where
 pos:0 < q.2
 low:afi q.1 q.2=1
 top:q.1.natAbs≤2^T
 bot:q.2.natAbs≤2^B
theorem cG {b:Int}(h:b≠0):(b:Rat)≠0:=by simpa using h
theorem qp {t b:Int}(h:b≠0):vl (low t b)=(t:Rat) / (b:Rat):=by
 have c:=xB (t:=t) h
 have p:=i_ (t:=t) h
 have h1:=cG h
 have h2:=cG (b:=(low t b).2) (by omega)
 have c' :((low t b).1:Rat)*b=t*(low t b).2:=by exact_mod_cast c
 unfold vl
 grind
theorem sN {t b u c:Int}(hb:b≠0)(hc:c≠0)(h:(t:Rat) / b=(u:Rat) / c):t*c=u*b:=by
 have h1:=cG hb
 have h2:=cG hc
 have:(t:Rat)*c=u*b:=by grind
 exact_mod_cast this
theorem LN {q r:Int×Int}(hq:0 < q.2)(hr:0 < r.2)(gq:afi q.1 q.2=1)(gr:afi r.1 r.2=1)(h:vl q=vl r):q=r:=by
 have c:=sN (t:=q.1) (b:=q.2) (u:=r.1) (c:=r.2) (by omega) (by omega) h
 have e:=om (t:=q.1) (b:=q.2) (u:=r.1) (c:=r.2) (by omega) (by omega) c
 rw [l_ hq gq,l_ hr gr] at e
 exact aoU (congrArg ap7 e) (congrArg ap8 e)
theorem xG {b d:Int}(hd:d≠0)(h:d ∣ b):((b.fdiv d:Int):Rat)=(b:Rat) / d:=by
 have e:=cn hd h
 have h1:=cG hd
 have:(b:Rat)=d*(b.fdiv d:Int):=by exact_mod_cast e
 grind
def gm (xs ys:List (Int×Int)):Rat:=(afm (fun a b=>vl a*vl b) xs ys).sum
theorem xH {x y:Int×Int}{xs ys:List (Int×Int)}:gm (x::xs) (y::ys)=vl x*vl y+gm xs ys:=by simp [gm]
def j8 (ts:List Int)(qs:List (Int×Int))(b:Int):Prop:=ts.length=qs.length∧∀(i:Nat) (t:Int) (q:Int×Int),ts[i]? =some t→qs[i]? =some q→(t:Rat)=vl q*b
theorem j8.tail {t:Int}{ts:List Int}{q:Int×Int}{qs:List (Int×Int)}{b:Int}(h:j8 (t::ts) (q::qs) b):j8 ts qs b:=⟨by simpa using h.1,fun i t' q' e1 e2=>h.2 (i+1) t' q' (by simpa using e1) (by simpa using e2)⟩
theorem qt {a b:Int}{m n:Nat}(h1:a.natAbs≤2^m)(h2:b.natAbs≤2^n):(a*b).natAbs≤2^(m+n):=by
 rw [afB,ags]
 exact afn h1 h2
theorem LO {a b:Int}{m:Nat}(h1:a.natAbs≤2^m)(h2:b.natAbs≤2^m):(a+b).natAbs≤2^(m+1):=by
 have:=af6 a b
 rw [age]
 omega
theorem my {a:Int}{m n:Nat}(h:a.natAbs≤2^m)(hm:m≤n):a.natAbs≤2^n:=ad_ h (ae0 (by decide) hm)
theorem g8 {a:Int}{m n:Nat}(h:a.natAbs≤2^m)(hm:m < n):intBits a≤n:=intBits_le_iff.mpr (aeJ h (Nat.pow_lt_pow_right (by decide) hm))
theorem kZ {a b:Int}{m n:Nat}(h1:a.natAbs≤2^m)(h2:b.natAbs≤2^n)(hm:m < 30000000)(hn:n < 30000000):sj a b:=⟨ad_ (g8 h1 hm) (by decide),ad_ (g8 h2 hn) (by decide)⟩
theorem Sm.up {T B T' B' :Nat}{q:Int×Int}(h:Sm T B q)(hT:T≤T')(hB:B≤B'):Sm T' B' q:=⟨h.pos,h.low,my h.top hT,my h.bot hB⟩
theorem BA {b d:Int}(hb:0 < b)(hd:0 < d):0 < b.fdiv (gz b d)*d∧b ∣ b.fdiv (gz b d)*d∧d ∣ b.fdiv (gz b d)*d∧(b.fdiv (gz b d)*d).natAbs≤b.natAbs*d.natAbs:=by
 have gp:=qd (t:=b) (b:=d) (by omega)
 have g1:gz b d ∣ b:=afT ..
 have g2:gz b d ∣ d:=afK ..
 have e1:=cn (g:=gz b d) (by omega) g1
 have e2:=cn (g:=gz b d) (by omega) g2
 generalize gz b d=g at*
 have p1:0 < b.fdiv g:=by
  rcases ai_ (b.fdiv g) 0 with z | z | z
  ·exfalso
   have:=ag_ gp z
   omega
  ·rw [z] at e1;omega
  ·exact z
 refine ⟨afM p1 hd,⟨d.fdiv g,?_⟩,⟨b.fdiv g,afL ..⟩,?_⟩
 ·have:b.fdiv g*d=b.fdiv g*(g*d.fdiv g):=by rw [← e2]
  rw [this]
  have h3:b*d.fdiv g=g*b.fdiv g*d.fdiv g:=by rw [← e1]
  rw [h3]
  rw [← agr,afL (b.fdiv g) g]
 ·rw [afB]
  exact aeX _ (by
   have:=dk (g:=g) (a:=b.fdiv g) (by omega)
   rw [← e1] at this
   exact this)
theorem xI {q:Int×Int}{b:Int}(hq:0 < q.2)(h:q.2 ∣ b):((q.1*b.fdiv q.2:Int):Rat)=vl q*b:=by
 have e:=xG (b:=b) (d:=q.2) (by omega) h
 have:((q.1*b.fdiv q.2:Int):Rat)=q.1*((b.fdiv q.2:Int):Rat):=by push_cast;rfl
 rw [this,e]
 unfold vl
 grind
theorem fY {b d:Int}(hd:d≠0)(h:d ∣ b):(b.fdiv d).natAbs≤b.natAbs:=by
 have:=dk (g:=d) (a:=b.fdiv d) hd
 rw [← cn hd h] at this
 exact this
section
variable {D:Addr}{te:TE}{cap:L2.St}{H1:Hp}{Q:VK}
theorem xJ {J:It}(n:Nat)(xs:Nat→V)(Rel:Nat→V→Hp→Prop)(nD:H1 D=none)(hn:n < sizeLine)
  (go:∀i H,i < n→av H1 H→J.go i H∧∀x H',J.zB i H x H' →H' =H∧x=xs i) (stop:∀H,av H1 H→J.stop n H)
  (hR:∀i v H H' ys,H D=some (.lst ys)→bT D H H' →Rel i v H→Rel i v H')
  (he:∀i H (R:VK),i < n→av H1 H→(∃ys,H D=some (.lst ys))→(∀v H6,av H H6→Rel i v H6→R v H6)→te (some (xs i)::cap) H R)
  (hd:∀ys H,ys.length=n→(∀i v,ys[i]? =some v→Rel i v H)→av H1 H→H D=some (.lst ys)→Q (.ref D) H):
  kJ D (cZ 0) jb te J (none::cap) H1 Q:=by
 refine uR n xs (fun i ys H=>ys.length=i∧(∀i v,ys[i]? =some v→Rel i v H)∧av H1 H) ⟨rfl,fun i v e=>by simp at e,fun b o e=>by rw [aj (au e nD)];exact e⟩ ?_ ?_ ?_ ?_
 ·rintro i ys H hi ⟨_,_,s⟩
  exact go i H hi s
 ·rintro ys H ⟨_,_,s⟩
  exact stop H s
 ·rintro i ys H R hi ⟨l,r,s⟩ hD k
  refine he i H R hi s ⟨_,hD⟩ fun v H6 s6 rv=>k v H6 (s6 _ _ hD) (by omega) ⟨by simp [l],fun j u e=> ?_,fun b o e=> ?_⟩
  ·by_cases c:j < ys.length
   ·rw [aeL c] at e
    have ru:=hR j u H H6 ys hD (bT.of s6) (r j u e)
    exact hR j u H6 _ ys (s6 _ _ hD) bT.upd ru
   ·rw [aeP (by omega)] at e
    have ej:j=i:=by
     by_cases z:j - ys.length=0
     ·omega
     ·rw [aeE (by simp;omega)] at e
      cases e
    subst ej
    have:v=u:=by
     rw [show j - ys.length=0 by omega] at e
     exact aeY e
    subst this
    exact hR j v H6 _ ys (s6 _ _ hD) bT.upd rv
  ·rw [aj (au e nD)]
   exact s6 _ _ (s _ _ e)
 ·rintro ys H ⟨l,r,s⟩ hD
  exact hd ys H l r s hD
theorem mz {K:Frag}{a:Addr}{xs:List V}(Rel:Nat→V→Hp→Prop)(nD:H1 D=none)(hn:xs.length < sizeLine)(hS:∀H,av H1 H→aU K H a xs)
  (hR:∀i v H H' ys,H D=some (.lst ys)→bT D H H' →Rel i v H→Rel i v H')
  (he:∀i x H (R:VK),xs[i]? =some x→av H1 H→(∃ys,H D=some (.lst ys))→(∀v H6,av H H6→Rel i v H6→R v H6)→te (some x::cap) H R)
  (hd:∀ys H,ys.length=xs.length→(∀i v,ys[i]? =some v→Rel i v H)→av H1 H→H D=some (.lst ys)→Q (.ref D) H):
  kJ D (cZ 0) jb te (GB K a) (none::cap) H1 Q:=by
 refine xJ xs.length (fun i=>(xs[i]?).getD .cE) Rel nD hn (fun i H hi s=>⟨⟨xs,xs[i],hS H s,gE hi⟩,fun x H' y=>⟨y.1,?_⟩⟩) (fun H s=>⟨xs,hS H s,aeG _⟩) hR (fun i H R hi s dd k=> ?_) hd
 ·rw [y.2 xs (hS H s)];rfl
 ·have e:xs[i]? =some xs[i]:=gE hi
  have k' :=he i _ H R e s dd k
  rw [← (show (xs[i]?).getD .cE=xs[i] by rw [e];rfl)] at k'
  exact k'
end
section
variable {X:Cx}
end
end Ty
namespace L2
open PySem PySem.Spec PyProof.Rows
section
variable {κ:Type}[DecidableEq κ]
def bS (kvs:List (κ×V))(k:κ):Option V:=(kvs.find? fun kv=>decide (kv.1=k)).map (·.2)
def putK (kvs:List (κ×V))(k:κ)(v:V):List (κ×V):=
 if (kvs.any fun kv=>decide (kv.1=k))=true then kvs.map (fun kv=>if kv.1=k then (kv.1,v) else kv) else kvs++[(k,v)]
theorem bK {p:κ×V}{r:List (κ×V)}{k:κ}(e:p.1=k):bS (p::r) k=some p.2:=by simp [bS,af1,e]
theorem bB {p:κ×V}{r:List (κ×V)}{k:κ}(e:¬ p.1=k):bS (p::r) k=bS r k:=by simp [bS,af1,e]
theorem fZ (k:κ):∀kvs:List (κ×V),(kvs.any fun kv=>decide (kv.1=k))=(bS kvs k).isSome
 | []=>rfl
 | p::r=>by
  rw [af_]
  by_cases e:p.1=k
  ·simp only [bK e,decide_eq_true e,Bool.true_or,Option.isSome_some]
  ·rw [bB e,decide_eq_false e,Bool.false_or];exact fZ k r
theorem sO (k j:κ)(y:V):∀kvs:List (κ×V),bS (kvs.map fun kv=>if kv.1=k then (kv.1,y) else kv) j=(bS kvs j).map fun x=>if j=k then y else x
 | []=>rfl
 | p::r=>by
  have ih:=sO k j y r
  rw [ac_]
  by_cases h:p.1=k
  ·rw [if_pos h]
   by_cases e:p.1=j
   ·rw [bK (p:=(p.1,y)) e,bK e,af0,if_pos (e.symm.trans h)]
   ·rw [bB (p:=(p.1,y)) e,bB e,ih]
  ·rw [if_neg h]
   by_cases e:p.1=j
   ·rw [bK (p:=p) e,bK e,af0,if_neg (fun z=>h (e.trans z))]
   ·rw [bB (p:=p) e,bB e,ih]
theorem oR (k j:κ)(y:V):∀kvs:List (κ×V),bS kvs k=none→bS (kvs++[(k,y)]) j=if j=k then some y else bS kvs j
 | [],_=>by
  by_cases e:k=j
  ·rw [if_pos e.symm];exact bK (p:=(k,y)) e
  ·rw [if_neg (fun z=>e z.symm)];exact bB (p:=(k,y)) e
 | p::r,hn=>by
  rw [af8]
  have hk:¬ p.1=k:=fun z=>by rw [bK z] at hn;cases hn
  rw [bB hk] at hn
  have ih:=oR k j y r hn
  by_cases e:p.1=j
  ·rw [bK e,bK e,if_neg (fun z=>hk (e.trans z))]
  ·rw [bB e,bB e,ih]
theorem mB (kvs:List (κ×V))(k j:κ)(y:V):bS (putK kvs k y) j=if j=k then some y else bS kvs j:=by
 unfold putK
 by_cases a:(kvs.any fun kv=>decide (kv.1=k))=true
 ·rw [if_pos a,sO]
  rw [fZ] at a
  by_cases e:j=k
  ·obtain ⟨x,hx⟩:=ak_.mp a
   rw [if_pos e,e,hx,af0,if_pos rfl]
  ·rw [if_neg e]
   cases bS kvs j with
   | none=>rfl
   | some x=>rw [af0,if_neg e]
 ·rw [if_neg a]
  refine oR k j y kvs ?_
  rw [fZ] at a
  cases q:bS kvs k with
  | none=>rfl
  | some x=>rw [q] at a;exact (a rfl).elim
theorem fH (kvs:List (κ×V))(k:κ)(v:V):(putK kvs k v).length≤kvs.length+1:=by
 unfold putK
 split
 ·rw [aa_];omega
 ·rw [aeO,ae6,agu];omega
theorem dm {kvs:List (κ×V)}{k:κ}(v:V)(h:bS kvs k=none):putK kvs k v=kvs++[(k,v)]:=by
 unfold putK
 rw [fZ,h]
 exact if_neg (by decide)
theorem gI.f9 {o:Option V}{u:Option Value}(r:gI o u):o.isSome=u.isSome:=by
 cases o with
 | none=>cases u with
  | none=>rfl
  | some _=>exact (show False from r).elim
 | some _=>cases u with
  | none=>exact (show False from r).elim
  | some _=>rfl
theorem gI.getD {o:Option V}{u:Option Value}{d:V}{d' :Value}(r:gI o u)(rd:RelV d d'):RelV (o.getD d) (u.getD d'):=by
 cases o with
 | none=>cases u with
  | none=>exact rd
  | some _=>exact (show False from r).elim
 | some _=>cases u with
  | none=>exact (show False from r).elim
  | some _=>exact r
theorem KV.val {kvs:List (κ×V)}{vs:List (κ×Value)}(r:KV kvs vs)(k:κ):gI (bS kvs k) (valueAt vs k):=by
 unfold KV at r
 induction r with
 | nil=>exact True.intro
 | @cons p q ps qs h t ih=>
  obtain ⟨h1,h2⟩:=h
  by_cases e:p.1=k
  ·have e' :q.1=k:=h1.symm.trans e
   have b:valueAt (q::qs) k=some q.2:=by simp [valueAt,af1,e']
   rw [bK e,b];exact h2
  ·have e' :¬ q.1=k:=fun z=>e (h1.trans z)
   have b:valueAt (q::qs) k=valueAt qs k:=by simp [valueAt,af1,e']
   rw [bB e,b];exact ih
theorem KV.any {kvs:List (κ×V)}{vs:List (κ×Value)}(r:KV kvs vs)(k:κ):(kvs.any fun kv=>decide (kv.1=k))=vs.any fun kv=>decide (kv.1=k):=by
 unfold KV at r
 induction r with
 | nil=>rfl
 | cons h t ih=>rw [af_,af_,ih,h.1]
theorem KV.LP {kvs:List (κ×V)}{vs:List (κ×Value)}(r:KV kvs vs)(k:κ){y:V}{u:Value}(ry:RelV y u):
  KV (kvs.map fun kv=>if kv.1=k then (kv.1,y) else kv) (vs.map fun kv=>if kv.1=k then (kv.1,u) else kv):=by
 unfold KV at r ⊢
 induction r with
 | nil=>exact .nil
 | @cons p q ps qs h t ih=>
  rw [ac_,ac_]
  refine .cons ?_ ih
  obtain ⟨h1,h2⟩:=h
  by_cases e:p.1=k
  ·rw [if_pos e,if_pos (h1.symm.trans e)];exact ⟨h1,ry⟩
  ·rw [if_neg e,if_neg (fun z=>e (h1.trans z))];exact ⟨h1,h2⟩
theorem KV.put {kvs:List (κ×V)}{vs:List (κ×Value)}(r:KV kvs vs)(k:κ){y:V}{u:Value}(ry:RelV y u):KV (putK kvs k y) (stored vs k u):=by
 unfold putK stored
 rw [r.any k]
 by_cases e:(vs.any fun kv=>decide (kv.1=k))=true
 ·rw [if_pos e,if_pos e];exact r.LP k ry
 ·rw [if_neg e,if_neg e];exact Paired.snoc r ⟨rfl,ry⟩
theorem KV.length {kvs:List (κ×V)}{vs:List (κ×Value)}(r:KV kvs vs):kvs.length=vs.length:=Paired.length r
end
theorem jc {P:Program}{w:World}{k:Key}{u:Value}(r:RelV (kV k) u):(bx P w).is k u=true:=by
 cases k with
 | inl i=>obtain ⟨t,e⟩:=(show ∃t,u=Value.int i t from r);subst e;exact rQ P w i t
 | inr x=>obtain ⟨t,e⟩:=(show ∃t,u=Value.str x t from r);subst e;exact rR P w x t
theorem oT {P:Program}{w:World}:∀{ks:List Key} {us:List Value},Vals (ks.map kV) us→ItemsAre (bx P w) ks us
 | [],_,r=>by rw [afh] at r;cases r;exact .nil
 | k::ks,_,r=>by
  rw [ac_] at r
  cases r with
  | cons h t=>exact .cons (jc h) (oT t)
abbrev KT (H:Hp):List (List Key×V)→List (List Key×Addr×Value)→Prop:=Paired fun p q=>p.1=q.1∧H q.2.1=some (.tup (p.1.map kV))∧RelV p.2 q.2.2
theorem KT.val {H:Hp}{kvs:List (List Key×V)}{xs:List (List Key×Addr×Value)}(r:KT H kvs xs)(k:List Key):gI (bS kvs k) ((atKey xs k).map (·.2)):=by
 induction r with
 | nil=>exact True.intro
 | @cons p q ps qs h t ih=>
  obtain ⟨h1,_,h2⟩:=h
  by_cases e:p.1=k
  ·have e' :q.1=k:=h1.symm.trans e
   have b:atKey (q::qs) k=some q.2:=by simp [atKey,af1,e']
   rw [bK e,b];exact h2
  ·have e' :¬ q.1=k:=fun z=>e (h1.trans z)
   have b:atKey (q::qs) k=atKey qs k:=by simp [atKey,af1,e']
   rw [bB e,b];exact ih
theorem KT.LP {H:Hp}{kvs:List (List Key×V)}{xs:List (List Key×Addr×Value)}(r:KT H kvs xs)(k:List Key){y:V}{u:Value}(ry:RelV y u):
  KT H (kvs.map fun kv=>if kv.1=k then (kv.1,y) else kv) (xs.map (putAt k u)):=by
 induction r with
 | nil=>exact .nil
 | @cons p q ps qs h t ih=>
  rw [ac_,ac_]
  refine .cons ?_ ih
  obtain ⟨h1,h2,h3⟩:=h
  unfold putAt
  by_cases e:p.1=k
  ·rw [if_pos e,if_pos (h1.symm.trans e)];exact ⟨h1,h2,ry⟩
  ·rw [if_neg e,if_neg (fun z=>e (h1.trans z))];exact ⟨h1,h2,h3⟩
theorem KT.put {H:Hp}{kvs:List (List Key×V)}{xs:List (List Key×Addr×Value)}(r:KT H kvs xs)(k:List Key){b:Addr}{y:V}{u:Value}(hb:H b=some (.tup (k.map kV)))(ry:RelV y u):
  KT H (putK kvs k y) (storedH xs k b u):=by
 have e:(kvs.any fun kv=>decide (kv.1=k))=(atKey xs k).isSome:=by
  rw [fZ,(r.val k).f9,aj_]
 unfold putK storedH
 rw [e]
 by_cases q:(atKey xs k).isSome=true
 ·rw [if_pos q,if_pos q];exact r.LP k ry
 ·rw [if_neg q,if_neg q];exact Paired.snoc r ⟨rfl,hb,ry⟩
theorem KT.keeps {H H' :Hp}{kvs:List (List Key×V)}{xs:List (List Key×Addr×Value)}(r:KT H kvs xs)(ht:∀b ys,H b=some (.tup ys)→H' b=some (.tup ys)):KT H' kvs xs:=
 Paired.bZ r fun _ _ z=>⟨z.1,ht _ _ z.2.1,z.2.2⟩
section
variable {P:Program}{w:World}{H:Hp}{h:Heap}{a:Addr}
theorem Kp {u:HO}(ok:iu P w H h)(e:Rd H a u):cB P w H h a u:=e.ok ok
theorem iw {kvs:List (Key×V)}(ok:iu P w H h)(e:Rd H a (.dK kvs)):kvs.length≤sizeLine∧(a==sysModules)=false∧∃vs,KV kvs vs∧h.DictOf (bx P w) a vs:=
 show cB P w H h a (.dK kvs) from Kp ok e
theorem jd {kvs:List (Key×V)}(ok:iu P w H h)(e:H a=some (.dK kvs)):kvs.length≤sizeLine∧(a==sysModules)=false∧∃vs,KV kvs vs∧h.DictOf (bx P w) a vs:=iw ok (.inl e)
theorem jK {ks:List Key}(ok:iu P w H h)(e:H a=some (.tup (ks.map kV))):(tupleKind (bx P w)).is h ks a:=by
 obtain ⟨_,its,r,o,h1,h2,n,h3⟩:=(show cB P w H h a (.tup (ks.map kV)) from ok a _ e)
 exact ⟨o,its.toArray,n,h1,h2,h3,by simpa using oT r⟩
theorem mC {kvs:List (List Key×V)}(ok:iu P w H h)(e:Rd H a (.dT kvs)):kvs.length≤sizeLine∧(a==sysModules)=false∧
  ∃xs,KT H kvs xs∧h.DictOfH (tupleKind (bx P w)) a xs:=by
 obtain ⟨z,y,xs,r,o,es,ep,h1,h2,h3,h4,h5⟩:=(show cB P w H h a (.dT kvs) from Kp ok e)
 refine ⟨z,y,xs,r,o,es,ep,h1,h2,h3,h4,fun x hx=> ?_,h5⟩
 have all:∀{l:List (List Key×V)} {m:List (List Key×Addr×Value)},KT H l m→∀x∈m,(tupleKind (bx P w)).is h x.1 x.2.1:=by
  intro l m q
  induction q with
  | nil=>intro x hx;exact nomatch hx
  | @cons p q ps qs hq t ih=>
   intro x hx
   rcases ae1.mp hx with e | hx
   ·subst e
    exact jK ok (by rw [← hq.1];exact hq.2.1)
   ·exact ih x hx
 exact all r x hx
theorem OQ {kvs:List (List Key×V)}(ok:iu P w H h)(e:H a=some (.dT kvs)):kvs.length≤sizeLine∧(a==sysModules)=false∧
  ∃xs,KT H kvs xs∧h.DictOfH (tupleKind (bx P w)) a xs:=mC ok (.inl e)
end
def cQ (H:Hp)(a:Addr)(y:V)(r:Option V):Prop:=
 (∃kvs k,Rd H a (.dK kvs)∧y=kV k∧r=bS kvs k)∨∃kvs k b,Rd H a (.dT kvs)∧y=.ref b∧H b=some (.tup (k.map kV))∧r=bS kvs k
def je (H:Hp)(a:Addr)(y v:V)(H' :Hp):Prop:=
 (∃kvs k,H a=some (.dK kvs)∧y=kV k∧kvs.length < sizeLine∧H' =upd H a (.dK (putK kvs k v)))∨
 ∃kvs k b,H a=some (.dT kvs)∧y=.ref b∧H b=some (.tup (k.map kV))∧kvs.length < sizeLine∧H' =upd H a (.dT (putK kvs k v))
theorem cQ.k {H:Hp}{a:Addr}{kvs:List (Key×V)}{k:Key}(e:H a=some (.dK kvs)):cQ H a (kV k) (bS kvs k):=.inl ⟨kvs,k,.inl e,rfl,rfl⟩
theorem je.k {H:Hp}{a:Addr}{kvs:List (Key×V)}{k:Key}{v:V}(e:H a=some (.dK kvs))(hl:kvs.length < sizeLine):je H a (kV k) v (upd H a (.dK (putK kvs k v))):=.inl ⟨kvs,k,e,rfl,hl,rfl⟩
section
variable {X:Cx}{pins:List (Addr×Obj)}{σ:St}{H:Hp}{s:Shared}{a:Addr}{y v:V}{u r:Value}{o:Option V}{A:Around}{E:Value→Shared→Prop}
theorem Inv.big (I:Inv X pins σ H s):sysModules < s.heap.objs.size:=by
 have h:mainGlobals < s.heap.objs.size:=(I.mod.glob.keeps I.bk).lt
 exact aoH (by decide) h
theorem xK {Q:Value→Shared→Prop}(hu:A.units+1 < cLine)(I:Inv X pins σ H s)(g:cQ H a y (some v))(ry:RelV y u)(h:∀w' s',Inv X pins σ H s' →RelV v w' →Q w' s'):
  wpAny (model X.prog X.w) A (getItem (.ref a) u) Q E s:=by
 rcases g with ⟨kvs,k,e,ey,l⟩ | ⟨kvs,k,b,e,ey,eb,l⟩
 ·subst ey
  obtain ⟨z,hd,vs,rel,dd⟩:=iw I.bI e
  obtain ⟨w',hw,rN⟩:=gI.some_of (v:=v) (o:=valueAt vs k) (by rw [l];exact rel.val k)
  exact wpAny_getItem_of (jc ry) dd.mapOf hw (h w' _ (I.tok _) rN)
 ·subst ey
  cases (show u=Value.ref b from ry)
  obtain ⟨z,hd,xs,rel,dd⟩:=mC I.bI e
  obtain ⟨w',hw,rN⟩:=gI.some_of (v:=v) (o:=(atKey xs k).map (·.2)) (by rw [l];exact rel.val k)
  obtain ⟨p,hp,Kq⟩:=aeN.mp hw
  refine wpAny_getItem_heap (tupleKind_room_in1 hu) (jK I.bI eb) dd hp ?_
  rw [Kq]
  exact h w' _ (I.tok _) rN
theorem WS {Q:Value→Shared→Prop}(hu:A.units+1 < cLine)(I:Inv X pins σ H s)(g:cQ H a y o)(ry:RelV y u)(h:∀s',Inv X pins σ H s' →Q (.bool o.isSome) s'):
  wpAny (model X.prog X.w) A (compareOp .In u (.ref a)) Q E s:=by
 rcases g with ⟨kvs,k,e,ey,l⟩ | ⟨kvs,k,b,e,ey,eb,l⟩
 ·subst ey
  obtain ⟨z,hd,vs,rel,dd⟩:=iw I.bI e
  refine wpAny_in_of (jc ry) hd dd.mapOf ?_
  rw [← (rel.val k).f9, ← l]
  exact h _ (I.tok _)
 ·subst ey
  cases (show u=Value.ref b from ry)
  obtain ⟨z,hd,xs,rel,dd⟩:=mC I.bI e
  refine wpAny_in_heap (tupleKind_room_in1 hu) (jK I.bI eb) hd dd ?_
  have q:=(rel.val k).f9
  rw [aj_] at q
  rw [← q, ← l]
  exact h _ (I.tok _)
theorem HH {Q:Value→Shared→Prop}(hu:A.units+1 < cLine)(I:Inv X pins σ H s)(g:cQ H a y o)(ry:RelV y u)(h:∀s',Inv X pins σ H s' →Q (.bool (!o.isSome)) s'):
  wpAny (model X.prog X.w) A (compareOp .NotIn u (.ref a)) Q E s:=by
 rcases g with ⟨kvs,k,e,ey,l⟩ | ⟨kvs,k,b,e,ey,eb,l⟩
 ·subst ey
  obtain ⟨z,hd,vs,rel,dd⟩:=iw I.bI e
  refine wpAny_notIn_of (jc ry) hd dd.mapOf ?_
  rw [← (rel.val k).f9, ← l]
  exact h _ (I.tok _)
 ·subst ey
  cases (show u=Value.ref b from ry)
  obtain ⟨z,hd,xs,rel,dd⟩:=mC I.bI e
  refine wpAny_notIn_heap (tupleKind_room_in1 hu) (jK I.bI eb) hd dd ?_
  have q:=(rel.val k).f9
  rw [aj_] at q
  rw [← q, ← l]
  exact h _ (I.tok _)
theorem g9 {h' :Heap}{t' :Nat}{ob:HO}(I:Inv X pins σ H s)(mu:NY (H a))(hs:Heap.SameBut a s.heap h')(he:∃q,h'.get? a=some q)(new:cB X.prog X.w (upd H a ob) h' a ob):
  Inv X pins σ (upd H a ob) {s with heap:=h',toks:=t' }:=
 I.write (x:=a) (e:=a) mu (.inl rfl) (fun b q hb z=>(hs.2 b hb).trans z) he new
theorem jL {P:Program}{w:World}{H' :Hp}{h' :Heap}{kvs:List (Key×V)}{vs:List (Key×Value)}(z:kvs.length≤sizeLine)(hd:(a==sysModules)=false)(rel:KV kvs vs)(dd:h'.DictOf (bx P w) a vs):
  cB P w H' h' a (.dK kvs):=⟨z,hd,vs,rel,dd⟩
theorem xM {H' :Hp}{Q:Unit→Shared→Prop}(hu:A.units+1 < cLine)(I:Inv X pins σ H s)(g:je H a y v H')(ry:RelV y u)(rv:RelV v r)(h:∀s',Inv X pins σ H' s' →Q () s'):
  wpAny (model X.prog X.w) A (setItem (.ref a) u r) Q E s:=by
 rcases g with ⟨kvs,k,e,ey,l,eH⟩ | ⟨kvs,k,b,e,ey,eb,l,eH⟩
 ·subst ey eH
  obtain ⟨z,hd,vs,rel,dd⟩:=jd I.bI e
  have hz:vs.length≤sizeLine:=by rw [← rel.length];exact z
  have hl:(putK kvs k v).length≤sizeLine:=by have:=fH kvs k v;omega
  refine wpAny_setItem_pairs (hsz:=hz) (jc ry) dd fun h' zD hs=>h _ ?_
  have he:∃q,h'.get? a=some q:=let ⟨q,_,_,hq,_⟩:=zD;⟨q,hq⟩
  exact g9 I (by rw [e];exact True.intro) hs he (jL hl hd (rel.put k rv) zD)
 ·subst ey eH
  cases (show u=Value.ref b from ry)
  obtain ⟨z,hd,xs,rel,dd⟩:=OQ I.bI e
  have hz:xs.length≤sizeLine:=by rw [← Paired.length rel];exact z
  have hl:(putK kvs k v).length≤sizeLine:=by have:=fH kvs k v;omega
  refine wpAny_setItem_heap (hsz:=hz) (tupleKind_room_in1 hu) (jK I.bI eb) dd fun h' zD hs=>h _ ?_
  obtain ⟨q,es,ep,hq,h2,h3,h4,_,h5⟩:=zD
  refine g9 I (by rw [e];exact True.intro) hs ⟨q,hq⟩ ⟨hl,hd,_,(rel.put k eb rv).keeps fun c ys ec=> ?_,q,es,ep,hq,h2,h3,h4,h5⟩
  rw [aj (NX ec e (fun z=>nomatch z))]
  exact ec
end
section
variable {X:Cx}{pins:List (Addr×Obj)}{σ:St}{H:Hp}{s:Shared}{a:Addr}{kvs:List (Key×V)}{k:Key}{u:Value}{A:Around}{E:Value→Shared→Prop}
theorem HK {Q:Value→Shared→Prop}(I:Inv X pins σ H s)(e:H a=some (.dK kvs))(h:∀s',Inv X pins σ (upd H a (.dK [])) s' →Q .none s'):wpAny (model X.prog X.w) A (call (.builtin "dict.clear") [.ref a]) Q E s:=by
 obtain ⟨z,hd,vs,rel,dd⟩:=jd I.bI e
 refine call_meetsIn PySem.F.slot_dict_clear dd.typeIs PySem.F.entry_dict_clear (PySem.F.args_dict_clear_1 _) (meets_dict_clear (bx X.prog X.w) a) ⟨vs,dd,by rw [← rel.length];exact z,fun h' zD hs=>h _ ?_⟩
 have he:∃q,h'.get? a=some q:=let ⟨q,_,_,hq,_⟩:=zD;⟨q,hq⟩
 exact g9 (t' :=s.toks) I (by rw [e];exact True.intro) hs he (jL (ae' _) hd .nil zD)
theorem OR {Q:Value→Shared→Prop}(I:Inv X pins σ H s)(e:Rd H a (.dK kvs))(h:∀t s',Inv X pins σ H s' →Q (.int kvs.length t) s'):wpAny (model X.prog X.w) A (call (.builtin "len") [.ref a]) Q E s:=by
 obtain ⟨z,hd,vs,rel,dd⟩:=iw I.bI e
 refine call_len_dict hd dd (by rw [← rel.length];rw [sizeLine_eq] at z;omega) ?_
 rw [← rel.length]
 exact h _ _ (I.tok _)
end
def OS (i:Expr):Prop:=∀ov iv,subscripted i false ov iv=operate [ov,iv] (getItem ov iv)
theorem HL {prog:Program}{w:World}{A:Around}{E:Value→Shared→Prop}{s:Shared}{env:Env}{value slice:Expr}{pos:Pos}{T id:String}{Q:Value→Shared→Prop}
  (hl:typeLookup (.type T) "__getitem__"=pure (some (.builtin id))) (hs:OS slice)
  (h:wpAny (model prog w) A (eval value env) (fun o s₁=>wpAny (model prog w) A (eval slice env) (fun i s₂=>s₂.TypeIs o T∧wpAny (model prog w) A (getItem o i) Q E s₂) E s₁) E s):
  wpAny (model prog w) A (eval (.Subscript value slice pos) env) Q E s:=by
 refine Subscript_ (wpAny_mono h (fun o s₁ h₁=>wpAny_mono h₁ (fun i s₂ h₂=> ?_) fun _ _ x=>x) fun _ _ x=>x)
 obtain ⟨hT,h₂⟩:=h₂
 unfold subscriptTail
 refine wpAny_bind ?_
 rw [getitemInPython_of_ne hT.not_modules]
 refine wpAny_bind (wpAny_specialOf hT hl ?_)
 have fin:wpAny (model prog w) A (subscripted slice false o i) (fun r s₃=>wpAny (model prog w) A (letTemporaryGo value o r >>=fun _=>pure r) Q E s₃) E s₂:=by
  rw [hs o i]
  exact wpAny_operating (wpAny_mono h₂ (fun r s₃ h₃=>wpAny_bind (wpAny_letTemporaryGo (wpAny_pure h₃))) fun _ _ x=>x)
 first
  | exact wpAny_pure (wpAny_bind fin)
  | exact wpAny_bind (wpAny_pure (wpAny_bind fin))
  | exact wpAny_bind fin
theorem sQ {X:Cx}{pins:List (Addr×Obj)}{σ:St}{H:Hp}{s:Shared}{a:Addr}{y:V}{o:Option V}(I:Inv X pins σ H s)(g:cQ H a y o):s.TypeIs (.ref a) "dict":=by
 rcases g with ⟨kvs,k,e,_,_⟩ | ⟨kvs,k,b,e,_,_,_⟩
 ·obtain ⟨_,_,vs,_,dd⟩:=iw I.bI e
  exact dd.typeIs
 ·obtain ⟨_,_,xs,_,dd⟩:=mC I.bI e
  exact dd.typeIs
inductive BB (Q:VK)(x:V)(y:V)(H2:Hp):Prop where
 | mk (a v:_) (_:x=.ref a) (_:cQ H2 a y (some v)) (_:Q v H2):BB Q x y H2
def OT (td ty:TE):TE:=fun σ H Q=>td σ H fun x H1=>ty σ H1 fun y H2=>BB Q x y H2
inductive Kr (Q:VK)(y:V)(x:V)(H2:Hp):Prop where
 | mk (a o:_) (_:x=.ref a) (_:cQ H2 a y o) (_:Q (.bl o.isSome) H2):Kr Q y x H2
def WT (ty td:TE):TE:=fun σ H Q=>ty σ H fun y H1=>td σ H1 fun x H2=>Kr Q y x H2
inductive sR (Q:VK)(y:V)(x:V)(H2:Hp):Prop where
 | mk (a o:_) (_:x=.ref a) (_:cQ H2 a y o) (_:Q (.bl (!o.isSome)) H2):sR Q y x H2
def HM (ty td:TE):TE:=fun σ H Q=>ty σ H fun y H1=>td σ H1 fun x H2=>sR Q y x H2
inductive BC (D:Ends)(σ:L2.St)(v:V)(x:V)(y:V)(H3:Hp):Prop where
 | mk (a H4:_) (_:x=.ref a) (_:je H3 a y v H4) (_:D.nx σ H4):BC D σ v x y H3
def OU (td ty tv:TE):TS:=fun D σ H=>tv σ H fun v H1=>td σ H1 fun x H2=>ty σ H2 fun y H3=>BC D σ v x y H3
section
variable {X:Cx}{o i e value:Expr}{pos pos' uL:Pos}{td ty tv:TE}
theorem bX (hu:X.A.units+1 < cLine)(ho:PE X o td)(hi:PE X i ty)(hs:OS i):PE X (.Subscript o i pos) (OT td ty):=by
 intro pins s σ H Q I h
 refine HL PySem.F.slot_dict_getitem.lookup hs (b9 (ho pins s σ H _ I h) fun u s1 ⟨x,H1,I1,rx,q1⟩=>b9 (hi pins s1 σ H1 _ I1 q1) fun iv s2 ⟨y,H2,I2,ry,a,v,ex,g,q2⟩=> ?_)
 subst ex
 obtain rfl:u=Value.ref a:=rx
 exact ⟨sQ I2 g,xK hu I2 g ry fun w' s3 I3 rN =>⟨v,H2,I3,rN,q2⟩⟩
theorem BD (hu:X.A.units+1 < cLine)(hi:PE X i ty)(ho:PE X o td):PC X .In i o (WT ty td):=by
 intro pins s σ H Q I h
 refine b9 (hi pins s σ H _ I h) fun iv s1 ⟨y,H1,I1,ry,q1⟩=>b9 (ho pins s1 σ H1 _ I1 q1) fun u s2 ⟨x,H2,I2,rx,a,ov,ex,g,q2⟩=> ?_
 subst ex
 obtain rfl:u=Value.ref a:=rx
 exact WS hu I2 g ry fun s3 I3=>⟨.bl ov.isSome,H2,I3,rfl,q2⟩
theorem oU (hu:X.A.units+1 < cLine)(hi:PE X i ty)(ho:PE X o td):PC X .NotIn i o (HM ty td):=by
 intro pins s σ H Q I h
 refine b9 (hi pins s σ H _ I h) fun iv s1 ⟨y,H1,I1,ry,q1⟩=>b9 (ho pins s1 σ H1 _ I1 q1) fun u s2 ⟨x,H2,I2,rx,a,ov,ex,g,q2⟩=> ?_
 subst ex
 obtain rfl:u=Value.ref a:=rx
 exact HH hu I2 g ry fun s3 I3=>⟨.bl (!ov.isSome),H2,I3,rfl,q2⟩
theorem eO (hu:X.A.units+1 < cLine)(ho:PE X o td)(hi:PE X i ty)(hv:PE X value tv)(hs:swapsWith value (some (.Subscript o i pos')) pos.line X.env=pure false):
  PS X (.Assign [.Subscript o i pos'] value pos) (OU td ty tv):=by
 intro pins s σ H D I h
 refine wpAny_Assign_Subscript (b9 (hv pins s σ H _ I h) fun r s1 ⟨v,H1,I1,rv,q1⟩=>b9 (ho pins s1 σ H1 _ I1 q1) fun u s2 ⟨x,H2,I2,rx,q2⟩=>b9 (hi pins s2 σ H2 _ I2 q2) fun iv s3 ⟨y,H3,I3,ry,a,H4,ex,g,q3⟩=> ?_) hs
 subst ex
 obtain rfl:u=Value.ref a:=rx
 exact xM hu I3 g ry rv fun s4 I4=>⟨σ,H4,I4,q3⟩
end
theorem sS {P:Program}{w:World}{H:Hp}(h:Heap)(hb:sysModules < h.objs.size):cB P w H (h.push {cls:=.type "dict",data:=.dict #[]}) h.objs.size (.dK []):=
 ⟨ae' _,beq_eq_false_iff_ne.mpr (ae8 (ae4 hb)),[],.nil,Heap.DictOf.new h⟩
def LQ:TE:=fun _ H Q=>∀p,H p=none→Q (.ref p) (upd H p (.dK []))
section
variable {X:Cx}{pos:Pos}
theorem d6:PE X (.Dict [] [] pos) LQ:=fun pins s σ H Q I h=>
 wpAny_Dict_empty ⟨.ref s.heap.objs.size,_,I.laid (a:=s.heap.objs.size) (o:=.dK []) (t' :=s.toks) (fun _ _ q=>Heap.get?_push_of_some _ q) (aeG _) (sS s.heap I.big),rfl,h _ (I.bI.fresh (aeG _))⟩
end
def uU:List (TE×TE)→St→Hp→(List (V×V)→Hp→Prop)→Prop
 | [],_,H,Q=>Q [] H
 | (tk,tv)::r,σ,H,Q=>tk σ H fun x H1=>tv σ H1 fun y H2=>uU r σ H2 fun ps H3=>Q ((x,y)::ps) H3
abbrev VV:List (V×V)→List (Value×Value)→Prop:=Paired fun p q=>RelV p.1 q.1∧RelV p.2 q.2
def Vx (X:Cx)(pos:Pos)(keys:List (Option Expr))(values:List Expr)(HN:List (TE×TE)):Prop:=
 ∀(pins:List (Addr×Obj)) (s:Shared) (σ:St) (H:Hp) (Q:List (V×V)→Hp→Prop),Inv X pins σ H s→uU HN σ H Q→
  wpAny (model X.prog X.w) X.A (evalPairs (pairTrees keys values X.env pos)) (fun vs s' =>∃ps H',Inv X pins σ H' s' ∧VV ps vs∧Q ps H') X.xe s
theorem v3 {X:Cx}{pos:Pos}:Vx X pos [] [] []:=fun pins s σ H Q I h=>pairTrees_nil_walk ⟨[],H,I,.nil,h⟩
theorem mD {X:Cx}{pos:Pos}{k v:Expr}{ks:List (Option Expr)}{vs:List Expr}{tk tv:TE}{HN:List (TE×TE)}(hk:PE X k tk)(hv:PE X v tv)(hr:Vx X pos ks vs HN):
  Vx X pos (some k::ks) (v::vs) ((tk,tv)::HN):=fun pins s σ H Q I h=>
 pairTrees_cons_walk (b9 (hk pins s σ H _ I h) fun u s1 ⟨x,H1,I1,rx,q1⟩=>b9 (hv pins s1 σ H1 _ I1 q1) fun w2 s2 ⟨y,H2,I2,ry,q2⟩=>
  b9 (hr pins s2 σ H2 _ I2 q2) fun ws s3 ⟨ps,H3,I3,rel,q3⟩=>⟨(x,y)::ps,H3,I3,.cons ⟨rx,ry⟩ rel,q3⟩)
def bD (kvs more:List (Key×V)):List (Key×V):=more.foldl (fun acc kv=>putK acc kv.1 kv.2) kvs
theorem KV.merge:∀{more:List (Key×V)} {rs:List (Key×Value)} {kvs:List (Key×V)} {vs:List (Key×Value)},KV more rs→KV kvs vs→KV (bD kvs more) (merged vs rs):=by
 intro more rs kvs vs r
 unfold KV at r
 induction r generalizing kvs vs with
 | nil=>intro q;exact q
 | @cons p q ps qs h t ih=>
  intro r0
  have e:KV (putK kvs p.1 p.2) (stored vs q.1 q.2):=by
   have:=r0.put p.1 h.2
   rw [← h.1];exact this
  exact ih e
theorem dY:∀(more kvs:List (Key×V)),(bD kvs more).length≤kvs.length+more.length
 | [],kvs=>by show kvs.length≤kvs.length+0;omega
 | p::r,kvs=>by
  have h1:=dY r (putK kvs p.1 p.2)
  have h2:=fH kvs p.1 p.2
  show (bD (putK kvs p.1 p.2) r).length≤_
  rw [ae6];omega
theorem mE {P:Program}{w:World}:∀{kvs:List (Key×V)} {ws:List (Value×Value)},VV (kvs.map fun kv=>(kV kv.1,kv.2)) ws→∃rs,Carries (bx P w) ws rs∧KV kvs rs
 | [],_,r=>by rw [afh] at r;cases r;exact ⟨[],True.intro,.nil⟩
 | p::kvs,_,r=>by
  rw [ac_] at r
  cases r with
  | @cons a b as bs h t=>
   obtain ⟨rs,c,q⟩:=mE (P:=P) (w:=w) t
   obtain ⟨b1,b2⟩:=b
   exact ⟨(p.1,b2)::rs,⟨jc h.1,rfl,c⟩,.cons ⟨rfl,h.2⟩ q⟩
def OV (HN:List (TE×TE)):TE:=fun σ H Q=>∀p,H p=none→uU HN σ (upd H p (.dK [])) fun ps H2=>H2 p=some (.dK [])∧∃kvs:List (Key×V),ps=kvs.map (fun kv=>(kV kv.1,kv.2))∧kvs.length≤15∧Q (.ref p) (upd H2 p (.dK (bD [] kvs)))
theorem v7 {X:Cx}{pos:Pos}{keys:List (Option Expr)}{values:List Expr}{HN:List (TE×TE)}(h:Vx X pos keys values HN)(AR:keys.all (·.isSome)=true)(hl:keys.length=values.length)(h0:keys≠[])
  (h15:keys.length≤15):PE X (.Dict keys values pos) (OV HN):=by
 intro pins s σ H Q I q
 have hn:=I.bI.fresh (aeG s.heap.objs.size)
 have I1:=I.laid (a:=s.heap.objs.size) (o:=.dK []) (h' :=s.heap.push {cls:=.type "dict",data:=.dict #[]}) (t' :=s.toks) (fun _ _ q=>Heap.get?_push_of_some _ q) (aeG _) (sS s.heap I.big)
 refine wpAny_Dict_walk (knd:=bx X.prog X.w) AR hl h0 h15 (b9 (h pins _ σ _ _ I1 (q _ hn)) fun ws s2 ⟨ps,H2,I2,rel,e,kvs,ep,lk,q2⟩=> ?_)
 subst ep
 obtain ⟨rs,c,rk⟩:=mE (P:=X.prog) (w:=X.w) rel
 obtain ⟨z,hd,vs0,r0,dd⟩:=jd I2.bI e
 cases r0
 refine ⟨rs,c,dd,fun h' zD hs=>⟨.ref s.heap.objs.size,_,?_,rfl,q2⟩⟩
 have hz:(bD [] kvs).length≤sizeLine:=by
  have h1:=dY kvs []
  rw [agu] at h1
  rw [sizeLine_eq];omega
 have he:∃q,h'.get? s.heap.objs.size=some q:=let ⟨q,_,_,hq,_⟩:=zD;⟨q,hq⟩
 exact g9 I2 (by rw [e];exact True.intro) hs he (jL hz hd (rk.merge .nil) zD)
structure M2 (X:Cx)(o:Expr)(m:Str)(apos:Pos)(e f:Expr)(dJ:Pos):Prop where
 base:attributeBase o m X.env (eval o X.env)=eval o X.env
 few:((backTo dJ (starEach [e,f] X.env)).all (fun x=> !x.1) && (backToKw dJ (keywordEach [] X.env)).all (fun x=>x.1.isSome)
  && decide (([e,f]:List Expr).length+([]:List Keyword).length+(if ([]:List Keyword).isEmpty then 0 else 1) < 30))=true
 line:(apos.endLine==dJ.line)=true
 trees:backTo dJ (starEach [e,f] X.env)=[(false,eval e X.env),(false,eval f X.env)]
def IsD (H:Hp)(a:Addr):Prop:=(∃kvs,Rd H a (.dK kvs))∨∃kvs,Rd H a (.dT kvs)
theorem uV {X:Cx}{pins:List (Addr×Obj)}{σ:St}{H:Hp}{s:Shared}{a:Addr}(I:Inv X pins σ H s)(d:IsD H a):
  s.TypeIs (.ref a) "dict"∧(∀b,Value.ref a=.ref b→∃ob,s.heap.get? b=some ob∧ob.dict=none)∧(a==sysModules)=false:=by
 rcases d with ⟨kvs,e⟩ | ⟨kvs,e⟩
 ·obtain ⟨_,hd,vs,_,dd⟩:=iw I.bI e
  refine ⟨dd.typeIs,fun b q=> ?_,hd⟩
  cases q
  obtain ⟨ob,_,_,h1,h2,_⟩:=dd
  exact ⟨ob,h1,h2.2.1⟩
 ·obtain ⟨_,hd,xs,_,dd⟩:=mC I.bI e
  refine ⟨dd.typeIs,fun b q=> ?_,hd⟩
  cases q
  obtain ⟨ob,_,_,h1,h2,_⟩:=dd
  exact ⟨ob,h1,h2.2.1⟩
section
variable {X:Cx}{pins:List (Addr×Obj)}{σ:St}{H:Hp}{s:Shared}{a:Addr}{y d:V}{u r:Value}{o:Option V}{A:Around}{E:Value→Shared→Prop}
theorem LR {Q:Value→Shared→Prop}(hu:A.units+1 < cLine)(I:Inv X pins σ H s)(g:cQ H a y o)(ry:RelV y u)(rd:RelV d r)(h:∀w' s',Inv X pins σ H s' →RelV (o.getD d) w' →Q w' s'):
  wpAny (model X.prog X.w) A (call (.builtin "dict.get") [.ref a,u,r]) Q E s:=by
 rcases g with ⟨kvs,k,e,ey,l⟩ | ⟨kvs,k,b,e,ey,eb,l⟩
 ·subst ey
  obtain ⟨z,hd,vs,rel,dd⟩:=iw I.bI e
  refine call_meetsIn PySem.F.slot_dict_get dd.typeIs PySem.F.entry_dict_get (PySem.F.args_dict_get_3 _ _ _) (meets_dict_get_default (bx X.prog X.w) a (jc ry) hd r) ⟨_,dd.mapOf,h _ _ (I.tok _) ?_⟩
  rw [l]
  exact (rel.val k).getD rd
 ·subst ey
  cases (show u=Value.ref b from ry)
  obtain ⟨z,hd,xs,rel,dd⟩:=mC I.bI e
  refine call_meetsIn PySem.F.slot_dict_get dd.typeIs PySem.F.entry_dict_get (PySem.F.args_dict_get_3 _ _ _) (meetsH_dict_get_default (tupleKind (bx X.prog X.w)) a b hd r) ⟨tupleKind_room_in1 hu,k,xs,jK I.bI eb,dd,h _ _ (I.tok _) ?_⟩
  rw [l]
  exact (rel.val k).getD rd
end
def LS (td ty tx:TE):TE:=fun σ H Q=>td σ H fun x H1=>∃a,x=.ref a∧IsD H1 a∧ty σ H1 fun y H2=>tx σ H2 fun z H3=>∃o,cQ H3 a y o∧Q (o.getD z) H3
section
variable {X:Cx}{o e f:Expr}{apos dJ:Pos}{td ty tx:TE}
theorem sT (hu:X.A.units+1 < cLine)(ho:PE X o td)(he:PE X e ty)(hf:PE X f tx)(m:M2 X o "get" apos e f dJ):PE X (.Call (.Attribute o "get" apos) [e,f] [] dJ) (LS td ty tx):=by
 intro pins s σ H Q I h
 refine wpAny_Call_method m.base m.few m.line PySem.F.plainAttrs_dict PySem.F.slot_dict_get PySem.F.type_dict_get (b9 (ho pins s σ H _ I h) fun u s1 ⟨x,H1,I1,rx,a,ex,d,q1⟩=> ?_)
 subst ex
 obtain rfl:u=Value.ref a:=rx
 obtain ⟨t1,t2,_⟩:=uV I1 d
 refine ⟨t1,t2,?_⟩
 rw [m.trees]
 refine Calls.callWith_builtin rfl (Calls.evalArgs_plain (Calls.spliced_cons (b9 (he pins s1 σ H1 _ I1 q1) fun iv s2 ⟨y,H2,I2,ry,q2⟩=>
  Calls.spliced_cons (b9 (hf pins s2 σ H2 _ I2 q2) fun fv s3 ⟨z,H3,I3,rz,ov,g,q3⟩=>Calls.spliced_nil ?_))))
 exact LR hu I3 g ry rz fun w' s4 I4 rN =>⟨_,H3,I4,rN,q3⟩
end
section
variable {X:Cx}{pins:List (Addr×Obj)}{σ:St}{H:Hp}{s:Shared}{a:Addr}{kvs:List (Key×V)}{A:Around}{E:Value→Shared→Prop}
end
section
variable {X:Cx}{pins:List (Addr×Obj)}{σ:St}{H:Hp}{s:Shared}{a:Addr}{y:V}{u:Value}{A:Around}{E:Value→Shared→Prop}
end
end L2
set_option maxHeartbeats 4000000
namespace Ty
open PySem PySem.Spec PyProof.Rows L2
section
variable {X:Cx}
theorem HP {pins:List (Addr×Obj)}{σ:L2.St}{H:Hp}{s:Shared}(I:Inv X pins σ H s):s.heap.NoSeer:=I.ok.mod.seer.keeps I.bk
theorem cy.py {k:Nat}{A:Around}(r:cy k A)(h:32≤k):A.depth+Builtin.pylongFrames < recursionLimit:=by
 have:=r.dp
 have:Builtin.pylongFrames=100:=rfl
 omega
theorem fm {env:Env}{l:List Env}(ht:X.prog.given.tree=none)(hd:X.A.depth+Builtin.pylongFrames < recursionLimit)(F':X.stack=env::l)(h1:env.scope.isGenerator=false)(h2:env.scope.isCoroutine=false)(h3:env.builtins=builtinsNs)(h4:env.globals=mainGlobals):
  ib X (binaryOp .FloorDiv) (rI LF fun i j=>.int (i.fdiv j)):=by
 intro pins s σ H x y v u Q I rx ry h
 obtain ⟨i,j,rfl,rfl,hc,q⟩:=h
 obtain ⟨t,rfl⟩:=rx
 obtain ⟨t',rfl⟩:=ry
 exact floordiv_int hc ⟨.int _,H,I.tok _,⟨_,rfl⟩,q⟩ (.inr (PylongRoom.of I.nolimit hd (SeerAt.of (HP I) ht (by rw [I.ok.frames,F']) h1 h2 h3 h4)))
end
section
variable {prog:Program}{w:World}{A:Around}{E:Value→Shared→Prop}{s:Shared}{KK:Type}[DecidableEq KK]{knd:KeyKind prog w KK}
theorem xN {d:Addr}{kvs:List (KK×Value)}{Q:Bool→Shared→Prop}(hm:s.heap.DictOf knd d kvs)(h:Q false s):wpAny (model prog w) A (Builtin.List.listLengthHint (.ref d)) Q E s:=by
 unfold Builtin.List.listLengthHint
 refine wpAny_bind (wpAny_specialOf (name:=Str.ofString "__len__") hm.typeIs F.slot_dict_len.lookup ?_)
 generalize hid:("dict.__len__":String)=id0
 wp_delta
 rw [show splitId id0=some ("dict","__len__") from by subst hid;decide+kernel]
 subst hid
 refine wpAny_bind (wpAny_isInstance (T:="dict") (b:=true) hm.typeIs (by rw [isSubtype_type];kernel_rfl) ?_)
 refine wpAny_ite_split (fun WU=>absurd WU (by decide)) (fun _=> ?_)
 refine wpAny_ite_split (fun _=> ?_) (fun WU=>absurd (by decide+kernel) WU)
 refine wpAny_bind (wpAny_typeOf (T:="dict") hm.typeIs ?_)
 exact wpAny_pure h
theorem sU {R:Result→Shared→Prop}{d:Addr}{kvs:List (KK×Value)}{ep:Nat}(hh:A.handled=none)(hd:(d==sysModules)=false)(hm:s.heap.DictAt knd d kvs ep)(hlen:kvs.length≤sizeLine)(S:Addr)(res:Value)(c₀:Nat)(hS:s.heap.get? S=some {cls:=.type "list",data:=.seq #[] c₀})
  (hR:∀h' tk gQ c',(∀b o,b≠S→s.heap.get? b=some o→h'.get? b=some o)→h'.get? S=some {cls:=.type "list",dict:=none,data:=.seq gQ c',slots:= #[]}→
   ItemsOf (fun i v=>∃k x,kvs[i]? =some (k,x)∧knd.is k v=true) gQ kvs.length→R (.ok (.ret res)) {s with heap:=h',toks:=tk}):
  wpAny (model prog w) A.in1 (Builtin.List.listExtendWith (.ref S) (.ref d) res)
   (fun fin s' =>match fin with | .done f=>R (.ok f) s' | .again c' =>c'.quiet=true∧codeAny (model prog w) A c' R s') (fun e s' =>R (.error e) s') s:=by
 obtain ⟨od,es,Ny,og,ig,hk0,hp0,hn0⟩:=id hm
 have hT:s.TypeIs (.ref d) "dict":=hm.dictOf.typeIs
 have Nz:S≠d:=fun e=>by
  rw [e] at hS
  rw [hS] at Ny
  cases Ny
  cases ig
 have hdI:d≠s.heap.objs.size:=ae4 (Heap.lt_size Ny)
 have WV:S≠s.heap.objs.size:=ae4 (Heap.lt_size hS)
 have hSf:S∉[s.heap.objs.size,d]:=fun hm=>by
  rcases ae1.mp hm with z | z
  ·exact WV z
  ·exact Nz (aeH.mp z)
 have W:=(Walks.dictKeys (knd:=knd) (A:=A.in1) hh s.heap.objs.size d hdI kvs ep).toS
 unfold Builtin.List.listExtendWith
 refine wpAny_bind (wpAny_typeOf (T:="dict") hT ?_)
 have h1:Builtin.List.listSameRef (.ref S) (.ref d)=false:=by simp [Builtin.List.listSameRef,Nz]
 have h2:(Value.type "dict"==Value.type "list")=false:=by decide
 have h3:(Value.type "dict"==Value.type "tuple")=false:=by decide
 simp only [h1,h2,h3,apS,aga,if_false]
 refine wpAny_bind (wpAny_pyIter_dict hd hm ?_)
 have NA:(s.heap.push {cls:=.type "dict_keyiterator",data:=.fields #[.ref d,.int 0 0,.int kvs.length 0,.int ep 0]}).DictAt knd d kvs ep:=hm.at' fun o e=>Heap.get?_push_of_some _ e
 refine wpAny_bind (wpAny_holding (xN (knd:=knd) NA.dictOf ?_))
 have OW:=Heap.get?_push_of_some {cls:=.type "dict_keyiterator",data:=.fields #[.ref d,.int 0 0,.int kvs.length 0,.int ep 0]} hS
 have it₁:(s.heap.push {cls:=.type "dict_keyiterator",data:=.fields #[.ref d,.int 0 0,.int kvs.length 0,.int ep 0]}).IsKeyIter s.heap.objs.size d 0 kvs.length ep:=⟨_,Heap.get?_push_size _ rfl,rfl,rfl⟩
 have key:∀(h:Heap) (c₁ tk:Nat),h.IsKeyIter s.heap.objs.size d 0 kvs.length ep→h.DictAt knd d kvs ep→(∀b o,b≠S→s.heap.get? b=some o→h.get? b=some o)→
   h.get? S=some {cls:=.type "list",data:=.seq #[] c₁}→codeAny (model prog w) A (.builtin "list.extend.loop" ⟨[.ref S,.ref s.heap.objs.size,res],[]⟩) R {s with heap:=h,toks:=tk}:=by
  intro h c₁ tk hit hdm hk OW
  refine codeAny_extend_loopS W hlen S hSf res kvs.length 0 _ #[] c₁ rfl (ae' _) ⟨hit,hdm⟩ OW (ItemsOf.nil _) fun s' gQ c' hm' HQ oq=> ?_
  rw [Moved.eq_with hm']
  refine hR s'.heap s'.toks gQ c' (fun b o hb e=>hm'.heap b o (fun xO=> ?_) (hk b o hb e)) HQ oq
  rcases ae1.mp xO with e' | xO
  ·exact hb e'
  ·exact absurd (Heap.lt_size e) (by rw [aeH.mp xO];exact afj _)
 refine wpAny_ite_split (fun _=> ?_) (fun _=>wpAny_pure ⟨plainId_quiet F.plain_extend_loop _,key _ c₀ _ it₁ NA (fun b o _ e=>Heap.get?_push_of_some _ e) OW⟩)
 refine wpAny_bind (wpAny_rule ?_)
 refine wpAny_bind ?_
 show wpAny _ _ (updateSeq S (·.push .none) >>=fun _=>updateSeq S (·.pop)) _ _ _
 refine wpAny_bind (wpAny_updateSeq OW rfl ?_)
 have Vy:=Heap.get?_update_self (Obj.mapSeq (·.push Value.none)) OW rfl
 refine wpAny_updateSeq (hz:=by seq_fits) Vy rfl ?_
 have hS₃:=Heap.get?_update_self (Obj.mapSeq (·.pop)) Vy rfl
 refine wpAny_pure ⟨plainId_quiet F.plain_extend_loop _,key _ _ _ (it₁.at fun o e=> ?_) (NA.at' fun o e=> ?_) (fun b o hb e=> ?_) hS₃⟩
 ·exact (Heap.get?_update_other _ _ WV).trans ((Heap.get?_update_other _ _ WV).trans e)
 ·exact (Heap.get?_update_other _ _ Nz).trans ((Heap.get?_update_other _ _ Nz).trans e)
 ·exact (Heap.get?_update_other _ _ (ae8 hb)).trans ((Heap.get?_update_other _ _ (ae8 hb)).trans (Heap.get?_push_of_some _ e))
theorem mF {R:Result→Shared→Prop}{d:Addr}{kvs:List (KK×Value)}{ep:Nat}(hh:A.handled=none)(hd:(d==sysModules)=false)(hm:s.heap.DictAt knd d kvs ep)(hlen:kvs.length≤sizeLine)(S:Addr)(hS:s.heap.get? S=some {cls:=.type "list",data:=.seq #[]})
  (hR:∀h' tk gQ c',(∀b o,b≠S→s.heap.get? b=some o→h'.get? b=some o)→h'.get? S=some {cls:=.type "list",dict:=none,data:=.seq gQ c',slots:= #[]}→
   ItemsOf (fun i v=>∃k x,kvs[i]? =some (k,x)∧knd.is k v=true) gQ kvs.length→R (.ok (.ret .none)) {s with heap:=h',toks:=tk}):
  wpAny (model prog w) A.in1 (Builtin.«list.__init__» ⟨[.ref S,.ref d],[]⟩)
   (fun fin s' =>match fin with | .done f=>R (.ok f) s' | .again c' =>c'.quiet=true∧codeAny (model prog w) A c' R s') (fun e s' =>R (.error e) s') s:=by
 obtain ⟨od,es,Ny,og,ig,hk0,hp0,hn0⟩:=id hm
 have Nz:S≠d:=fun e=>by
  rw [e] at hS
  rw [hS] at Ny
  cases Ny
  cases ig
 show wpAny _ _ (do let old ← Builtin.List.listItems (.ref S);Builtin.List.listUpdate (.ref S) (fun _=> #[]);letGo old.toList.reverse;Builtin.List.listExtendWith (.ref S) (.ref d) .none) _ _ s
 refine wpAny_bind ?_
 unfold Builtin.List.listItems
 refine wpAny_bind (wpAny_seqItems hS rfl (wpAny_pure ?_))
 show wpAny _ _ (updateSeq S (fun _=> #[]) >>=fun _=>letGo (#[]:Array Value).toList.reverse >>=fun _=>Builtin.List.listExtendWith (.ref S) (.ref d) .none) _ _ s
 refine wpAny_bind (wpAny_updateSeq hS rfl ?_)
 have Vy:=Heap.get?_update_self (Obj.mapSeq (fun _=>(#[]:Array Value))) hS rfl
 have oth:∀b o,b≠S→s.heap.get? b=some o→(s.heap.update S (Obj.mapSeq (fun _=>(#[]:Array Value)))).get? b=some o:=
  fun b o hb e=>(Heap.get?_update_other _ _ (ae8 hb)).trans e
 refine wpAny_bind (wpAny_letGo ?_)
 refine sU hh hd (hm.at' fun o e=>oth d o (ae8 Nz) e) hlen S .none _ Vy fun h' tk gQ c' hk HQ oq=> ?_
 exact hR h' tk gQ c' (fun b o hb e=>hk b o hb (oth b o hb e)) HQ oq
theorem mG {Q:Value→Shared→Prop}{d:Addr}{kvs:List (KK×Value)}{ep:Nat}(hh:A.handled=none)(hd:(d==sysModules)=false)(hm:s.heap.DictAt knd d kvs ep)(hlen:kvs.length≤sizeLine)
  (hQ:∀h' tk gQ c',(∀b o,s.heap.get? b=some o→h'.get? b=some o)→
   h'.get? s.heap.objs.size=some {cls:=.type "list",dict:=none,data:=.seq gQ c',slots:= #[]}→ItemsOf (fun i v=>∃k x,kvs[i]? =some (k,x)∧knd.is k v=true) gQ kvs.length→Q (.ref s.heap.objs.size) {s with heap:=h',toks:=tk}):
  wpAny (model prog w) A (call (.type "list") [.ref d]) Q E s:=by
 refine callType_codes (Q₁:=fun obj s₁=>obj=.ref s.heap.objs.size∧s₁={s with heap:=s.heap.push {cls:=.type "list",data:=.seq #[]}}) F.called_list (F.typeCall_list_1 _) F.entry_list_init
  (code_list_new _ ⟨rfl,rfl⟩) fun obj s₁ h₁=> ?_
 obtain ⟨rfl,rfl⟩:=h₁
 have hS:(s.heap.push {cls:=.type "list",data:=.seq #[]}).get? s.heap.objs.size=some {cls:=.type "list",data:=.seq #[]}:=Heap.get?_push_size _ rfl
 refine ⟨⟨_,hS,rfl⟩,F.args_list_init_2 _ _,mF (A:=A.in1) hh hd (hm.at' fun o e=>Heap.get?_push_of_some _ e) hlen _ hS fun h' tk gQ c' hk HQ oq=> ?_⟩
 exact ⟨rfl,hQ h' tk gQ c' (fun b o e=>hk b o (ae4 (Heap.lt_size e)) (Heap.get?_push_of_some _ e)) HQ oq⟩
end
theorem aE {α β:Type}{F:α→β→Prop}:∀{l₁:List α} {l₂:List β} {i:Nat} {a:α},Paired F l₁ l₂→l₁[i]? =some a→∃b,l₂[i]? =some b∧F a b
 | _,_,_,_,.nil,h=>by simp at h
 | _,_,0,_,.cons r _,h=>by
  cases h
  exact ⟨_,rfl,r⟩
 | _,_,i+1,_,.cons _ t,h=>by
  obtain ⟨b,e,f⟩:=aE (i:=i) t (by simpa using h)
  exact ⟨b,by simpa using e,f⟩
theorem eY {α β:Type}{F:α→β→Prop}:∀{l₁:List α} {l₂:List β},l₁.length=l₂.length→(∀(i:Nat) (a:α) (b:β),l₁[i]? =some a→l₂[i]? =some b→F a b)→Paired F l₁ l₂
 | [],[],_,_=>.nil
 | a::l₁,b::l₂,h,f=>.cons (f 0 a b rfl rfl) (eY (by simpa using h) fun i a b e1 e2=>f (i+1) a b (by simpa using e1) (by simpa using e2))
 | [],_::_,h,_=>by simp at h
 | _::_,[],h,_=>by simp at h
theorem k_ {P:Program}{w:World}{k:Key}{u:Value}(h:(bx P w).is k u=true):RelV (kV k) u:=by
 rcases b8 h with ⟨i,t,rfl,rfl⟩ | ⟨x,t,rfl,rfl⟩
 ·exact ⟨t,rfl⟩
 ·exact ⟨t,rfl⟩
section
variable {X:Cx}
inductive BE (xs:List V)(H:Hp)(Q:VK):Prop where
 | mk (p:Addr) (kvs:List (Key×V)) (_:xs=[.ref p]) (_:Rd H p (.dK kvs)) (_:∀l,H l=none→Q (.ref l) (upd H l (.lst (kvs.map fun kv=>kV kv.1)))):BE xs H Q
theorem dP (hc:X.calm=true):eg X (.type "list") BE:=by
 intro pins s σ H xs us Q I r h
 obtain ⟨p,kvs,rfl,hq,q⟩:=h
 obtain ⟨u,rfl,r1⟩:=vals1 r
 cases r1
 obtain ⟨z,hd,vs,rel,o,es,ep,ho,hx,ig,hk,hp,hn⟩:=iw I.bI hq
 have hl:=rel.length
 refine mG (knd:=bx X.prog X.w) (I.ok.hd hc) hd ⟨o,es,ho,hx,ig,hk,hp,hn⟩ (by omega) fun h' tk gQ c' kk hS oq=> ?_
 have N3 :=I.bI.fresh (aeG s.heap.objs.size)
 have rv:Vals (kvs.map fun kv=>kV kv.1) gQ.toList:=eY (by have:=oq.1;simp;omega) fun i a b e1 e2=>by
  rw [Wp] at e1
  obtain ⟨kv,ek,rfl⟩:=aeN.mp e1
  obtain ⟨q',eq,e3,_⟩:=aE rel ek
  obtain ⟨k,x,e4,e5⟩:=oq.2 i b (by simpa using e2)
  rw [eq] at e4
  cases e4
  rw [e3]
  exact k_ e5
 have I2:Inv X pins σ (upd H s.heap.objs.size (.lst (kvs.map fun kv=>kV kv.1))) {s with heap:=h',toks:=tk}:=I.laid (t' :=tk) kk (aeG _) ⟨by rw [aa_];exact z,gQ.toList,c',rv,by simpa using hS⟩
 exact ⟨.ref _,_,I2,rfl,q _ N3⟩
theorem Inv.freeze {pins:List (Addr×Obj)}{σ:L2.St}{H:Hp}{s:Shared}{d:Addr}{kvs:List (Key×V)}{o:Obj}(I:Inv X pins σ H s)(e:H d=some (.dK kvs))(ho:s.heap.get? d=some o):Inv X pins σ (upd H d (.fU o (.dK kvs))) s:=by
 have nx:∀b u,H b=some u→b≠d→upd H d (.fU o (.dK kvs)) b=some u:=fun b u q n=>by rw [aj n];exact q
 refine I.step (g' :=s.gens) (t' :=s.toks) (d' :=s.drawn) (ch:=[]) (fun _ z=>nomatch z) (fun b o _ _ _ e _=>e) (fun b o _ _ _ e _=>⟨o.slots,e⟩) (fun b o _ _ n=>by rw [aj (fun z=>by rw [z,e] at n;cases n)];exact n) (fun b o _ e=>⟨o,e⟩)
  (fun b xs q=>nx b _ q fun z=>by rw [z,e] at q;cases q) (fun b o' u q=>nx b _ q fun z=>by rw [z,e] at q;cases q) (fun b ps q=>⟨#[],by rw [nx b _ q fun z=>by rw [z,e] at q;cases q];simp⟩) (fun m hm=>hm) (fun b u q=> ?_) I.bare
 by_cases hb:b=d
 ·subst hb
  rw [ak] at q
  cases q
  exact ⟨ho,I.bI b _ e⟩
 ·rw [aj hb] at q
  exact (I.bI b u q).nZ (fun _ _ _ k=>k) (fun c k=>nx c _ k fun z=>by rw [z,e] at k;cases k) fun c xs k=>nx c _ k fun z=>by rw [z,e] at k;cases k
def OX (d:Addr)(o:Obj)(kvs:List (Key×V)):It:=
 ⟨fun i H=>H d=some (.fU o (.dK kvs))∧i < kvs.length,
  fun i H v H' =>∃p k x,kvs[i]? =some (k,x)∧v=.ref p∧H p=none∧H' =upd H p (.tup [kV k,x]),
  fun i H=>H d=some (.fU o (.dK kvs))∧kvs.length≤i⟩
theorem qu {P:Program}{w:World}{H:Hp}{h:Heap}{d:Addr}{o:Obj}{kvs:List (Key×V)}{NC:Array DictEntry}{ep:Nat}(ok:iu P w H h)(e:H d=some (.fU o (.dK kvs)))(he:o.data=.dict NC ep):
  (d==sysModules)=false∧∃vs,KV kvs vs∧h.DictAt (bx P w) d vs ep∧kvs.length≤sizeLine:=by
 obtain ⟨h1,z,hd,vs,rel,o',es,oC,ho,hx,ig,hk,hp,hn⟩:=ok d _ e
 rw [h1] at ho
 cases ho
 rw [he] at ig
 cases ig
 exact ⟨hd,vs,rel,⟨o,NC,h1,hx,he,hk,hp,hn⟩,z⟩
theorem jM:entryFor table "dict_itemiterator.__iter__"=some Builtin.«dict_keyiterator.__iter__»:=
 entryFor_alias (id' :="dict_keyiterator.__iter__") (by kernel_rfl) (by first | rfl | decide+kernel | (unfold String.splitOn;simp+decide [String.splitOnAux])) (by decide+kernel) (by kernel_rfl)
theorem uW {P:Program}{w:World}{A:Around}{E:Value→Shared→Prop}{s:Shared}{it d:Addr}{i n ep:Nat}{ok ov:Value}{Q:Value→Shared→Prop}(st:IsItemIter s.heap it d i n ep ok ov)(h:Q (.ref it) s):wpAny (model P w) A (pyIter (.ref it)) Q E s:=by
 have hT:s.TypeIs (.ref it) "dict_itemiterator":=⟨_,st,rfl⟩
 refine wpAny_pyIter_slot hT F.slot_dict_itemiterator_iter (wpAny_call_entry F.slot_dict_itemiterator_iter hT jM ?_ (F.args_dict_itemiterator_iter_1 _))
 show wpAny _ _ (ret (.ref it)) _ _ s
 exact wpAny_pure ⟨_,rfl,"dict_itemiterator",_,hT,F.slot_dict_itemiterator_next.lookup,h⟩
theorem uX {P:Program}{w:World}{K:Frag}{es:List Expr}{k:Nat}{pos:Pos}(d it:Addr)(o:Obj)(kvs:List (Key×V)){NC:Array DictEntry}{ep:Nat}(he:o.data=.dict NC ep)(zC:it≠d):
  Turn P w K (.Tuple es k pos) (OX d o kvs) [it] it (fun i h=>∃ok ov,IsItemIter h it d i kvs.length ep ok ov) where
 mem:=by simp
 obj:=fun i h st b hb=>by
  have e:b=it:=by simpa using hb
  subst e
  obtain ⟨ok,ov,st⟩:=st
  exact ⟨_,st,fun v z=>by cases z⟩
 keep:=fun i h h' st k=>by
  obtain ⟨ok,ov,st⟩:=st
  exact ⟨ok,ov,k it (by simp) _ st⟩
 item:=by
  intro X hP hw hK hc i pins s σ H E I hf st hg
  subst hP hw hK
  obtain ⟨ok,ov,st⟩:=st
  obtain ⟨fz,hi⟩:=hg
  obtain ⟨hd,vs,rel,da,_⟩:=qu I.bI fz he
  have ek:kvs[i]? =some kvs[i]:=gE hi
  obtain ⟨⟨k',u⟩,ev,e1,ru⟩:=aE rel ek
  have lv:=rel.length
  rw [lv] at st
  refine wpAny_pyNext_items_item st da ev fun key h' AE out tup sz kk=> ?_
  refine ⟨_,rfl,wpAny_letOwnedTupleGo_items (s:={s with heap:=h' }) out fun EV WW sb=> ?_⟩
  have hsz:∀c o,s.heap.get? c=some o→s.heap.objs.size≠c:=fun c o e=>afW (Heap.lt_size e)
  have tz:s.heap.objs.size≠it:=hsz _ _ st
  have nz:∀c,c≠it→∀o,h'.get? c=some o→EV.get? c=some o:=fun c hc o e=>(sb.2 c hc).trans e
  have hn:=I.bI.fresh (aeG s.heap.objs.size)
  have xE :kvs[i].1=k' :=e1
  have I2:Inv X pins σ (upd H s.heap.objs.size (.tup [kV kvs[i].1,kvs[i].2])) {s with heap:=EV,toks:=s.toks}:=
   Inv.qk I (fun b o hb e=>nz b (by simpa using hb) o (kk b o (by simpa using hb) e)) hf (aeG _) (by show 2≤sizeLine;decide) (its:=[key,u]) (.cons (by rw [xE];exact k_ AE) (.cons ru .nil)) ⟨_,nz _ tz _ tup,rfl,_,rfl⟩
  refine ⟨.ref s.heap.objs.size,_,I2,rfl,⟨s.heap.objs.size,kvs[i].1,kvs[i].2,ek,rfl,hn,rfl⟩,⟨_,_,by rw [lv];exact WW⟩,fun b hb=> ?_⟩
  have eb:b=it:=by simpa using hb
  rw [aj (by rw [eb];exact ae8 tz)]
  exact (hf b hb).1
 done:=by
  intro X hP hw hK hc i pins s σ H E I hf st hg
  subst hP hw hK
  obtain ⟨ok,ov,st⟩:=st
  obtain ⟨fz,hi⟩:=hg
  obtain ⟨hd,vs,rel,da,_⟩:=qu I.bI fz he
  have lv:=rel.length
  rw [lv] at st
  obtain ⟨f0,f1,f2,f3,f4,f5⟩:=hf it (by simp)
  exact wpAny_pyNext_items_end (I.ok.hd hc) st da (aeE (by omega)) fun h' eb=>⟨rfl,I.turned (t' :=s.toks) (fun b o hb e=>eb b o hb e) f0 f1 f3 f4 f5⟩
 self:=fun _ _ _ _ _ st h=>by
  obtain ⟨ok,ov,st⟩:=st
  exact uW st h
inductive v9 (R:(It→Hp→Prop))(x:V)(H1:Hp):Prop where
 | mk (d kvs:_) (_:x=.ref d) (_:H1 d=some (.dK kvs)) (_:∀o,R (OX d o kvs) (upd H1 d (.fU o (.dK kvs)))):v9 R x H1
def LU (te:TE):TI:=fun σ H R=>te σ H fun x H1=>v9 R x H1
theorem mH {e:Expr}{te:TE}{apos dJ:Pos}{es:List Expr}{k:Nat}{uL:Pos}(ho:PE X e te)(lV:attributeBase e "items" X.env (eval e X.env)=eval e X.env:=by rfl)(lW:(apos.endLine==dJ.line)=true:=by rfl):
  PI X (.Tuple es k uL) (.Call (.Attribute e "items" apos) [] [] dJ) (LU te):=by
 intro pins s σ H R I h
 refine wpAny_Call_method0_late lV lW (b9 (ho pins s σ H _ I h) fun v s1 ⟨x,H1,I1,r1,q1⟩=> ?_)
 obtain ⟨d,kvs,rfl,e,q⟩:=q1
 cases r1
 obtain ⟨z,hd,vs,rel,o,OY,ep,Ks,hx,ig,hk,hp,hn⟩:=jd I1.bI e
 obtain ⟨h1,h2⟩:=AN (T:="dict") I1 (show RelV (.ref d) (.ref d) from rfl) (.inr (.inr (.inl ⟨rfl,.inl ⟨kvs,e⟩⟩)))
 have da:s1.heap.DictAt (bx X.prog X.w) d vs ep:=⟨o,OY,Ks,hx,ig,hk,hp,hn⟩
 have lv:=rel.length
 refine ⟨"dict","dict.items",F.plainAttrs_dict,F.slot_dict_items,F.type_dict_items,h1,h2,Calls.callWith_builtin rfl (PySem.evalArgs_none ?_)⟩
 refine call_meetsIn F.slot_dict_items h1 F.entry_dict_items (F.args_dict_items_1 _) (meets_dict_items (bx X.prog X.w) d hd) ⟨⟨vs,da.dictOf⟩,?_⟩
 have I2:=Inv.freeze I1 e Ks
 have WX:(s1.heap.push {cls:=.type "dict_items",data:=.fields #[.ref d]}).DictAt (bx X.prog X.w) d vs ep:=da.at' fun o e=>Heap.get?_push_of_some _ e
 show wpAny (model X.prog X.w) X.A (pyIter (.ref s1.heap.objs.size)) _ _ _
 refine wpAny_pyIter_items (s:={s1 with heap:=s1.heap.push {cls:=.type "dict_items",data:=.fields #[.ref d]}}) ⟨_,Heap.get?_push_size _ rfl,rfl,rfl⟩ WX ?_
 have sz:(s1.heap.push {cls:=.type "dict_items",data:=.fields #[.ref d]}).objs.size=s1.heap.objs.size+1:=Heap.size_push ..
 have ne:(s1.heap.push {cls:=.type "dict_items",data:=.fields #[.ref d]}).objs.size≠d:=by
  rw [sz]
  exact ae8 (ae4 (af7 (Heap.lt_size Ks)))
 have I3:Inv X pins σ (upd H1 d (.fU o (.dK kvs))) {s1 with heap:=(s1.heap.push {cls:=.type "dict_items",data:=.fields #[.ref d]}).push {cls:=.type "dict_itemiterator",data:=.fields #[.none,.bool false,.ref d,.int 0 0,.int vs.length 0,.int ep 0,.none,.none]}}:=I2.kept (t' :=s1.toks) fun b o e=>Heap.get?_push_of_some _ (Heap.get?_push_of_some _ e)
 refine ⟨_,[_],_,_,_,rfl,I3,uX d _ o kvs ig ne,⟨_,_,by rw [lv];exact Heap.get?_push_size _ rfl⟩,fun b hb=> ?_,q o⟩
 have eb:b=(s1.heap.push {cls:=.type "dict_items",data:=.fields #[.ref d]}).objs.size:=by simpa using hb
 have le:s1.heap.objs.size≤b:=by rw [eb,sz];exact aps _
 exact I2.jF le (I2.bI.fresh le)
end
end Ty
set_option maxHeartbeats 4000000
namespace Ty
def ev:List Int→(Nat→Rat)→Rat
 | [],_=>0
 | a::r,z=>(a:Rat)*z 0+ev r (fun i=>z (i+1))
theorem BF:∀(l:List Int) (z y:Nat→Rat),ev l (fun i=>z i+y i)=ev l z+ev l y
 | [],_,_=>by simp [ev];grind
 | a::r,z,y=>by
  simp only [ev]
  rw [BF r (fun i=>z (i+1)) (fun i=>y (i+1))]
  grind
theorem qv:∀(l:List Int) (z:Nat→Rat),(∀j,((l.getD j 0:Int):Rat)*z j=0)→ev l z=0
 | [],_,_=>rfl
 | a::r,z,h=>by
  have h0:=h 0
  have ih:=qv r (fun i=>z (i+1)) (fun j=>by simpa using h (j+1))
  simp only [ev]
  rw [ih]
  simp at h0
  grind
theorem qw:∀(l:List Int) (z:Nat→Rat) (p:Nat),(∀j,j≠p→((l.getD j 0:Int):Rat)*z j=0)→ev l z=((l.getD p 0:Int):Rat)*z p
 | [],_,_,_=>by simp [ev]
 | a::r,z,0,h=>by
  have ih:=qv r (fun i=>z (i+1)) (fun j=>by simpa using h (j+1) (by omega))
  simp only [ev]
  rw [ih]
  simp
  grind
 | a::r,z,p+1,h=>by
  have h0:=h 0 (by omega)
  have ih:=qw r (fun i=>z (i+1)) p (fun j hj=>by simpa using h (j+1) (by omega))
  simp only [ev]
  rw [ih]
  simp at h0
  simp
  grind
theorem BG {s t u:Int}:∀{new line lead:List Int},new.length=line.length→lead.length=line.length→(∀j,s*new.getD j 0=t*line.getD j 0 - u*lead.getD j 0)→∀z:Nat→Rat,(s:Rat)*ev new z=t*ev line z - u*ev lead z
 | [],[],[],_,_,_,z=>by simp [ev];grind
 | a::new,b::line,c::lead,h1,h2,h,z=>by
  have h0:=h 0
  have ih:=BG (by simpa using h1) (by simpa using h2) (fun j=>by simpa using h (j+1)) (fun i=>z (i+1))
  simp at h0
  have h0' :(s:Rat)*a=t*b - u*c:=by exact_mod_cast h0
  simp only [ev]
  grind
 | [],_::_,_,h,_,_,_=>by simp at h
 | _::_,[],_,h,_,_,_=>by simp at h
 | _,[],_::_,_,h,_,_=>by simp at h
 | _,_::_,[],_,h,_,_=>by simp at h
def dG:List Rat→List (List Int)→Nat→Rat
 | c::y,o::os,j=>c*((o.getD j 0:Int):Rat)+dG y os j
 | _,_,_=>0
theorem sV {s t u:Rat}(hs:s≠0)(j:Nat):∀(os:List (List Int)) (y1 y2:List Rat),y1.length=os.length→y2.length=os.length→s*dG (afm (fun a b=>(t*a - u*b) / s) y1 y2) os j=t*dG y1 os j - u*dG y2 os j
 | [],[],[],_,_=>by simp [dG];grind
 | o::os,a::y1,b::y2,h1,h2=>by
  have ih:=sV (t:=t) (u:=u) hs j os y1 y2 (by simpa using h1) (by simpa using h2)
  simp only [aoI,dG]
  grind
 | [],_::_,_,h,_=>by simp at h
 | [],[],_::_,_,h=>by simp at h
 | _::_,[],_,h,_=>by simp at h
 | _::_,_::_,[],_,h=>by simp at h
theorem oV (j:Nat):∀(os:List (List Int)),dG (aeW os.length 0) os j=0
 | []=>rfl
 | o::os=>by
  simp only [ae6,afD,dG]
  rw [oV j os]
  grind
def jN (os:List (List Int))(l:List Int):Prop:=∃y:List Rat,y.length=os.length∧∀j,((l.getD j 0:Int):Rat)=dG y os j
theorem sW:∀{os:List (List Int)} {l:List Int},l∈os→jN os l
 | o::os,l,h=>by
  rcases ae1.mp h with z | z
  ·subst z
   refine ⟨1::aeW os.length 0,by simp,fun j=> ?_⟩
   simp only [dG]
   rw [oV]
   grind
  ·obtain ⟨y,hl,hy⟩:=sW z
   refine ⟨0::y,by simp [hl],fun j=> ?_⟩
   simp only [dG]
   rw [← hy j]
   grind
theorem BH {os:List (List Int)}{new line lead:List Int}{s t u:Int}(hs:s≠0)(h:∀j,s*new.getD j 0=t*line.getD j 0 - u*lead.getD j 0)(h1:jN os line)(h2:jN os lead):jN os new:=by
 obtain ⟨y1,l1,e1⟩:=h1
 obtain ⟨y2,l2,e2⟩:=h2
 have Kj :=cG hs
 refine ⟨afm (fun a b=>((t:Rat)*a - u*b) / s) y1 y2,by simp [l1,l2],fun j=> ?_⟩
 have k:=sV (t:=(t:Rat)) (u:=(u:Rat)) Kj j os y1 y2 l1 l2
 rw [← e1 j, ← e2 j] at k
 have h' :(s:Rat)*(new.getD j 0:Int)=t*(line.getD j 0:Int) - u*(lead.getD j 0:Int):=by exact_mod_cast h j
 rw [← h'] at k
 grind
def j9 (y:List Rat):Nat→Rat:=fun i=>if i < y.length then y.getD i 0 else -1
theorem uY (j:Nat)(c:Int):∀(os:List (List Int)) (y:List Rat),y.length=os.length→ev (os.map (fun o=>o.getD j 0)++[c]) (j9 y)=dG y os j - c
 | [],[],_=>by simp [ev,j9,dG];grind
 | o::os,a::y,h=>by
  have ih:=uY j c os y (by simpa using h)
  have ez:(fun i=>j9 (a::y) (i+1))=j9 y:=by
   funext i
   simp [j9]
  simp only [ac_,af8,ev,dG]
  rw [ez,ih]
  simp [j9]
  grind
 | [],_::_,h=>by simp at h
 | _::_,[],h=>by simp at h
theorem mI (k:Rat)(j:Nat):∀(os:List (List Int)) (y:List Rat),dG (y.map (fun a=>a*k)) os j=dG y os j*k
 | [],_=>by cases ‹List Rat› <;> simp [dG] <;> grind
 | _::_,[]=>by simp [dG]
 | o::os,a::y=>by
  simp only [ac_,dG]
  rw [mI k j os y]
  grind
structure nX (line lead new:List Int)(c:Nat):Prop where
 len:new.length=line.length
 BI:new.getD c 0=0
 EW:∃s t u:Int,s≠0∧t≠0∧∀j,s*new.getD j 0=t*line.getD j 0 - u*lead.getD j 0
theorem nX.zero {line lead new:List Int}{c:Nat}(h:nX line lead new c){j:Nat}(h1:line.getD j 0=0)(h2:lead.getD j 0=0):new.getD j 0=0:=by
 obtain ⟨s,t,u,hs,_,e⟩:=h.EW
 have:=e j
 rw [h1,h2,agd,agd,Int.sub_self] at this
 rcases aoM.mp this with z | z
 ·exact absurd z hs
 ·exact z
theorem nX.at {line lead new:List Int}{c:Nat}(h:nX line lead new c){j:Nat}(h2:lead.getD j 0=0)(h1:line.getD j 0≠0):new.getD j 0≠0:=by
 obtain ⟨s,t,u,hs,ht,e⟩:=h.EW
 have:=e j
 rw [h2] at this
 intro z
 rw [z,agd,agd,Int.sub_zero] at this
 rcases aoM.mp this.symm with y | y
 ·exact ht y
 ·exact h1 y
theorem nX.comb {os:List (List Int)}{line lead new:List Int}{c:Nat}(h:nX line lead new c)(h1:jN os line)(h2:jN os lead):jN os new:=by
 obtain ⟨s,t,u,hs,ht,e⟩:=h.EW
 exact BH hs e h1 h2
theorem nX.ev {line lead new:List Int}{c:Nat}(h:nX line lead new c)(hl:lead.length=line.length){z:Nat→Rat}(h2:Ty.ev lead z=0):Ty.ev new z=0 ↔ Ty.ev line z=0:=by
 obtain ⟨s,t,u,hs,ht,e⟩:=h.EW
 have k:=BG h.len hl e z
 rw [h2] at k
 have Kj :=cG hs
 have ht' :=cG ht
 constructor
 ·intro w
  rw [w] at k
  grind
 ·intro w
  rw [w] at k
  grind
end Ty
set_option maxHeartbeats 4000000
namespace Ty
open PySem PySem.Spec PyProof.Rows L2
def OZ (K:Frag)(a:Addr):It:=
 ⟨fun i H=>∃xs x,aU K H a xs∧xs[i]? =some x,
  fun i H v H' =>∃p x,(∀xs,aU K H a xs→xs[i]? =some x)∧v=.ref p∧H p=none∧H' =upd H p (.tup [.int (i:Int),x]),
  fun i H=>∃xs,aU K H a xs∧xs.length≤i⟩
theorem xP {P:Program}{w:World}{K:Frag}{es:List Expr}{k:Nat}{pos:Pos}(a e it:Addr)(zC:e≠it):
  Turn P w K (.Tuple es k pos) (OZ K a) [e,it] e (fun i h=>(∃old,IsEnum h e it ((i:Nat):Int) old)∧h.IsListIter it a i) where
 mem:=by simp
 obj:=fun i h st c hc=>by
  obtain ⟨⟨old,he⟩,⟨o1,e1,c1,d1⟩⟩:=st
  have oF :c=e∨c=it:=by simpa using hc
  rcases oF with z | z <;> subst z
  ·exact ⟨_,he,fun v z=>by cases z⟩
  ·exact ⟨_,e1,fun v z=>by rw [d1] at z;cases z⟩
 keep:=fun i h h' st k=>by
  obtain ⟨⟨old,he⟩,h1⟩:=st
  exact ⟨⟨old,k e (by simp) _ he⟩,h1.at fun o e=>k it (by simp) o e⟩
 item:=by
  intro X hP hw hK hc i pins s σ H E I hf st hg
  subst hP hw hK
  obtain ⟨⟨old,he⟩,h1⟩:=st
  obtain ⟨xs,x,qx,ex⟩:=hg
  obtain ⟨its,rv,p,_⟩:=I.list qx
  obtain ⟨u,hu,ru⟩:=rv.get ex
  refine wpAny_pyNext_enum_item he h1 p.isList (x:=u) (by simpa using hu) zC fun h' a1 a2 a3 a4 a5=> ?_
  refine ⟨_,rfl,wpAny_letOwnedTupleGo_enum (s:={s with heap:=h',toks:=s.toks+1}) a1 fun EV b1 sb=> ?_⟩
  have nz:∀c,c≠e→∀o,h'.get? c=some o→EV.get? c=some o:=fun c hc o q=>(sb.2 c hc).trans q
  have kk:∀b o,b∉[e,it]→s.heap.get? b=some o→EV.get? b=some o:=fun b o hb q=>by
   have gF :b≠e∧b≠it:=by simpa using hb
   exact nz b gF.1 o (a5 b o gF.1 gF.2 q)
  have sz:∀c o,s.heap.get? c=some o→s.heap.objs.size≠c:=fun c o q=>afW (Heap.lt_size q)
  have tz:s.heap.objs.size≠e:=sz _ _ he
  have hn:=I.bI.fresh (aeG s.heap.objs.size)
  have I2:Inv X pins σ (upd H s.heap.objs.size (.tup [.int (i:Int),x])) {s with heap:=EV,toks:=s.toks+1}:=
   Inv.qk I kk hf (aeG _) (by show 2≤sizeLine;decide) (its:=[.int i s.toks,u]) (.cons ⟨_,rfl⟩ (.cons ru .nil)) ⟨_,nz _ tz _ a3,rfl,_,rfl⟩
  refine ⟨.ref s.heap.objs.size,_,I2,rfl,⟨s.heap.objs.size,x,fun xs' q=>by rw [I.gJ q qx];exact ex,rfl,hn,rfl⟩,⟨⟨_,by exact b1⟩,a2.at fun o q=>nz _ (ae8 zC) o q⟩,fun b hb=> ?_⟩
  have ob:∃o,s.heap.get? b=some o:=by
   obtain ⟨o1,e1,_⟩:=h1
   have oF :b=e∨b=it:=by simpa using hb
   rcases oF with z | z <;> subst z
   ·exact ⟨_,he⟩
   ·exact ⟨_,e1⟩
  obtain ⟨o,q⟩:=ob
  rw [aj (ae8 (sz _ _ q))]
  exact (hf b hb).1
 done:=by
  intro X hP hw hK hc i pins s σ H E I hf st hg
  subst hP hw hK
  obtain ⟨⟨old,he⟩,h1⟩:=st
  obtain ⟨xs,qx,ee⟩:=hg
  obtain ⟨its,rv,p,_⟩:=I.list qx
  have l1:=rv.length
  refine wpAny_pyNext_enum_end (I.ok.hd hc) he h1 p.isList (by simp;omega) fun h' kk=>⟨rfl,Inv.g7 I (fun b o hb q=> ?_) hf⟩
  have gF :b≠e∧b≠it:=by simpa using hb
  exact kk b o gF.2 q
 self:=fun _ _ _ _ _ st h=>by
  obtain ⟨⟨old,he⟩,_⟩:=st
  exact wpAny_pyIter_enum he h
theorem boot_enumerate:bootBuiltins "enumerate"=some (.type "enumerate"):=by decide+kernel
section
variable {X:Cx}
inductive BJ (K:Frag)(R:(It→Hp→Prop))(vs:List V)(H1:Hp):Prop where
 | mk (a:_) (_:vs=[.ref a]) (_:(∃xs,aU K H1 a xs)) (_:R (OZ K a) H1):BJ K R vs H1
def O0 (K:Frag)(ta:TA):TI:=fun σ H R=>ta σ H fun vs H1=>BJ K R vs H1
theorem v_ {e1:Expr}{ta:TA}{p pos:Pos}{es:List Expr}{k:Nat}{uL:Pos}(hg:Gl X "enumerate")(hm:X.mg "enumerate"=none)(ha:PA X [e1] ta)(hs:starEach [e1] X.env=[(false,eval e1 X.env)]:=by rfl):
  PI X (.Tuple es k uL) (.Call (.Name "enumerate" p) [e1] [] pos) (O0 X.K ta):=by
 intro pins s σ H R I h
 refine Call_ (gi I hg hm boot_enumerate (PyProof.Rows.callWith_type1 (b9 (ha pos pins s σ H _ I h) fun us s1 ⟨vs,H1,I1,r1,q1⟩=> ?_) hs rfl))
 obtain ⟨a,e,⟨xs,hx⟩,q⟩:=q1
 subst e
 cases r1 with
 | cons r rr=>
  cases rr
  cases r
  obtain ⟨its,rv,pl,_⟩:=I1.list hx
  refine call_enumerate_list pl.isList fun h' hE hI hsz hk=>wpAny_pyIter_enum (s:={s1 with heap:=h' }) hE ?_
  refine ⟨s1.heap.objs.size+1,[s1.heap.objs.size+1,s1.heap.objs.size],_,_,H1,rfl,I1.kept (t' :=s1.toks) hk,xP a _ _ (Nat.succ_ne_self _),⟨⟨_,hE⟩,hI⟩,fun c hc=> ?_,q⟩
  have oF :s1.heap.objs.size≤c:=by
   have:c=s1.heap.objs.size+1∨c=s1.heap.objs.size:=by simpa using hc
   simp only [Addr] at*
   omega
  exact I1.jF oF (I1.bI.fresh oF)
theorem any_range (bs:List Bool):(afV bs.length).any (fun i=>(bs[i]?).getD true)=bs.any id:=by
 rw [afZ,afU,afU]
 constructor
 ·rintro ⟨i,hi,h⟩
  have O1 :i < bs.length:=afS.mp hi
  rw [gE O1] at h
  exact ⟨bs[i],afz O1,h⟩
 ·rintro ⟨b,hb,h⟩
  obtain ⟨i,hi⟩:=aeK hb
  exact ⟨i,afS.mpr (be.mp hi).1,by rw [hi];exact h⟩
inductive O3 (K:Frag)(xs:List V)(H:Hp)(Q:VK):Prop where
 | mk (p:Addr) (bs:List Bool) (_:xs=[.ref p]) (_:aU K H p (bs.map V.bl)) (_:Q (.bl (bs.any id)) H):O3 K xs H Q
theorem xQ (hc:X.calm=true):eg X (.builtin "any") (O3 X.K):=by
 intro pins s σ H xs us Q I r h
 obtain ⟨p,bs,rfl,hq,q⟩:=h
 obtain ⟨u,rfl,r1⟩:=vals1 r
 cases r1
 obtain ⟨its,rv,pl,hz⟩:=I.list hq
 refine call_any_walk (wpAny_pyIter_list pl.isList ?_)
 have zC:p≠s.heap.objs.size:=by obtain ⟨o,ho,_⟩:=pl.isList;exact ae4 (Heap.lt_size ho)
 have I1:Inv X pins σ H {s with heap:=s.heap.push {cls:=.type "list_iterator",data:=.fields #[.ref p,.int 0 0]}}:=I.kept (t' :=s.toks) fun b o e=>Heap.get?_push_of_some _ e
 obtain ⟨f0,f1,f2,f3,f4,f5⟩:=I.jF (H' :=H) (aeG s.heap.objs.size) (I.bI.fresh (aeG _))
 have hl:its.length=bs.length:=by rw [← rv.length,aa_]
 refine ⟨s.heap.objs.size,_,_,_,_,_,fun i=>(bs[i]?).getD true,rfl,Walks.list (A:=X.A.in1) (I.ok.hd hc) s.heap.objs.size p zC its.toArray,⟨⟨_,Heap.get?_push_size _ rfl,rfl,rfl⟩,pl.isList.at fun o e=>Heap.get?_push_of_some _ e⟩,?_,fun h' tk kk=> ?_⟩
 ·intro i v s' Q' E' hv kG
  have Lq :its[i]? =some v:=by simpa using hv
  have hi:i < bs.length:=by rw [← hl];exact (be.mp Lq).1
  have eb:(bs.map V.bl)[i]? =some (.bl bs[i]):=by rw [Wp,gE hi];rfl
  obtain ⟨u,eu,ru⟩:=rv.get eb
  rw [Lq] at eu
  cases eu
  cases ru
  dsimp only at kG
  rw [gE hi] at kG
  exact wpAny_truthy_bool kG
 ·refine ⟨.bl (bs.any id),H,I1.turned (t' :=tk) (it:=s.heap.objs.size) (fun b o hb e=>kk b o (by simpa using hb) e) f0 f1 f3 f4 f5,?_,q⟩
  show _=_
  rw [← any_range bs,aeU,hl]
theorem O4:bootBuiltins "any"=some (.builtin "any"):=by decide+kernel
end
theorem sX {K:Frag}{a:Addr}{xs:List V}{g:TG}{tb:TS}{D:Ends}{σ:L2.St}{H:Hp}(Pv:Nat→L2.St→Hp→Prop)(h0:Pv 0 σ H)(hl:∀i σ H,i≤xs.length→Pv i σ H→aU K H a xs)
  (hs:∀i x σ H p,xs[i]? =some x→Pv i σ H→H p=none→g (.ref p) σ (upd H p (.tup [.int (i:Int),x])) fun σ2 H2=>tb {D with nx:=Pv (i+1),ct:=Pv (i+1),bk:=D.nx} σ2 H2) (hd:∀σ H,Pv xs.length σ H→D.nx σ H):
  ∃W:Nat→Nat→L2.St→Hp→Prop,(∃m,W 0 m σ H)∧∀i m σ H,W i m σ H→
   ((OZ K a).stop i H∧D.nx σ H)∨((OZ K a).go i H∧∃N:L2.St→Hp→Prop,(∀σ' H',N σ' H' →∃m',m' < m∧W (i+1) m' σ' H')∧∀x H',(OZ K a).zB i H x H' →g x σ H' fun σ2 H2=>tb {D with nx:=N,ct:=N,bk:=D.nx} σ2 H2):=by
 refine ⟨fun i m σ H=>m=xs.length - i∧i≤xs.length∧Pv i σ H,⟨xs.length,by simp,ae' _,h0⟩,?_⟩
 rintro i m σ H ⟨rfl,hi,p⟩
 have q:=hl i σ H hi p
 by_cases kF:i < xs.length
 ·have e:xs[i]? =some xs[i]:=gE kF
  refine .inr ⟨⟨xs,_,q,e⟩,Pv (i+1),fun σ' H' z=>⟨xs.length - (i+1),by omega,rfl,by omega,z⟩,fun x H' y=> ?_⟩
  obtain ⟨pp,x',y1,rfl,np,rfl⟩:=y
  exact hs i x' σ H pp (y1 xs q) p np
 ·have e:i=xs.length:=by omega
  subst e
  exact .inl ⟨⟨xs,q,aeG _⟩,hd σ H p⟩
theorem jO {d:Addr}{o:Obj}{kvs:List (Key×V)}{g:TG}{tb:TS}{D:Ends}{σ:L2.St}{H:Hp}(Pv:Nat→L2.St→Hp→Prop)(h0:Pv 0 σ H)(hl:∀i σ H,i≤kvs.length→Pv i σ H→H d=some (.fU o (.dK kvs)))
  (hs:∀i k x σ H p,kvs[i]? =some (k,x)→Pv i σ H→H p=none→g (.ref p) σ (upd H p (.tup [kV k,x])) fun σ2 H2=>tb {D with nx:=Pv (i+1),ct:=Pv (i+1),bk:=D.nx} σ2 H2) (hd:∀σ H,Pv kvs.length σ H→D.nx σ H):
  ∃W:Nat→Nat→L2.St→Hp→Prop,(∃m,W 0 m σ H)∧∀i m σ H,W i m σ H→
   ((OX d o kvs).stop i H∧D.nx σ H)∨((OX d o kvs).go i H∧∃N:L2.St→Hp→Prop,(∀σ' H',N σ' H' →∃m',m' < m∧W (i+1) m' σ' H')∧∀x H',(OX d o kvs).zB i H x H' →g x σ H' fun σ2 H2=>tb {D with nx:=N,ct:=N,bk:=D.nx} σ2 H2):=by
 refine ⟨fun i m σ H=>m=kvs.length - i∧i≤kvs.length∧Pv i σ H,⟨kvs.length,by simp,ae' _,h0⟩,?_⟩
 rintro i m σ H ⟨rfl,hi,p⟩
 have q:=hl i σ H hi p
 by_cases kF:i < kvs.length
 ·refine .inr ⟨⟨q,kF⟩,Pv (i+1),fun σ' H' z=>⟨kvs.length - (i+1),by omega,rfl,by omega,z⟩,fun x H' y=> ?_⟩
  obtain ⟨pp,k,x',y1,rfl,np,rfl⟩:=y
  exact hs i k x' σ H pp y1 p np
 ·have e:i=kvs.length:=by omega
  subst e
  exact .inl ⟨⟨q,aeG _⟩,hd σ H p⟩
open Builtin.Int (intBits)
section
variable {X:Cx}
def BK (i j:Int):Prop:=intBits i+intBits j≤134217728
theorem g_:ib X (binaryOp .Mult) (rI BK fun i j=>.int (i*j)):=
 Oe fun _ _ _ _ _ _ _ hc q=>mul_int q (IntMulOk.of_le (aeG _) (aeG _) hc)
theorem f_ {a b:Int}{m n:Nat}(h1:a.natAbs≤2^m)(h2:b.natAbs≤2^n)(h:m+n≤134000000):BK a b:=by
 have x1:=g8 h1 (afe m)
 have x2:=g8 h2 (afe n)
 unfold BK
 omega
inductive Kt (K:Frag)(xs:List V)(H:Hp)(Q:VK):Prop where
 | mk (p ys:_) (_:xs=[.ref p,.ty "tuple"]) (_:bL K H p ys) (_:Q (.bl true) H):Kt K xs H Q
theorem xR:eg X (.builtin "isinstance") (Kt X.K):=by
 intro pins s σ H xs us Q I r h
 obtain ⟨p,ys,rfl,hq,q⟩:=h
 obtain ⟨u,w,rfl,r1,r2⟩:=vals2 r
 obtain rfl:=vY (c:=.ty "tuple") rfl r2
 cases r1
 obtain ⟨its,rv,⟨o,h1,h2,_⟩,_⟩:=I.tuple hq
 have e:PySem.W.kitOne X.K (.type "tuple") (LC (.ty "tuple"))=some true:=by unfold PySem.W.kitOne;rw [if_pos (by decide)]
 exact PySem.W.kia_one PySem.W.kitx_tuple I.iB ⟨o,h1,h2⟩ e (fun z=>nomatch z) fun tk=>⟨.bl true,H,I.tok tk,rfl,q⟩
end
theorem av.cR {K:Frag}{H H' :Hp}{a:Addr}{xs:List V}(e:av H H')(h:bL K H a xs):bL K H' a xs:=by
 rcases h with (h | ⟨o,h⟩) | h
 ·exact .inl (.inl (e _ _ h))
 ·exact .inl (.inr ⟨o,e _ _ h⟩)
 ·exact .inr h
section
variable {D:Addr}{te:TE}{cap:L2.St}{H1:Hp}{Q:VK}
theorem xS {K:Frag}{a b:Addr}{xs ys:List V}(Rel:Nat→V→Hp→Prop)(nD:H1 D=none)(hn:xs.length < sizeLine)(hl:ys.length=xs.length)(hX:∀H,av H1 H→aU K H a xs)(hY:∀H,av H1 H→aU K H b ys)
  (hR:∀i v H H' ys,H D=some (.lst ys)→bT D H H' →Rel i v H→Rel i v H')
  (he:∀i x y H (R:VK),xs[i]? =some x→ys[i]? =some y→av H1 H→(∃ys,H D=some (.lst ys))→(∀v H6,av H H6→Rel i v H6→R v H6)→te (some x::some y::cap) H R)
  (hd:∀zs H,zs.length=xs.length→(∀i v,zs[i]? =some v→Rel i v H)→av H1 H→H D=some (.lst zs)→Q (.ref D) H):
  kJ D (zR K 2 (rV (cZ 0) (rV (cZ 1) Lg))) jb te (Vw K a b) (none::none::cap) H1 Q:=by
 refine ⟨fun i m σ zs H=>m=xs.length - i∧i≤xs.length∧(∃o o',σ=o::o' ::cap)∧(zs.length=i∧(∀i v,zs[i]? =some v→Rel i v H)∧av H1 H)∧H D=some (.lst zs),⟨xs.length,by simp,ae' _,⟨none,none,rfl⟩,⟨rfl,fun i v e=>by simp at e,fun b o e=>by rw [aj (au e nD)];exact e⟩,ak⟩,?_⟩
 rintro i m σ zs H ⟨rfl,hi,⟨o,o',rfl⟩,⟨l,r,s⟩,hD⟩
 by_cases kF:i < xs.length
 ·have e1:xs[i]? =some xs[i]:=gE kF
  have e2:ys[i]? =some (ys[i]'(by omega)):=gE (by omega)
  refine .inr ⟨⟨xs,ys,_,_,hX H s,hY H s,e1,e2⟩,fun v H' y=> ?_⟩
  obtain ⟨p,x,y,q1,q2,rfl,np,rfl⟩:=y
  have e1:=q1 xs (hX H s)
  have e2:=q2 ys (hY H s)
  have sp:av H (upd H p (.tup [x,y])):=fun b o e=>by rw [aj (au e np)];exact e
  refine ⟨p,_,rfl,bL.of ak,rfl,_,_,rfl,_,_,rfl,rfl,?_⟩
  unfold jb
  dsimp only
  rw [if_pos rfl]
  refine he i x y _ _ e1 e2 (fun b o e=>sp _ _ (s _ _ e)) ⟨zs,sp _ _ hD⟩ fun v H6 s6 rv=>⟨s6 _ _ (sp _ _ hD),by omega,xs.length - (i+1),by omega,rfl,by omega,⟨_,_,rfl⟩,⟨by simp [l],fun j u e=> ?_,fun b o e=> ?_⟩,ak⟩
  ·by_cases c:j < zs.length
   ·rw [aeL c] at e
    have ru:=hR j u H H6 zs hD (bT.of fun b o q=>s6 _ _ (sp _ _ q)) (r j u e)
    exact hR j u H6 _ zs (s6 _ _ (sp _ _ hD)) bT.upd ru
   ·rw [aeP (by omega)] at e
    have ej:j=i:=by
     by_cases z:j - zs.length=0
     ·omega
     ·rw [aeE (by simp;omega)] at e
      cases e
    subst ej
    have:v=u:=by
     rw [show j - zs.length=0 by omega] at e
     exact aeY e
    subst this
    exact hR j v H6 _ zs (s6 _ _ (sp _ _ hD)) bT.upd rv
  ·rw [aj (au e nD)]
   exact s6 _ _ (sp _ _ (s _ _ e))
 ·have e:i=xs.length:=by omega
  subst e
  exact .inl ⟨⟨xs,ys,hX H s,hY H s,.inl (aeG _)⟩,hd zs H l r s hD⟩
end
def j_ (K:Frag)(H:Hp)(v:V)(q:Int×Int):Prop:=∃p,v=.ref p∧bL K H p [.int q.1,.int q.2]
theorem j_.same {K:Frag}{H H' :Hp}{v:V}{q:Int×Int}(h:j_ K H v q)(s:av H H'):j_ K H' v q:=by
 obtain ⟨p,e,k⟩:=h
 exact ⟨p,e,Ty.av.cR s k⟩
def cX (K:Frag)(H:Hp)(us:List V)(qs:List (Int×Int)):Prop:=us.length=qs.length∧∀(i:Nat) (u:V) (q:Int×Int),us[i]? =some u→qs[i]? =some q→j_ K H u q
theorem cX.same {K:Frag}{H H' :Hp}{us:List V}{qs:List (Int×Int)}(h:cX K H us qs)(s:av H H'):cX K H' us qs:=⟨h.1,fun i u q e1 e2=>(h.2 i u q e1 e2).same s⟩
theorem cX.at {K:Frag}{H:Hp}{us:List V}{qs:List (Int×Int)}(h:cX K H us qs){i:Nat}{u:V}(e:us[i]? =some u):∃q,qs[i]? =some q∧j_ K H u q:=by
 have hi:i < us.length:=(be.mp e).1
 have hl:=h.1
 have e2:qs[i]? =some (qs[i]'(by omega)):=gE (by omega)
 exact ⟨_,e2,h.2 i u _ e e2⟩
theorem cX.set {K:Frag}{H:Hp}{us:List V}{qs:List (Int×Int)}{j:Nat}{v:V}{q:Int×Int}(h:cX K H us qs)(n:j_ K H v q):cX K H (us.set j v) (qs.set j q):=by
 refine ⟨by simp [h.1],fun i u q' e1 e2=> ?_⟩
 rw [aft] at e1 e2
 by_cases c:j=i
 ·subst c
  rw [if_pos rfl] at e1 e2
  have l:=h.1
  by_cases hj:j < us.length
  ·rw [if_pos hj] at e1
   rw [if_pos (by omega)] at e2
   cases e1
   cases e2
   exact n
  ·rw [if_neg hj] at e1
   cases e1
 ·rw [if_neg c] at e1 e2
  exact h.2 i u q' e1 e2
def WY (K:Frag)(H:Hp)(a:Addr)(qs:List (Int×Int)):Prop:=∃us,aU K H a us∧cX K H us qs
def sumTo:Nat→(Nat→Rat)→Rat
 | 0,_=>0
 | n+1,f=>f 0+sumTo n (fun i=>f (i+1))
theorem oW:∀(n:Nat) (f g:Nat→Rat),sumTo n (fun i=>f i+g i)=sumTo n f+sumTo n g
 | 0,_,_=>by simp [sumTo];grind
 | n+1,f,g=>by
  simp only [sumTo]
  rw [oW n (fun i=>f (i+1)) (fun i=>g (i+1))]
  grind
theorem oX (c:Rat):∀(n:Nat) (f:Nat→Rat),sumTo n (fun i=>c*f i)=c*sumTo n f
 | 0,_=>by simp [sumTo]
 | n+1,f=>by
  simp only [sumTo]
  rw [oX c n (fun i=>f (i+1))]
  grind
theorem gs:∀(n:Nat) (f:Nat→Rat),(∀i,f i=0)→sumTo n f=0
 | 0,_,_=>rfl
 | n+1,f,h=>by
  simp only [sumTo]
  rw [h 0,gs n (fun i=>f (i+1)) (fun i=>h (i+1))]
  grind
theorem mJ:∀(n:Nat) (l:List Int) (z:Nat→Rat),l.length≤n→ev l z=sumTo n (fun j=>((l.getD j 0:Int):Rat)*z j)
 | n,[],z,_=>by
  rw [gs n _ (fun i=>by simp)]
  rfl
 | 0,_::_,_,h=>by simp at h
 | n+1,a::r,z,h=>by
  simp only [ev,sumTo]
  rw [mJ n r (fun i=>z (i+1)) (by simpa using h)]
  simp
theorem wc (n:Nat)(z:Nat→Rat):∀(y:List Rat) (os:List (List Int)),(∀o∈os,o.length≤n)→(∀o∈os,ev o z=0)→sumTo n (fun j=>dG y os j*z j)=0
 | c::y,o::os,h1,h2=>by
  have ih:=wc n z y os (fun x hx=>h1 x (aeF _ hx)) (fun x hx=>h2 x (aeF _ hx))
  have e:=h2 o aeI
  rw [mJ n o z (h1 o aeI)] at e
  have k:(fun j=>dG (c::y) (o::os) j*z j)=fun j=>c*(((o.getD j 0:Int):Rat)*z j)+dG y os j*z j:=by
   funext j
   simp only [dG]
   grind
  rw [k,oW,oX,e,ih]
  grind
 | [],os,_,_=>gs n _ (fun j=>by cases os <;> simp [dG])
 | _::_,[],_,_=>gs n _ (fun j=>by simp [dG])
theorem HR {os:List (List Int)}{l:List Int}{n:Nat}{z:Nat→Rat}(h:jN os l)(hl:l.length≤n)(ho:∀o∈os,o.length≤n)(hz:∀o∈os,ev o z=0):ev l z=0:=by
 obtain ⟨y,_,e⟩:=h
 rw [mJ n l z hl, ← wc n z y os ho hz]
 congr 1
 funext j
 rw [e j]
theorem sY:∀{ts:List Int} {qs xs:List (Int×Int)} {d:Int×Int} {b:Int},j8 ts (qs++[d]) b→xs.length=qs.length→ev ts (j9 (xs.map vl))=(gm qs xs - vl d)*b
 | [],qs,xs,d,b,h,_=>by have:=h.1;simp at this
 | t::ts,[],[],d,b,h,_=>by
  have e:=h.2 0 t d rfl rfl
  have l:=h.1
  have:ts=[]:=by simpa using l
  subst this
  simp [ev,j9,gm]
  rw [e]
  grind
 | t::ts,q::qs,x::xs,d,b,h,hl=>by
  have e:=h.2 0 t q rfl rfl
  have ih:=sY (ts:=ts) (qs:=qs) (xs:=xs) (d:=d) (b:=b) h.tail (by simpa using hl)
  have ez:(fun i=>j9 ((x::xs).map vl) (i+1))=j9 (xs.map vl):=by
   funext i
   simp [j9]
  simp only [ev]
  rw [ez,ih,e]
  have e0:j9 ((x::xs).map vl) 0=vl x:=by simp [j9]
  have ed:gm (q::qs) (x::xs)=vl q*vl x+gm qs xs:=by simp [gm]
  rw [e0,ed]
  grind
 | _::_,[],_::_,_,_,_,hl=>by simp at hl
 | _::_,_::_,[],_,_,_,hl=>by simp at hl
section
variable {X:Cx}
end
section
variable {D:Addr}{te:TE}{cap:L2.St}{H1:Hp}{Q:VK}
end
section
variable {X:Cx}
theorem BL {xs:List V}{us:List Value}(h:Vals xs us):Vals xs.reverse us.reverse:=by
 have hl:=h.length
 refine eY (by simp [hl]) fun i a b e1 e2=> ?_
 have hi:i < xs.length:=by
  have:=(be.mp e1).1
  simpa using this
 rw [af3 hi] at e1
 rw [af3 (by omega), ← hl] at e2
 obtain ⟨b',e3,r⟩:=aE h e1
 rw [e2] at e3
 cases e3
 exact r
def WZ (K:Frag)(te ts:TE):TE:=fun σ H Q=>te σ H fun x H1=>ts σ H1 fun y H2=>y=.int (-1)∧∃l xs,x=.ref l∧aU K H2 l xs∧∀p,H2 p=none→Q (.ref p) (upd H2 p (.lst xs.reverse))
theorem LV {K:Frag}{e st:Expr}{te ts:TE}{p2 pos:Pos}(hK:X.K=K)(he:PE X e te)(hs:PE X st ts):PE X (.Subscript e (.Slice none none (some st) p2) pos) (WZ K te ts):=by
 subst hK
 intro pins s σ H Q I h
 refine Subscript_ (b9 (he pins s σ H _ I h) fun v s1 ⟨x,H1,I1,r1,q1⟩=> ?_)
 refine wpAny_Slice ?_
 rw [evalPart_none]
 refine wpAny_pure (wpAny_pure ?_)
 rw [evalPart_some]
 refine b9 (hs pins s1 σ H1 _ I1 q1) fun vk s3 ⟨y,H3,I3,ry,q3⟩=> ?_
 obtain ⟨rfl,l,xs,rfl,hx,q⟩:=q3
 obtain ⟨t,rfl⟩:=ry
 cases r1
 have I4:Inv X pins σ H3 {s3 with heap:=s3.heap.push {cls:=.type "slice",data:=.fields #[.none,.none,.int (-1) t]}}:=I3.kept (t' :=s3.toks) fun b ob q=>Heap.get?_push_of_some _ q
 obtain ⟨its,r,ht,hz⟩:=I4.list hx
 have hlen:=r.length
 show wpAny (model X.prog X.w) X.A (subscriptTail e (.Slice none none (some st) p2) (.ref l) (.ref s3.heap.objs.size)) (EP X pins σ Q) X.xe {s3 with heap:=s3.heap.push {cls:=.type "slice",data:=.fields #[.none,.none,.int (-1) t]}}
 refine tail_any (ops:=[.ref l,.ref s3.heap.objs.size]) ht.isList.typeIs slot_list_getitem.lookup ?_ (by with_unfolding_all rfl)
 refine wpAny_getItem_list_slice ht.isList (Heap.IsSliceOf.new ..) .none .none (.int (-1) t) (by decide) ?_ (by rw [aeU] <;> omega)
 rw [PySem.W.krv_pick]
 refine ⟨.ref _,_,I4.laid (t' :=s3.toks) (o:=.lst xs.reverse) (fun b ob q=>Heap.get?_push_of_some _ q) (aeG _) ?_,rfl,q _ (I4.bI.fresh (aeG _))⟩
 exact ⟨by rw [afv];exact hz,its.reverse,0,BL r,Heap.get?_push_size _ rfl⟩
inductive Ku (xs:List V)(H:Hp)(Q:VK):Prop where
 | mk (p:Addr) (kvs:List (Key×V)) (_:xs=[.ref p]) (_:Rd H p (.dK kvs)) (_:Q (.int (kvs.length:Int)) H):Ku xs H Q
theorem oY:eg X (.builtin "len") Ku:=by
 intro pins s σ H xs us Q I r h
 obtain ⟨p,kvs,rfl,hq,q⟩:=h
 obtain ⟨u,rfl,r1⟩:=vals1 r
 cases r1
 exact OR I hq fun t s' I' =>⟨.int _,H,I',⟨t,rfl⟩,q⟩
end
section
variable {D:Addr}{te:TE}{cap:L2.St}{H1:Hp}{Q:VK}
end
section
variable {X:Cx}
theorem Inv.O5 {pins:List (Addr×Obj)}{σ:L2.St}{H:Hp}{s:Shared}{d:Addr}{u:HO}{o:Obj}(I:Inv X pins σ H s)(e:H d=some (.fU o u))(n:∀o' u',X.H₀ d≠some (.fU o' u'))(nt:∀xs,u≠.tup xs):Inv X pins σ (upd H d u) s:=by
 have nx:∀b u',H b=some u' →b≠d→upd H d u b=some u' :=fun b u q n=>by rw [aj n];exact q
 have nn:∀b,H b=none→upd H d u b=none:=fun b q=>by rw [aj (fun z=>by rw [z,e] at q;cases q)];exact q
 refine ⟨I.ok,I.os,I.bare,⟨I.base.keep,I.base.slot,fun b ob q z hx=>nn b (I.base.free b ob q z hx),I.base.there,fun b xs q=> ?_,fun b ob u' q=> ?_,fun b ps q=> ?_⟩,I.loc,I.cell,nn _ I.free,fun x c q=>nn _ (I.gD x c q),fun p hp=> ?_,?_,I.len⟩
 ·have z:=I.base.n_ b xs q
  exact nx b _ z fun y=>by rw [y,e] at z;cases z
 ·have z:=I.base.lK b ob u' q
  exact nx b _ z fun y=>by rw [y] at q;exact n _ _ q
 ·obtain ⟨m,z⟩:=I.base.oa b ps q
  exact ⟨m,nx b _ z fun y=>by rw [y,e] at z;cases z⟩
 ·obtain ⟨a1,a2,a3⟩:=I.pin p hp
  exact ⟨a1,nn _ a2,a3⟩
 ·have st:∀{b u'},cB X.prog X.w H s.heap b u' →cB X.prog X.w (upd H d u) s.heap b u' :=fun {b u'} k=>k.nZ (fun _ _ _ z=>z) (fun c z=>nx c _ z fun y=>by rw [y,e] at z;cases z) fun c xs z=>nx c _ z fun y=>by rw [y,e] at z;cases z
  intro b u' q
  by_cases hb:b=d
  ·subst hb
   rw [ak] at q
   cases q
   exact st (I.bI b _ e).2
  ·rw [aj hb] at q
   exact st (I.bI b u' q)
def O6 (H0:Hp)(t:TS):TS:=fun D σ H=>t {D with nx:=fun σ' H' =>∃d o kvs,H' d=some (.fU o (.dK kvs))∧(∀o' u',H0 d≠some (.fU o' u'))∧D.nx σ' (upd H' d (.dK kvs))} σ H
theorem qz {st:Stmt}{t:TS}(h:PS X st t):PS X st (O6 X.H₀ t):=by
 intro pins s σ H D I q
 refine wpAny_mono (h pins s σ H _ I q) (fun f s' z=> ?_) fun _ _ z=>z
 cases f with
 | next=>
  obtain ⟨σ',H',I',d,o,kvs,e,n,k⟩:=z
  exact ⟨σ',_,Inv.O5 I' e n (fun _ z=>nomatch z),k⟩
 | brk=>exact z
 | cont=>exact z
 | ret u=>exact z
def O7 (d:Addr)(o:Obj)(kvs:List (Key×V)):It:=
 ⟨fun i H=>H d=some (.fU o (.dK kvs))∧i < kvs.length,
  fun i H v H' =>H' =H∧∃k x,kvs[i]? =some (k,x)∧v=kV k,
  fun i H=>H d=some (.fU o (.dK kvs))∧kvs.length≤i⟩
theorem xT {P:Program}{w:World}{K:Frag}{tg:Expr}(d it:Addr)(o:Obj)(kvs:List (Key×V)){NC:Array DictEntry}{ep:Nat}(he:o.data=.dict NC ep):
  Turn P w K tg (O7 d o kvs) [it] it (fun i h=>h.IsKeyIter it d i kvs.length ep) where
 mem:=by simp
 obj:=fun i h st b hb=>by
  have e:b=it:=by simpa using hb
  subst e
  obtain ⟨o,e,c,d⟩:=st
  exact ⟨o,e,fun v z=>by rw [d] at z;cases z⟩
 keep:=fun i h h' st k=>st.at fun o e=>k it (by simp) o e
 item:=by
  intro X hP hw hK hc i pins s σ H E I hf st hg
  subst hP hw hK
  obtain ⟨fz,hi⟩:=hg
  obtain ⟨hd,vs,rel,da,_⟩:=qu I.bI fz he
  have ek:kvs[i]? =some kvs[i]:=gE hi
  obtain ⟨⟨k',u⟩,ev,e1,ru⟩:=aE rel ek
  have lv:=rel.length
  rw [lv] at st
  obtain ⟨f0,f1,f2,f3,f4,f5⟩:=hf it (by simp)
  refine wpAny_pyNext_dict_item st da ev fun key h' AE uu sb=> ?_
  have I1:Inv X pins σ H {s with heap:=h' }:=I.turned (t' :=s.toks) (fun b o hb e=>(sb.2 b hb).trans e) f0 f1 f3 f4 f5
  rw [← lv] at uu
  obtain ⟨o',e',c',d'⟩:=id uu
  have xE :kvs[i].1=k' :=e1
  exact ⟨key,rfl,vO (s:={s with heap:=h' }) e' c' d' (by decide) ⟨kV kvs[i].1,H,I1,by rw [xE];exact k_ AE,⟨rfl,kvs[i].1,kvs[i].2,ek,rfl⟩,uu,fun b hb=>(hf b hb).1⟩⟩
 done:=by
  intro X hP hw hK hc i pins s σ H E I hf st hg
  subst hP hw hK
  obtain ⟨fz,hi⟩:=hg
  obtain ⟨hd,vs,rel,da,_⟩:=qu I.bI fz he
  have lv:=rel.length
  rw [lv] at st
  obtain ⟨f0,f1,f2,f3,f4,f5⟩:=hf it (by simp)
  exact wpAny_pyNext_dict_end (I.ok.hd hc) st da (aeE (by omega)) fun h' eb=>⟨rfl,I.turned (t' :=s.toks) (fun b o hb e=>eb b o hb e) f0 f1 f3 f4 f5⟩
 self:=fun _ _ _ _ _ st h=>wpAny_pyIter_keyiter st h
inductive BM (R:(It→Hp→Prop))(x:V)(H1:Hp):Prop where
 | mk (d kvs:_) (_:x=.ref d) (_:H1 d=some (.dK kvs)) (_:∀o,R (O7 d o kvs) (upd H1 d (.fU o (.dK kvs)))):BM R x H1
def O8 (te:TE):TI:=fun σ H R=>te σ H fun x H1=>BM R x H1
theorem HS {e:Expr}{te:TE}{tg:Expr}(ho:PE X e te):PI X tg e (O8 te):=by
 intro pins s σ H R I h
 refine b9 (ho pins s σ H _ I h) fun v s1 ⟨x,H1,I1,r1,q1⟩=> ?_
 obtain ⟨d,kvs,rfl,e,q⟩:=q1
 cases r1
 obtain ⟨z,hd,vs,rel,o,OY,ep,Ks,hx,ig,hk,hp,hn⟩:=jd I1.bI e
 have da:s1.heap.DictAt (bx X.prog X.w) d vs ep:=⟨o,OY,Ks,hx,ig,hk,hp,hn⟩
 have lv:=rel.length
 have I2:=Inv.freeze I1 e Ks
 refine wpAny_pyIter_dict hd da ?_
 have I3:Inv X pins σ (upd H1 d (.fU o (.dK kvs))) {s1 with heap:=s1.heap.push {cls:=.type "dict_keyiterator",data:=.fields #[.ref d,.int 0 0,.int vs.length 0,.int ep 0]}}:=I2.kept (t' :=s1.toks) fun b o e=>Heap.get?_push_of_some _ e
 refine ⟨s1.heap.objs.size,[s1.heap.objs.size],_,_,_,rfl,I3,xT d _ o kvs ig,(show Heap.IsKeyIter _ _ d 0 kvs.length ep from ⟨_,Heap.get?_push_size _ rfl,rfl,by rw [lv];rfl⟩),fun b hb=> ?_,q o⟩
 have eb:b=s1.heap.objs.size:=by simpa using hb
 have le:s1.heap.objs.size≤b:=by rw [eb];exact aeG _
 exact I2.jF le (I2.bI.fresh le)
theorem BN {d:Addr}{o:Obj}{kvs:List (Key×V)}{g:TG}{tb:TS}{D:Ends}{σ:L2.St}{H:Hp}(Pv:Nat→L2.St→Hp→Prop)(h0:Pv 0 σ H)(hl:∀i σ H,i≤kvs.length→Pv i σ H→H d=some (.fU o (.dK kvs)))
  (hs:∀i k x σ H,kvs[i]? =some (k,x)→Pv i σ H→g (kV k) σ H fun σ2 H2=>tb {D with nx:=Pv (i+1),ct:=Pv (i+1),bk:=D.nx} σ2 H2) (hd:∀σ H,Pv kvs.length σ H→D.nx σ H):
  ∃W:Nat→Nat→L2.St→Hp→Prop,(∃m,W 0 m σ H)∧∀i m σ H,W i m σ H→
   ((O7 d o kvs).stop i H∧D.nx σ H)∨((O7 d o kvs).go i H∧∃N:L2.St→Hp→Prop,(∀σ' H',N σ' H' →∃m',m' < m∧W (i+1) m' σ' H')∧∀x H',(O7 d o kvs).zB i H x H' →g x σ H' fun σ2 H2=>tb {D with nx:=N,ct:=N,bk:=D.nx} σ2 H2):=by
 refine ⟨fun i m σ H=>m=kvs.length - i∧i≤kvs.length∧Pv i σ H,⟨kvs.length,by simp,ae' _,h0⟩,?_⟩
 rintro i m σ H ⟨rfl,hi,p⟩
 have q:=hl i σ H hi p
 by_cases kF:i < kvs.length
 ·refine .inr ⟨⟨q,kF⟩,Pv (i+1),fun σ' H' z=>⟨kvs.length - (i+1),by omega,rfl,by omega,z⟩,fun x H' y=> ?_⟩
  obtain ⟨rfl,k,x',ek,rfl⟩:=y
  exact hs i k x' σ _ ek p
 ·have e:i=kvs.length:=by omega
  subst e
  exact .inl ⟨⟨q,aeG _⟩,hd σ H p⟩
inductive BO (xs:List V)(H:Hp)(Q:VK):Prop where
 | mk (p:Addr) (kvs:List (Key×V)) (_:xs=[.ref p]) (_:Rd H p (.dK kvs)) (_:∀l,H l=none→Q (.ref l) (upd H l (.dK kvs))):BO xs H Q
theorem uZ:eg X (.type "dict") BO:=by
 intro pins s σ H vs us Q I r h
 obtain ⟨p,kvs,rfl,e,q⟩:=h
 obtain ⟨u,rfl⟩:∃u,us=[u]:=by cases r with | cons h t=>cases t;exact ⟨_,rfl⟩
 cases r with
 | cons h _=>
 cases h
 obtain ⟨z,hd,vs,rel,dd⟩:=iw I.bI e
 have hn:=I.bI.fresh (aeG s.heap.objs.size)
 refine kt_call_dict hd dd (by rw [← rel.length];exact z) fun h' zD sb=> ?_
 have kk:∀b o,s.heap.get? b=some o→h'.get? b=some o:=fun b o eb=>(sb.2 b (fun z=>absurd (Heap.lt_size eb) (by rw [z];exact afj _))).trans (Heap.get?_push_of_some _ eb)
 have I2:Inv X pins σ (upd H s.heap.objs.size (.dK kvs)) {s with heap:=h',toks:=s.toks}:=I.laid (t' :=s.toks) kk (aeG _) (jL z (beq_eq_false_iff_ne.mpr (ae8 (ae4 I.big))) rel zD)
 exact ⟨.ref _,_,I2,rfl,q _ hn⟩
end
section
variable {prog:Program}{w:World}{KK:Type}[DecidableEq KK]{knd:KeyKind prog w KK}{A:Around}{E:Value→Shared→Prop}{s:Shared}
open MeetsSeq MeetsSeq2 MeetsSeq3 SeqRoads2 in
open MeetsSeq MeetsSeq2 MeetsSeq3 SeqRoads2 in
end
section
variable {X:Cx}
end
structure LW (K:Frag)(x qual:Str)(st:Stmt)(f:Addr)(fd:FuncData):Prop where
 ex:∃(dV oc:Value) (od:Option Addr) (kV doc pm:Value) (an:Option Addr) (bF ct:Value) (nR:Array (Option Value)),
  fd=fnOf x qual (aD st) (ay st) (ag st) dV kV doc pm an bF ct∧K.lookup f=some ⟨oc,od,.func fd,nR⟩∧codeIn K bF qual=true
 kp:keepIn K (.ref f)=true
section
variable {P:Program}{w:World}{K:Frag}{mg:Str→Option Value}{base:Heap}{CX:jD}
theorem HU {x qual:Str}{st:Stmt}{f:Addr}{dV oc:Value}{od an:Option Addr}{nR:Array (Option Value)}{kV doc pm bF ct:Value}(l:K.lookup f=some ⟨oc,od,.func (fnOf x qual (aD st) (ay st) (ag st) dV kV doc pm an bF ct),nR⟩)
  (c:codeIn K bF qual=true) (k:keepIn K (.ref f)=true):LW K x qual st f (fnOf x qual (aD st) (ay st) (ag st) dV kV doc pm an bF ct):=⟨⟨dV,oc,od,kV,doc,pm,an,bF,ct,nR,rfl,l,c⟩,k⟩
theorem dq {name qual:Str}{st:Stmt}{f:Addr}{fd:FuncData}{N ps:List Str}{k:Nat}{sp:Sp}(F:nV K name qual st f fd)(S:aG N ps (ag st))(len:∀vs H Q E,sp vs H Q E→vs.length=ps.length)
  (i0:∀(bF:Value) (A:Around) (outer:List Env) (s:Shared) (H:Hp) (vs:List V) (Q:VK) (E:XK),cy k (A.deeper (envOfC qual (ag st) s.heap.objs.size f bF))→sp vs H Q E→
   ∃t,PSs (cxr P w K mg base N qual (ag st) f bF A outer s H E).vM (ay st) t∧t {nx:=fun _ H' =>Q .cE H',rt:=Q} (start N vs) H):cM P w K mg base (a9 P w) (k+1) f fd ps sp:=by
 obtain ⟨oc,od,kV,doc,pm,an,bF,ct,nR,rfl,lk,og⟩:=F.ex
 exact vT lk og S len fun A outer s H vs Q E hr uv=>by
  obtain ⟨t,h,q⟩:=i0 bF A outer s H vs Q E hr uv
  exact ⟨t,h.vM,q⟩
theorem BP {name qual:Str}{st:Stmt}{f:Addr}{fd:FuncData}{N ps:List Str}{k:Nat}{sp:Sp}(F:LW K name qual st f fd)(S:aG N ps (ag st))(len:∀vs H Q E,sp vs H Q E→vs.length=ps.length)
  (i0:∀(bF:Value) (A:Around) (outer:List Env) (s:Shared) (H:Hp) (vs:List V) (Q:VK) (E:XK),cy k (A.deeper (envOfC qual (ag st) s.heap.objs.size f bF))→sp vs H Q E→
   ∃t,PSs (cxr P w K mg base N qual (ag st) f bF A outer s H E).vM (ay st) t∧t {nx:=fun _ H' =>Q .cE H',rt:=Q} (start N vs) H):cM P w K mg base (a9 P w) (k+1) f fd ps sp:=by
 obtain ⟨dV,oc,od,kV,doc,pm,an,bF,ct,nR,rfl,lk,og⟩:=F.ex
 exact vT lk og S len fun A outer s H vs Q E hr uv=>by
  obtain ⟨t,h,q⟩:=i0 bF A outer s H vs Q E hr uv
  exact ⟨t,h.vM,q⟩
end
structure u3 (P:Program)(w:World)(K:Frag)(mg:Str→Option Value)(base:Heap)(CX:jD)(k:Nat)(C:Addr)(m:Str)(ps:List Str)(ds:List Value)(sp:Sp):Prop where
 ex:∃(f:Addr) (fd:FuncData),rY K C∧Meth K C m f∧cM P w K mg base CX k f fd ps sp∧Binds K fd ps ds
section
variable {X:Cx}{CX:jD}{k:Nat}{E:XK}{m:Str}{pos apos:Pos}{e o:Expr}{es:List Expr}{ta:TE}{t:TA}
inductive BQ (P:Program)(w:World)(K:Frag)(mg:Str→Option Value)(base:Heap)(CX:jD)(k:Nat)(m:Str)(E:XK)(t:TA)(σ:L2.St)(Q:VK)(x:V)(H1:Hp):Prop where
 | mk (a C dx fs ps sp:_) (_:x=.ref a) (_:H1 a=some (.ins C dx fs)) (_:fs.lookup m=none) (_:u3 P w K mg base CX k C m ps [.none] sp) (_:t σ H1 fun vs H2=>sp (x::vs++[.cE]) H2 Q E):BQ P w K mg base CX k m E t σ Q x H1
def O9 (P:Program)(w:World)(K:Frag)(mg:Str→Option Value)(base:Heap)(CX:jD)(k:Nat)(m:Str)(E:XK)(ta:TE)(t:TA):TE:=fun σ H Q=>ta σ H fun x H1=>BQ P w K mg base CX k m E t σ Q x H1
theorem HV {pl:Sem Bool}(he:PE X o ta)(hr:cy k X.A)(hx:Passes CX X E)(ha:PA X (e::es) t)
  (F':starEach (e::es) X.env=(false,eval e X.env)::starEach es X.env:=by rfl) (vS:(backTo pos (starEach es X.env)).any (·.1)=false:=by rfl)
  (ht:eval (.Call (.Attribute o m apos) (e::es) [] pos) X.env=(do
   let ov ← eval o X.env
   standAt apos.atName
   let (f,first) ← holding [ov] (getMethod ov m pl)
   callWith pos f first (backTo pos (starEach (e::es) X.env)) (backToKw pos (keywordEach [] X.env))):=by rfl):
  PE X (.Call (.Attribute o m apos) (e::es) [] pos) (O9 X.prog X.w X.K X.mg X.base CX k m E ta t):=by
 intro pins s σ H Q I h
 refine PySem.W.methodCall_KW (pl:=pl) (b9 (he pins s σ H _ I h) fun u s1 ⟨x,H1,I1,rx,a,C,dx,fs,ps,sp,ex,ea,l,M,q⟩=> ?_) ht
 subst ex
 obtain rfl:u=Value.ref a:=rx
 obtain ⟨f,fd,c,hm,F,hb⟩:=M.ex
 refine iD I1 ea c hm l ?_
 refine PySem.W.callWith_K (first:=[.ref a]) (h₀:=X.base) I.ok.mod.Nt hm.kp (b9 (ha pos pins s1 σ H1 _ I1 q) fun us s2 ⟨vs,H2,I2,r,q2⟩=>⟨I2.iB,?_⟩) F' vS
 exact pZ (us:=.ref a::us) (vs:=.ref a::vs) (dvs:=[.cE]) F hr hb (.cons rfl .nil) hx I2 (.cons rfl r) q2
end
theorem mK {κ:Type}[DecidableEq κ]{k:κ}{v:V}:∀{kvs:List (κ×V)},bS kvs k=some v→(k,v)∈kvs
 | p::r,h=>by
  by_cases e:p.1=k
  ·rw [bK e] at h
   cases h
   subst e
   exact aeI ..
  ·rw [bB e] at h
   exact aeF _ (mK h)
theorem bY {κ:Type}[DecidableEq κ]{k:κ}:∀{kvs:List (κ×V)},k∉kvs.map (·.1)→bS kvs k=none
 | [],_=>rfl
 | p::r,h=>by
  rw [ac_,ae1,not_or] at h
  rw [bB (fun e=>h.1 e.symm)]
  exact bY h.2
theorem hV {κ:Type}[DecidableEq κ]{k:κ}:∀{kvs:List (κ×V)},k∈kvs.map (·.1)→∃v,bS kvs k=some v
 | p::r,h=>by
  by_cases e:p.1=k
  ·exact ⟨_,bK e⟩
  ·rw [bB e]
   rw [ac_,ae1] at h
   rcases h with h | h
   ·exact absurd h.symm e
   ·exact hV h
theorem xU {κ:Type}[DecidableEq κ]{kvs:List (κ×V)}{k:κ}{v:V}(P:κ→Prop)(h:∀kv∈kvs,P kv.1)(hk:P k):∀kv∈putK kvs k v,P kv.1:=by
 unfold putK
 split
 ·intro kv m
  obtain ⟨a,ha,e⟩:=abt.mp m
  have:=h a ha
  by_cases z:a.1=k
  ·rw [if_pos z] at e;rw [← e];exact this
  ·rw [if_neg z] at e;rw [← e];exact this
 ·intro kv m
  rcases aeM.mp m with m | m
  ·exact h kv m
  ·rw [aeH] at m
   rw [m]
   exact hk
structure BR (K:Frag)(C:Addr):Prop where
 cls:rY K C
 pl:fg K C "pin_places"
 wy:fg K C "pin_ways"
 br:fg K C "bar_ends"
abbrev frF (pP pW pB:Addr):List (Str×V):=[("pin_places",.ref pP),("pin_ways",.ref pW),("bar_ends",.ref pB)]
abbrev Pt:=(Int×Int)×(Int×Int)
abbrev c6 (p:Pt):List Da:=[.t [.v (.int p.1.1),.v (.int p.1.2)],.t [.v (.int p.2.1),.v (.int p.2.2)]]
def bE (H H' :Hp):Prop:=∀b xs,Rd H b (.tup xs)→Rd H' b (.tup xs)
theorem bE.of {H H' :Hp}(s:av H H'):bE H H' :=fun b xs e=>by
 rcases e with e | ⟨o,e⟩
 ·exact .inl (s _ _ e)
 ·exact .inr ⟨o,s _ _ e⟩
theorem bE.trans {H H1 H2:Hp}(a:bE H H1)(b:bE H1 H2):bE H H2:=fun c xs e=>b c xs (a c xs e)
theorem bE.dict {H:Hp}{d:Addr}{kvs:List (Key×V)}{o:HO}(e:H d=some (.dK kvs)):bE H (upd H d o):=fun b xs r=>by
 rcases r with r | ⟨o,r⟩
 ·exact .inl (by rw [aj (fun z=>by rw [z,e] at r;cases r)];exact r)
 ·exact .inr ⟨o,by rw [aj (fun z=>by rw [z,e] at r;cases r)];exact r⟩
theorem bE.list {H:Hp}{d:Addr}{xs:List V}{o:HO}(e:H d=some (.lst xs)):bE H (upd H d o):=fun b xs r=>by
 rcases r with r | ⟨o,r⟩
 ·exact .inl (by rw [aj (fun z=>by rw [z,e] at r;cases r)];exact r)
 ·exact .inr ⟨o,by rw [aj (fun z=>by rw [z,e] at r;cases r)];exact r⟩
theorem bE.cR {K:Frag}{H H' :Hp}(s:bE H H'){p:Addr}{xs:List V}(q:bL K H p xs):bL K H' p xs:=by
 rcases q with q | q
 ·exact .inl (s _ _ q)
 ·exact .inr q
theorem j_.a8 {K:Frag}{H H' :Hp}{v:V}{q:Int×Int}(h:j_ K H v q)(s:bE H H'):j_ K H' v q:=by
 obtain ⟨p,e,k⟩:=h
 exact ⟨p,e,s.cR k⟩
def Spot (K:Frag)(H:Hp)(v:V)(p:Pt):Prop:=∃a u1 u2,v=.ref a∧bL K H a [u1,u2]∧j_ K H u1 p.1∧j_ K H u2 p.2
theorem Spot.a8 {K:Frag}{H H' :Hp}{v:V}{p:Pt}(h:Spot K H v p)(s:bE H H'):Spot K H' v p:=by
 obtain ⟨a,u1,u2,e,h1,h2,h3⟩:=h
 exact ⟨a,u1,u2,e,s.cR h1,h2.a8 s,h3.a8 s⟩
theorem lh {K:Frag}{H:Hp}{v:V}{q:Int×Int}(h:j_ K H v q):Is K H (.t [.v (.int q.1),.v (.int q.2)]) v:=by
 obtain ⟨p,rfl,e⟩:=h
 unfold Is
 refine ⟨p,_,rfl,e,?_⟩
 unfold fh
 refine ⟨by unfold Is;exact ⟨rfl,rfl⟩,?_⟩
 unfold fh
 refine ⟨by unfold Is;exact ⟨rfl,rfl⟩,?_⟩
 unfold fh
 trivial
theorem Spot.is {K:Frag}{H:Hp}{v:V}{p:Pt}(h:Spot K H v p):Is K H (.t (c6 p)) v:=by
 obtain ⟨a,u1,u2,rfl,h1,h2,h3⟩:=h
 unfold Is
 refine ⟨a,_,rfl,h1,?_⟩
 unfold fh
 refine ⟨lh h2,?_⟩
 unfold fh
 refine ⟨lh h3,?_⟩
 unfold fh
 trivial
theorem sZ (p q:Pt):cO (c6 p) (c6 q)=decide (p=q):=by
 have e:cO (c6 p) (c6 q)=((p.1.1==q.1.1 && (p.1.2==q.1.2 && true)) && ((p.2.1==q.2.1 && (p.2.2==q.2.2 && true)) && true)):=by
  simp only [c6,cO,fX,i5]
 rw [e]
 obtain ⟨⟨a,b⟩,c,d⟩:=p
 obtain ⟨⟨a',b'⟩,c',d'⟩:=q
 by_cases h:a=a' <;> by_cases h1:b=b' <;> by_cases h2:c=c' <;> by_cases h3:d=d' <;> simp [h,h1,h2,h3,Prod.mk.injEq]
theorem kc (p q:Pt):cT (c6 p) (c6 q)=true:=by simp [c6,cT,alike]
theorem jP (p:Pt):fj (c6 p)≤60:=by simp [c6,fj,dep]
structure fE (K:Frag)(H:Hp)(C a dx pP pW pB:Addr)(ps:List (Str×Pt))(bs:List (Str×Str×Str))(kP kW kB:List (Key×V)):Prop where
 obj:H a=some (.ins C dx (frF pP pW pB))
 pl:H pP=some (.dK kP)
 wy:H pW=some (.dK kW)
 br:H pB=some (.dK kB)
 ne1:pP≠pW
 ne2:pP≠pB
 ne3:pW≠pB
 rp:Paired (fun (p:Str×Pt) (kv:Key×V)=>kv.1=.inr p.1∧Spot K H kv.2 p.2) ps kP
 rb:Paired (fun (b:Str×Str×Str) (kv:Key×V)=>kv.1=.inr b.1∧∃p,kv.2=.ref p∧Rd H p (.tup [.str b.2.1,.str b.2.2])) bs kB
section
variable {K:Frag}{H H' :Hp}{C a dx pP pW pB:Addr}{ps:List (Str×Pt)}{bs:List (Str×Str×Str)}{kP kW kB:List (Key×V)}
theorem fJ {α:Type}{R:(Str×α)→(Key×V)→Prop}:∀{l:List (Str×α)} {kvs:List (Key×V)},Paired (fun b kv=>kv.1=.inr b.1∧R b kv) l kvs→kvs.map (·.1)=l.map (fun b=>(afb b.1:Key))
 | _,_,.nil=>rfl
 | _,_,.cons h t=>by rw [ac_,ac_,h.1,fJ t]
theorem fK {l:List Str}{x:Str}:(afb x:Key)∈l.map (fun b=>(afb b:Key)) ↔ x∈l:=by
 constructor
 ·intro h
  obtain ⟨y,hy,e⟩:=abt.mp h
  exact afq e▸hy
 ·exact fun h=>abt.mpr ⟨x,h,rfl⟩
theorem fE.BS (R:fE K H C a dx pP pW pB ps bs kP kW kB)(s:bE H H')(h1:H' a=H a)(h2:H' pP=H pP)(h3:H' pW=H pW)(h4:H' pB=H pB):fE K H' C a dx pP pW pB ps bs kP kW kB:=
 ⟨h1.trans R.obj,h2.trans R.pl,h3.trans R.wy,h4.trans R.br,R.ne1,R.ne2,R.ne3,Paired.bZ R.rp fun _ _ h=>⟨h.1,h.2.a8 s⟩,Paired.bZ R.rb fun _ _ h=>⟨h.1,by obtain ⟨p,e,k⟩:=h.2;exact ⟨p,e,s _ _ k⟩⟩⟩
theorem fE.same (R:fE K H C a dx pP pW pB ps bs kP kW kB)(s:av H H'):fE K H' C a dx pP pW pB ps bs kP kW kB:=
 R.BS (.of s) ((s _ _ R.obj).trans R.obj.symm) ((s _ _ R.pl).trans R.pl.symm) ((s _ _ R.wy).trans R.wy.symm) ((s _ _ R.br).trans R.br.symm)
theorem fE.kd (R:fE K H C a dx pP pW pB ps bs kP kW kB):kB.map (·.1)=(bs.map (·.1)).map (fun b=>(afb b:Key)):=by
 rw [fJ R.rb,aeS]
 rfl
theorem fE.wd (R:fE K H C a dx pP pW pB ps bs kP kW kB):kP.map (·.1)=(ps.map (·.1)).map (fun b=>(afb b:Key)):=by
 rw [fJ R.rp,aeS]
 rfl
theorem fE.bar (R:fE K H C a dx pP pW pB ps bs kP kW kB)(x:Str):(bS kB (.inr x)).isSome=decide (x∈bs.map (·.1)):=by
 by_cases h:x∈bs.map (·.1)
 ·obtain ⟨v,e⟩:=hV (kvs:=kB) (k:=.inr x) (by rw [R.kd];exact fK.mpr h)
  rw [e,decide_eq_true h]
  rfl
 ·rw [bY (by rw [R.kd];exact fun z=>h (fK.mp z)),decide_eq_false h]
  rfl
theorem fE.pin (R:fE K H C a dx pP pW pB ps bs kP kW kB)(x:Str):(bS kP (.inr x)).isSome=decide (x∈ps.map (·.1)):=by
 by_cases h:x∈ps.map (·.1)
 ·obtain ⟨v,e⟩:=hV (kvs:=kP) (k:=.inr x) (by rw [R.wd];exact fK.mpr h)
  rw [e,decide_eq_true h]
  rfl
 ·rw [bY (by rw [R.wd];exact fun z=>h (fK.mp z)),decide_eq_false h]
  rfl
theorem fE.ab (R:fE K H C a dx pP pW pB ps bs kP kW kB):a≠pP∧a≠pW∧a≠pB:=
 ⟨fun z=>(by have h:=R.obj;rw [z,R.pl] at h;cases h),fun z=>(by have h:=R.obj;rw [z,R.wy] at h;cases h),fun z=>(by have h:=R.obj;rw [z,R.br] at h;cases h)⟩
theorem fE.LX (R:fE K H C a dx pP pW pB ps bs kP kW kB){x one other:Str}{t:Addr}(ht:Rd H t (.tup [.str one,.str other])):
  fE K (upd H pB (.dK (kB++[(.inr x,.ref t)]))) C a dx pP pW pB ps (bs++[(x,one,other)]) kP kW (kB++[(.inr x,.ref t)]):=by
 have s:bE H (upd H pB (.dK (kB++[(.inr x,.ref t)]))):=.dict R.br
 exact ⟨by rw [aj R.ab.2.2];exact R.obj,by rw [aj R.ne2];exact R.pl,by rw [aj R.ne3];exact R.wy,ak,R.ne1,R.ne2,R.ne3,Paired.bZ R.rp fun _ _ h=>⟨h.1,h.2.a8 s⟩,
  Paired.snoc (Paired.bZ R.rb fun _ _ h=>⟨h.1,by obtain ⟨p,e,k⟩:=h.2;exact ⟨p,e,s _ _ k⟩⟩) ⟨rfl,t,rfl,s _ _ ht⟩⟩
theorem cu {α β:Type}{R:α→β→Prop}:∀{l:List α} {m:List β},Paired R l m→Paired (fun b a=>R a b) m l
 | _,_,.nil=>.nil
 | _,_,.cons h t=>.cons h (cu t)
theorem fE.LY (R:fE K H C a dx pP pW pB ps bs kP kW kB){x:Str}{p:Pt}{t:Addr}(ht:Spot K H (.ref t) p):
  fE K (upd H pP (.dK (kP++[(.inr x,.ref t)]))) C a dx pP pW pB (ps++[(x,p)]) bs (kP++[(.inr x,.ref t)]) kW kB:=by
 have s:bE H (upd H pP (.dK (kP++[(.inr x,.ref t)]))):=.dict R.pl
 exact ⟨by rw [aj R.ab.1];exact R.obj,ak,by rw [aj (ae8 R.ne1)];exact R.wy,by rw [aj (ae8 R.ne2)];exact R.br,R.ne1,R.ne2,R.ne3,
  Paired.snoc (Paired.bZ R.rp fun _ _ h=>⟨h.1,h.2.a8 s⟩) ⟨rfl,ht.a8 s⟩,Paired.bZ R.rb fun _ _ h=>⟨h.1,by obtain ⟨p,e,k⟩:=h.2;exact ⟨p,e,s _ _ k⟩⟩⟩
theorem fE.we (R:fE K H C a dx pP pW pB ps bs kP kW kB)(s_ :List (Key×V)):fE K (upd H pW (.dK s_)) C a dx pP pW pB ps bs kP s_ kB:=by
 have s:bE H (upd H pW (.dK s_)):=.dict R.wy
 exact ⟨by rw [aj R.ab.2.1];exact R.obj,by rw [aj R.ne1];exact R.pl,ak,by rw [aj (ae8 R.ne3)];exact R.br,R.ne1,R.ne2,R.ne3,
  Paired.bZ R.rp fun _ _ h=>⟨h.1,h.2.a8 s⟩,Paired.bZ R.rb fun _ _ h=>⟨h.1,by obtain ⟨p,e,k⟩:=h.2;exact ⟨p,e,s _ _ k⟩⟩⟩
theorem xV (xs:List Str):(xs.map V.str).all gO=true:=by
 rw [apb,List.all_eq_true]
 exact fun _ _=>rfl
theorem tf {x:Str}:∀(xs:List Str),Lw (.str x) (xs.map V.str)=decide (x∈xs)
 | []=>rfl
 | y::ys=>by
  have ih:=tf (x:=x) ys
  unfold Lw at ih ⊢
  rw [ac_,af_,ih]
  by_cases e:y=x
  ·subst e
   simp [i5]
  ·have e' :¬ x=y:=fun z=>e z.symm
   simp [i5,e,e']
end
open Builtin.Int (intBits)
def qr (r:Rat):Int×Int:=(r.num,(r.den:Int))
theorem cz (r:Rat):0 < (qr r).2:=by
 have:=r.den_pos
 show (0:Int) < (r.den:Int)
 omega
theorem jQ (r:Rat):afi (qr r).1 (qr r).2=1:=by
 have:=r.reduced
 show afi r.num (r.den:Int)=1
 unfold afi
 simpa [Nat.Coprime] using this
theorem eA (r:Rat):vl (qr r)=r:=by
 show (r.num:Rat) / ((r.den:Int):Rat)=r
 rw [← apd]
 exact ao4 r
theorem oZ {q:Int×Int}(h:0 < q.2)(g:afi q.1 q.2=1):q=qr (vl q):=LN h (cz _) g (jQ _) (eA _).symm
theorem dQ {t b:Int}(h:b≠0):low t b=qr ((t:Rat) / (b:Rat)):=by
 rw [← qp h]
 exact oZ (i_ h) (kY h)
theorem iH {a b:Rat}(h:qr a=qr b):a=b:=by
 rw [← eA a, ← eA b,h]
theorem mL (i:Int):qr (i:Rat)=(i,1):=by
 have e:(i,(1:Int))=qr (vl (i,1)):=oZ (by show (0:Int) < 1;decide) (by show afi i 1=1;simp)
 have v:vl (i,(1:Int))=(i:Rat):=by
  unfold vl
  show (i:Rat) / ((1:Int):Rat)=i
  have:((1:Int):Rat)=1:=by rfl
  rw [this]
  grind
 rw [e,v]
theorem BU (r:Rat):qr (-r)=(-(qr r).1,(qr r).2):=by
 have e:((-(qr r).1,(qr r).2):Int×Int)=qr (vl (-(qr r).1,(qr r).2)):=oZ (cz r) (by
  have:=jQ r
  show afi (-(qr r).1) (qr r).2=1
  rw [Int.neg_gcd]
  exact this)
 have v:vl (-(qr r).1,(qr r).2)= -r:=by
  have h:=eA r
  unfold vl at h ⊢
  push_cast
  rw [← h]
  grind
 rw [e,v]
theorem tj {r:Rat}:((qr r).2:Rat)≠0:=cG (afd (cz r))
theorem LZ (a b:Rat):low ((qr a).1*(qr b).2+(qr b).1*(qr a).2) ((qr a).2*(qr b).2)=qr (a+b):=by
 have ha:=cz a
 have hb:=cz b
 rw [dQ (afd (afM ha hb))]
 have e1:=eA a
 have e2:=eA b
 have z1:=tj (r:=a)
 have z2:=tj (r:=b)
 unfold vl at e1 e2
 congr 1
 push_cast
 grind
theorem BV (a b:Rat):low ((qr a).1*(qr b).2 - (qr b).1*(qr a).2) ((qr a).2*(qr b).2)=qr (a - b):=by
 have ha:=cz a
 have hb:=cz b
 rw [dQ (afd (afM ha hb))]
 have e1:=eA a
 have e2:=eA b
 have z1:=tj (r:=a)
 have z2:=tj (r:=b)
 unfold vl at e1 e2
 congr 1
 push_cast
 grind
theorem L6 (a b:Rat):low ((qr a).1*(qr b).1) ((qr a).2*(qr b).2)=qr (a*b):=by
 have ha:=cz a
 have hb:=cz b
 rw [dQ (afd (afM ha hb))]
 have e1:=eA a
 have e2:=eA b
 have z1:=tj (r:=a)
 have z2:=tj (r:=b)
 unfold vl at e1 e2
 congr 1
 push_cast
 grind
structure Sz (k:Nat)(r:Rat):Prop where
 top:intBits (qr r).1≤k
 bot:intBits (qr r).2≤k
theorem Sz.up {k l:Nat}{r:Rat}(h:Sz k r)(kl:k≤l):Sz l r:=⟨ad_ h.top kl,ad_ h.bot kl⟩
theorem xW {a b:Int}{k:Nat}(ha:intBits a≤k)(hb:intBits b≤k):intBits (a+b)≤k+1:=by
 rw [intBits_le_iff] at ha hb ⊢
 have:=af6 a b
 rw [age]
 omega
theorem xX {a b:Int}{k:Nat}(ha:intBits a≤k)(hb:intBits b≤k):intBits (a - b)≤k+1:=by
 rw [intBits_le_iff] at ha hb ⊢
 have:=Int.natAbs_sub_le a b
 rw [age]
 omega
theorem qA {t b:Int}{k:Nat}(hb:b≠0)(h1:intBits t≤k)(h2:intBits b≤k):Sz k ((t:Rat) / (b:Rat)):=by
 rw [← qp hb]
 have e:=oZ (i_ (t:=t) hb) (kY hb)
 exact ⟨by rw [← e];exact intBits_le_of_natAbs (lY hb) h1,by rw [← e];exact intBits_le_of_natAbs (lZ hb) h2⟩
theorem BW {t b:Int}{k:Nat}{r:Rat}(hb:b≠0)(e:low t b=qr r)(h1:intBits t≤k)(h2:intBits b≤k):Sz k r:=by
 have z:=dQ (t:=t) hb
 rw [z] at e
 have:=iH e
 rw [← this]
 exact qA hb h1 h2
theorem Sz.add {k l:Nat}{a b:Rat}(ha:Sz k a)(hb:Sz l b):Sz (k+l+1) (a+b):=
 BW (afd (afM (cz a) (cz b))) (LZ a b) (xW (intBits_mul_le ha.top hb.bot) (by rw [aoF];exact intBits_mul_le hb.top ha.bot)) (ape (intBits_mul_le ha.bot hb.bot))
theorem Sz.sub {k l:Nat}{a b:Rat}(ha:Sz k a)(hb:Sz l b):Sz (k+l+1) (a - b):=
 BW (afd (afM (cz a) (cz b))) (BV a b) (xX (intBits_mul_le ha.top hb.bot) (by rw [aoF];exact intBits_mul_le hb.top ha.bot)) (ape (intBits_mul_le ha.bot hb.bot))
theorem Sz.mul {k l:Nat}{a b:Rat}(ha:Sz k a)(hb:Sz l b):Sz (k+l) (a*b):=
 BW (afd (afM (cz a) (cz b))) (L6 a b) (intBits_mul_le ha.top hb.top) (intBits_mul_le ha.bot hb.bot)
theorem Sz.neg {k:Nat}{a:Rat}(ha:Sz k a):Sz k (-a):=by
 refine ⟨?_,?_⟩
 ·rw [BU]
  have:=ha.top
  rw [intBits_le_iff] at this ⊢
  show (-(qr a).1).natAbs < 2^k
  rw [aoT]
  exact this
 ·rw [BU]
  exact ha.bot
theorem u4 {i:Int}{k:Nat}(h:i.natAbs < 2^k)(hk:1≤k):Sz k (i:Rat):=by
 refine ⟨?_,?_⟩
 ·rw [mL]
  exact intBits_le_iff.mpr h
 ·rw [mL]
  refine intBits_le_iff.mpr ?_
  show 1 < 2^k
  exact Nat.one_lt_two_pow (by omega)
def eQ (K:Frag)(H:Hp)(v:V)(r:Rat):Prop:=j_ K H v (qr r)
def d7 (K:Frag)(H:Hp)(v:V)(p:Rat×Rat):Prop:=∃a u1 u2,v=.ref a∧bL K H a [u1,u2]∧eQ K H u1 p.1∧eQ K H u2 p.2
section
variable {K:Frag}{H H' :Hp}{v:V}{r:Rat}{p:Rat×Rat}
theorem eQ.a8 (h:eQ K H v r)(s:bE H H'):eQ K H' v r:=j_.a8 h s
theorem eQ.same (h:eQ K H v r)(s:av H H'):eQ K H' v r:=j_.same h s
theorem d7.a8 (h:d7 K H v p)(s:bE H H'):d7 K H' v p:=by
 obtain ⟨a,u1,u2,e,h1,h2,h3⟩:=h
 exact ⟨a,u1,u2,e,s.cR h1,h2.a8 s,h3.a8 s⟩
theorem d7.same (h:d7 K H v p)(s:av H H'):d7 K H' v p:=h.a8 (.of s)
abbrev kg (p:Rat×Rat):Pt:=(qr p.1,qr p.2)
theorem d7.O_ (h:d7 K H v p):Spot K H v (kg p):=h
def gR (K:Frag)(H:Hp)(us:List V)(ps:List (Rat×Rat)):Prop:=Paired (d7 K H) us ps
theorem gR.a8 {us:List V}{ps:List (Rat×Rat)}(h:gR K H us ps)(s:bE H H'):gR K H' us ps:=Paired.bZ h fun _ _ z=>z.a8 s
theorem gR.same {us:List V}{ps:List (Rat×Rat)}(h:gR K H us ps)(s:av H H'):gR K H' us ps:=h.a8 (.of s)
end
section
variable {X:Cx}
theorem wg {pins:List (Addr×Obj)}{σ:L2.St}{H:Hp}{s:Shared}{v:V}{p q:Rat×Rat}(I:Inv X pins σ H s)(h1:d7 X.K H v p)(h2:d7 X.K H v q):p=q:=by
 obtain ⟨a,u1,u2,rfl,t1,⟨b1,rfl,n1⟩,b2,rfl,n2⟩:=h1
 obtain ⟨a',w1,w2,e,t2,⟨c1,rfl,m1⟩,c2,rfl,m2⟩:=h2
 cases e
 cases I.fV t1 t2
 have e1:=I.fV n1 m1
 have e2:=I.fV n2 m2
 simp only [List.cons.injEq,V.int.injEq,and_true] at e1 e2
 exact aoU (iH (aoU e1.1 e1.2)) (iH (aoU e2.1 e2.2))
def Pa (K:Frag)(neg:Bool):R2:=fun x y H Q=>∃p l us ps,y=.ref l∧aU K H l us∧d7 K H x p∧gR K H us ps∧Q (.bl (if neg then !decide (p∈ps) else decide (p∈ps))) H
theorem Pb {pins:List (Addr×Obj)}{σ:L2.St}{H:Hp}{s:Shared}{A:Around}{x:V}{v:Value}{p:Rat×Rat}{us:List V}{its:List Value}{ps:List (Rat×Rat)}(I:Inv X pins σ H s)(hu:A.units+60 < cLine)(hx:d7 X.K H x p)(rx:RelV x v)(hp:gR X.K H us ps)(rv:Vals us its):
  ∃e:Value→Bool,(∀y,y∈its.toArray→SeqAt.EqAt A s y v (e y))∧its.toArray.any e=decide (p∈ps):=by
 have key:∀(j:Nat) (y:Value),its[j]? =some y→∃u q,us[j]? =some u∧ps[j]? =some q∧RelV u y∧d7 X.K H u q:=fun j y ey=>by
  obtain ⟨u,eu,ru⟩:=aE (cu rv) ey
  obtain ⟨q,eq,hq⟩:=aE hp eu
  exact ⟨u,q,eu,eq,ru,hq⟩
 refine ⟨fun y=> @decide (∃u q,RelV u y∧d7 X.K H u q∧q=p) (afs _),fun y hy=> ?_,?_⟩
 ·obtain ⟨j,hj,ey⟩:=afk.mp (by simpa using hy:y∈its)
  obtain ⟨u,q,eu,eq,ru,hq⟩:=key j y (by rw [gE hj,ey])
  have z:=vW (A:=A) I (.t (c6 (kg q))) (.t (c6 (kg p))) u x y v hq.O_.is hx.O_.is (by unfold alike;exact kc _ _) ru rx (by have:=jP (kg q);unfold dep;simp only [c6,fj,dep] at this ⊢;omega)
  have e:fX (.t (c6 (kg q))) (.t (c6 (kg p)))= @decide (∃u q,RelV u y∧d7 X.K H u q∧q=p) (afs _):=by
   unfold fX
   rw [sZ]
   by_cases c:q=p
   ·subst c
    rw [decide_eq_true rfl]
    symm
    exact @decide_eq_true _ (afs _) ⟨u,q,ru,hq,rfl⟩
   ·rw [decide_eq_false (fun z=>c (aoU (iH (congrArg ap7 z)) (iH (congrArg ap8 z))))]
    symm
    refine @decide_eq_false _ (afs _) fun ⟨u',q',W0,kG,e'⟩=> ?_
    obtain ⟨a,_,_,rfl,_⟩:=id hq
    obtain ⟨a',_,_,rfl,_⟩:=id kG
    have r1:y=Value.ref a:=ru
    have r2:y=Value.ref a' :=W0
    rw [r1] at r2
    cases r2
    exact c ((wg I hq kG).trans e')
  rw [e] at z
  exact z
 ·rw [afZ,decide_eq_true_iff]
  simp only [List.any_toArray,afU]
  constructor
  ·rintro ⟨y,hy,ey⟩
   obtain ⟨j,hj,ej⟩:=afk.mp hy
   obtain ⟨u,q,eu,eq,ru,hq⟩:=key j y (by rw [gE hj,ej])
   obtain ⟨u',q',W0,kG,e'⟩:= @of_decide_eq_true _ (afs _) ey
   obtain ⟨a,_,_,rfl,_⟩:=id hq
   obtain ⟨a',_,_,rfl,_⟩:=id kG
   have r1:y=Value.ref a:=ru
   have r2:y=Value.ref a' :=W0
   rw [r1] at r2
   cases r2
   rw [← e', ← wg I hq kG]
   exact ir eq
  ·intro hm
   obtain ⟨j,hj,ej⟩:=afk.mp hm
   have lu:us.length=ps.length:=Paired.length hp
   have li:us.length=its.length:=rv.length
   have Pc :j < its.length:=by omega
   refine ⟨its[j],afz Pc,?_⟩
   obtain ⟨u,q,eu,eq,ru,hq⟩:=key j its[j] (gE Pc)
   rw [gE hj,ej] at eq
   cases eq
   exact @decide_eq_true _ (afs _) ⟨u,p,ru,hq,rfl⟩
theorem HW (hu:X.A.units+64 < cLine):ib X (compareOp .In) (Pa X.K false):=by
 intro pins s σ H x y v u Q I rx ry h
 obtain ⟨p,l,us,ps,rfl,hq,hx,hp,q⟩:=h
 cases ry
 obtain ⟨its,rv,pl,hz⟩:=I.list hq
 obtain ⟨e,he,ea⟩:=Pb (A:=X.A.in1) I (by rw [in1_units];omega) hx rx hp rv
 refine SeqAt.in_listAt e pl.isList he ⟨.bl _,H,I,rfl,?_⟩
 rw [ea]
 exact q
end
theorem gu {α:Type}{R:(Str×α)→(Key×V)→Prop}{x:Str}{y:α}:∀{l:List (Str×α)} {kvs:List (Key×V)},Paired (fun b kv=>kv.1=.inr b.1∧R b kv) l kvs→(l.map (·.1)).Nodup→(x,y)∈l→∃v,bS kvs (.inr x)=some v∧R (x,y) (.inr x,v)
 | _::_,kv::_,.cons h t,nd,m=>by
  rw [ac_,ae9] at nd
  rcases ae1.mp m with e | m
  ·subst e
   have h1:kv.1=.inr x:=h.1
   refine ⟨kv.2,bK h1,?_⟩
   have h2:=h.2
   rw [← h1]
   exact h2
  ·obtain ⟨v,e,r⟩:=gu t nd.2 m
   refine ⟨v,?_,r⟩
   rw [bB (fun z=> ?_)]
   ·exact e
   ·rw [h.1] at z
    exact nd.1 (afq z▸abt.mpr ⟨_,m,rfl⟩)
def uw (K:Frag)(H:Hp)(pw:List (Str×List (Rat×Rat)))(kW:List (Key×V)):Prop:=
 Paired (fun (p:Str×List (Rat×Rat)) (kv:Key×V)=>kv.1=.inr p.1∧∃l us,kv.2=.ref l∧H l=some (.lst us)∧gR K H us p.2) pw kW
theorem uw.same {K:Frag}{H H' :Hp}{pw:List (Str×List (Rat×Rat))}{kW:List (Key×V)}(h:uw K H pw kW)(s:av H H'):uw K H' pw kW:=
 Paired.bZ h fun _ _ z=>⟨z.1,by obtain ⟨l,us,e1,e2,e3⟩:=z.2;exact ⟨l,us,e1,s _ _ e2,e3.same s⟩⟩
theorem uw.dict {K:Frag}{H:Hp}{pw:List (Str×List (Rat×Rat))}{kW kvs:List (Key×V)}{d:Addr}{o:HO}(h:uw K H pw kW)(e:H d=some (.dK kvs)):uw K (upd H d o) pw kW:=
 Paired.bZ h fun _ _ z=>⟨z.1,by
  obtain ⟨l,us,e1,e2,e3⟩:=z.2
  exact ⟨l,us,e1,by rw [aj (fun q=>by rw [q,e] at e2;cases e2)];exact e2,e3.a8 (.dict e)⟩⟩
theorem uw.keys {K:Frag}{H:Hp}{pw:List (Str×List (Rat×Rat))}{kW:List (Key×V)}(h:uw K H pw kW):kW.map (·.1)=(pw.map (·.1)).map (fun b=>(afb b:Key)):=by
 rw [fJ h,aeS]
 rfl
theorem fE.ends {K:Frag}{H:Hp}{C a dx pP pW pB:Addr}{ps:List (Str×Pt)}{bs:List (Str×Str×Str)}{kP kW kB:List (Key×V)}(R:fE K H C a dx pP pW pB ps bs kP kW kB)(nd:(bs.map (·.1)).Nodup){x one other:Str}(m:(x,one,other)∈bs):
  ∃p,bS kB (.inr x)=some (.ref p)∧Rd H p (.tup [.str one,.str other]):=by
 obtain ⟨v,e,p,ep,r⟩:=gu R.rb nd m
 have oC :v=.ref p:=ep
 exact ⟨p,by rw [e,oC],r⟩
theorem fE.place {K:Frag}{H:Hp}{C a dx pP pW pB:Addr}{ps:List (Str×Pt)}{bs:List (Str×Str×Str)}{kP kW kB:List (Key×V)}(R:fE K H C a dx pP pW pB ps bs kP kW kB)(nd:(ps.map (·.1)).Nodup){x:Str}{p:Pt}(m:(x,p)∈ps):
  ∃v,bS kP (.inr x)=some v∧Spot K H v p:=gu R.rp nd m
end Ty
namespace Ty
open PySem PySem.Spec PyProof.Rows L2
structure aH where
 nm:Str
 sp:Rat×Rat
 ws:List (Rat×Rat)
structure bq where
 nm:Str
 one:aH
 other:aH
structure wj (K:Frag)(H:Hp)(C a:Addr)(pins:List aH)(ao:List bq):Prop where
 ex:∃(dx pP pW pB:Addr) (kP kW kB:List (Key×V)),fE K H C a dx pP pW pB (pins.map fun p=>(p.nm,kg p.sp)) (ao.map fun b=>(b.nm,b.one.nm,b.other.nm)) kP kW kB∧uw K H (pins.map fun p=>(p.nm,p.ws)) kW
structure fq (pins:List aH)(ao:List bq):Prop where
 np:(pins.map (·.nm)).Nodup
 nb:(ao.map (·.nm)).Nodup
 ends:∀b∈ao,b.one∈pins∧b.other∈pins∧b.one.nm≠b.other.nm
 sz:∀p∈pins,Sz 24 p.sp.1∧Sz 24 p.sp.2∧∀w∈p.ws,Sz 22 w.1∧Sz 22 w.2
 lp:pins.length≤9
 lb:ao.length≤14
 lw:∀p∈pins,p.ws.length≤2
theorem wj.same {K:Frag}{H H' :Hp}{C a:Addr}{pins:List aH}{ao:List bq}(h:wj K H C a pins ao)(s:av H H'):wj K H' C a pins ao:=by
 obtain ⟨dx,pP,pW,pB,kP,kW,kB,R,W⟩:=h.ex
 exact ⟨dx,pP,pW,pB,kP,kW,kB,R.same s,W.same s⟩
def uz (K:Frag)(H:Hp)(kvs:List (Key×V))(F:Str→Option (Rat×Rat)):Prop:=
 ∀nm,(bS kvs (.inr nm)=none∧F nm=none)∨∃v p,bS kvs (.inr nm)=some v∧F nm=some p∧d7 K H v p
section
variable {K:Frag}{H H' :Hp}{kvs:List (Key×V)}
theorem uz.same {F:Str→Option (Rat×Rat)}(h:uz K H kvs F)(s:av H H'):uz K H' kvs F:=fun nm=>by
 rcases h nm with h | ⟨v,q,h1,h2,h3⟩
 ·exact .inl h
 ·exact .inr ⟨v,q,h1,h2,h3.same s⟩
theorem uz.Pd {F:Str→Option (Rat×Rat)}(h:uz K H kvs F){x:Str}{v:V}{q:Rat×Rat}(n:d7 K H v q):d7 K H ((bS kvs (.inr x)).getD v) ((F x).getD q):=by
 rcases h x with ⟨h1,h2⟩ | ⟨u,q',h1,h2,h3⟩
 ·rw [h1,h2]
  exact n
 ·rw [h1,h2]
  exact h3
end
end Ty
namespace Ty
open PySem PySem.Spec PyProof.Rows L2
end Ty
namespace Ty
open PySem PySem.Spec PyProof.Rows L2
theorem L7 {α:Type}{nm:α→Str}{l:List α}(nd:(l.map nm).Nodup){b b' :α}(h:b∈l)(h' :b' ∈l)(e:nm b=nm b'):b=b' :=by
 obtain ⟨i,hi,ei⟩:=afk.mp h
 obtain ⟨j,hj,ej⟩:=afk.mp h'
 have q1:(l.map nm)[i]? =some (nm b):=by rw [Wp,gE hi,ei];rfl
 have q2:(l.map nm)[j]? =some (nm b):=by rw [Wp,gE hj,ej,e];rfl
 have ij:=(agf (by rw [aa_];exact hi) nd).mp (q1.trans q2.symm)
 subst ij
 rw [← ei, ← ej]
theorem ft {α:Type}{nm:α→Str}{l:List α}(nd:(l.map nm).Nodup){i:Nat}{b b' :α}(h:l[i]? =some b)(m:b' ∈l.take i):nm b' ≠nm b:=fun e=>by
 have il:=(be.mp h).1
 obtain ⟨j,hj,ej⟩:=afk.mp m
 rw [apf] at ej
 rw [ae2] at hj
 have q1:(l.map nm)[j]? =some (nm b):=by rw [Wp,gE (by omega),ej, ← e];rfl
 have q2:(l.map nm)[i]? =some (nm b):=by rw [Wp,h];rfl
 have:=(agf (by rw [aa_];omega) nd).mp (q1.trans q2.symm)
 omega
theorem take_snoc {α:Type}{l:List α}{i:Nat}{b:α}(h:l[i]? =some b):l.take (i+1)=l.take i++[b]:=by rw [afN,h];rfl
end Ty
namespace Ty
open PySem PySem.Spec PyProof.Rows L2
theorem tq {κ:Type}[DecidableEq κ]:∀{kvs:List (κ×V)} {t:Nat} {k:κ} {y:V},(kvs.map (·.1)).Nodup→kvs[t]? =some (k,y)→bS kvs k=some y
 | p::r,0,k,y,nd,e=>by
  cases e
  exact bK rfl
 | p::r,t+1,k,y,nd,e=>by
  rw [ac_,ae9] at nd
  have e' :r[t]? =some (k,y):=e
  rw [bB (fun z=>nd.1 (z▸abt.mpr ⟨_,ir e',rfl⟩))]
  exact tq nd.2 e'
theorem xY {xs:List Str}(h:xs.Nodup):(xs.map fun x=>(afb x:Key)).Nodup:=by
 unfold ao5
 rw [agg]
 exact agh (fun h e=>h (afq e)) h
theorem mM {H1 H2 H3:Hp}(a:av H1 H2)(b:av H2 H3):av H1 H3:=fun c o z=>b _ _ (a _ _ z)
theorem jR {H H' :Hp}(s:av H H'){p:Addr}(n:H' p=none):H p=none:=by
 cases e:H p with
 | none=>rfl
 | some o=>rw [s _ _ e] at n;cases n
end Ty
namespace Ty
open PySem PySem.Spec PyProof.Rows L2
section
variable {X:Cx}
end
section
variable {D:Addr}{te:TE}{cap:L2.St}{H1:Hp}{Q:VK}
end
abbrev fu (h:Heap)(z TI TO:Addr)(f0:Value)(fb:Bool):Prop:=
 h.get? z=some {cls:=.type "zip",dict:=none,data:=.fields #[f0,.bool fb,.bool false,.ref TI,.ref TO],slots:= #[]}
section
variable {prog:Program}{w:World}{A:Around}{E:Value→Shared→Prop}{s:Shared}
theorem tu {a:Addr}{o:Obj}{Q:Option Obj→Shared→Prop}(h:s.heap.get? a=some o)(q:Q (some o) s):wpAny (model prog w) A (loadIfAlive a) Q E s:=fun Γ p _=>by
 show Sem.wp _ _ (.loadIfAlive a .pure) _ _ _ _
 rw [Sem.wp_loadIfAlive,h]
 exact q
theorem tw {z TI TO T:Addr}{fb:Bool}{o:Obj}{Q:Bool→Shared→Prop}(hz:fu s.heap z TI TO (rawInt T) fb)(hT:s.heap.get? T=some o)
  (hQ:∀h',fu h' z TI TO (rawInt T) true→Heap.SameBut z s.heap h' →Q false {s with heap:=h' }):wpAny (model prog w) A (Builtin.SmallTypes.ownedTupleIsFree (.ref z)) Q E s:=by
 unfold Builtin.SmallTypes.ownedTupleIsFree
 refine wpAny_bind (wpAny_field hz rfl (x:=rawInt T) rfl ?_)
 show wpAny _ _ (loadIfAlive ((T:Int)).toNat >>=_) _ _ _
 refine wpAny_bind (tu (o:=o) (by simpa using hT) ?_)
 simp only [Option.isNone_some,aga,if_false]
 refine wpAny_bind (wpAny_field hz rfl (x:=.bool fb) rfl ?_)
 cases fb with
 | true=>
  show wpAny _ _ (if (Value.bool true !=Value.bool true)=true then _ else _) _ _ _
  rw [if_neg (by decide)]
  exact wpAny_pure (hQ s.heap hz ⟨rfl,fun _ _=>rfl⟩)
 | false=>
  show wpAny _ _ (if (Value.bool false !=Value.bool true)=true then _ else _) _ _ _
  rw [if_pos (by decide)]
  refine wpAny_bind (wpAny_setField_rec hz (by simp) fun h' W7 Kj =>wpAny_pure (hQ h' W7 Kj))
theorem xZ {z TI TO T i1 i2 l1 l2:Addr}{fb:Bool}{o:Obj}{k1 k2:Nat}{xs ys:Array Value}{x y:Value}{Q:Value→Shared→Prop}(D:ZipApart z TI TO i1 i2 l1 l2)
  (hz:fu s.heap z TI TO (rawInt T) fb) (hT:s.heap.get? T=some o) (iG:IsPair s.heap TI (.ref i1) (.ref i2))
  (h1:s.heap.IsListIter i1 l1 k1) (h2:s.heap.IsListIter i2 l2 k2) (wm:s.heap.IsList l1 xs) (uQ:s.heap.IsList l2 ys) (hx:xs[k1]? =some x) (hy:ys[k2]? =some y)
  (hQ:∀h',fu h' z TI TO (rawInt T) true→h'.IsListIter i1 l1 (k1+1)→h'.IsListIter i2 l2 (k2+1)→IsPair h' s.heap.objs.size x y→h'.objs.size=s.heap.objs.size+1→
   (∀c o,c≠z→c≠i1→c≠i2→s.heap.get? c=some o→h'.get? c=some o)→Q (.ref s.heap.objs.size) {s with heap:=h' }):
  wpAny (model prog w) A (Builtin.«zip.__next__» ⟨[.ref z],[]⟩) (fun fin s' =>∃v,fin=.done (.ret v)∧Q v s') E s:=by
 show wpAny _ _ (field (.ref z) 2 >>=_) _ _ _
 refine wpAny_bind (wpAny_field hz rfl (x:=.bool false) rfl ?_)
 show wpAny _ _ (field (.ref z) 3 >>=_) _ _ _
 refine wpAny_bind (wpAny_field hz rfl (x:=.ref TI) rfl ?_)
 refine wpAny_bind (wpAny_seqItems iG rfl ?_)
 show wpAny _ _ (Builtin.SmallTypes.ownedTupleIsFree (.ref z) >>=_) _ _ _
 refine wpAny_bind (tw hz hT fun h₁ hz₁ u5=> ?_)
 simp only [aga,if_false]
 refine wpAny_bind ?_
 show wpAny _ _ (forIn [Value.ref i1,Value.ref i2].toArray _ _) _ _ _
 rw [ao6]
 simp only [apw,apF]
 refine wpAny_bind (wpAny_bind (wpAny_holding ?_))
 show wpAny _ _ (Builtin.SmallTypes.nextOf (.ref i1) >>=_) _ _ _
 refine wpAny_bind (wpAny_nextOf_list_item (h1.extBut u5.extBut D.i1z) (wm.extBut u5.extBut D.l1z) hx fun h₂ h1₂ BX=>wpAny_pure ?_)
 refine wpAny_pure ?_
 refine wpAny_bind (wpAny_bind (wpAny_holding ?_))
 show wpAny _ _ (Builtin.SmallTypes.nextOf (.ref i2) >>=_) _ _ _
 refine wpAny_bind (wpAny_nextOf_list_item ((h2.extBut u5.extBut D.i2z).extBut BX.extBut D.i12.symm) ((uQ.extBut u5.extBut D.l2z).extBut BX.extBut D.l2i1) hy fun h₄ h2₄ NF=>wpAny_pure ?_)
 refine wpAny_pure (wpAny_pure ?_)
 refine wpAny_bind (wpAny_newTuple (hsz:=(by show 2≤sizeLine;decide)) ?_)
 have hsz:h₄.objs.size=s.heap.objs.size:=by rw [NF.1,BX.1,u5.1]
 refine wpAny_pure ⟨_,rfl,?_⟩
 have hz₄:fu h₄ z TI TO (rawInt T) true:=NF.extBut _ _ D.i2z.symm (BX.extBut _ _ D.i1z.symm hz₁)
 show Q (.ref h₄.objs.size) _
 rw [hsz]
 refine hQ _ (Heap.get?_push_of_some _ hz₄) ((h1₂.extBut NF.extBut D.i12).at fun o e=>Heap.get?_push_of_some _ e) (h2₄.at fun o e=>Heap.get?_push_of_some _ e) ?_ (by rw [Heap.size_push,hsz]) fun c o c1 c3 c4 e=>Heap.get?_push_of_some _ (NF.extBut _ _ c4 (BX.extBut _ _ c3 (u5.extBut _ _ c1 e)))
 show (h₄.push _).get? _=_
 rw [← hsz]
 exact Heap.get?_push_size _ rfl
theorem BY {z TI TO T i1 i2 l1 l2:Addr}{fb:Bool}{o:Obj}{k1 k2:Nat}{xs ys:Array Value}{Q:Fin→Shared→Prop}(hh:A.handled=none)(D:ZipApart z TI TO i1 i2 l1 l2)
  (hz:fu s.heap z TI TO (rawInt T) fb) (hT:s.heap.get? T=some o) (iG:IsPair s.heap TI (.ref i1) (.ref i2))
  (h1:s.heap.IsListIter i1 l1 k1) (h2:s.heap.IsListIter i2 l2 k2) (wm:s.heap.IsList l1 xs) (uQ:s.heap.IsList l2 ys) (x3:xs[k1]? =none∨ys[k2]? =none)
  (hE:∀h' e,(∀c o,c≠z→c≠i1→c≠i2→s.heap.get? c=some o→h'.get? c=some o)→(∃o,h'.get? e=some o∧o.cls=.type "StopIteration")→E (.ref e) {s with heap:=h' }):
  wpAny (model prog w) A (Builtin.«zip.__next__» ⟨[.ref z],[]⟩) Q E s:=by
 show wpAny _ _ (field (.ref z) 2 >>=_) _ _ _
 refine wpAny_bind (wpAny_field hz rfl (x:=.bool false) rfl ?_)
 show wpAny _ _ (field (.ref z) 3 >>=_) _ _ _
 refine wpAny_bind (wpAny_field hz rfl (x:=.ref TI) rfl ?_)
 refine wpAny_bind (wpAny_seqItems iG rfl ?_)
 show wpAny _ _ (Builtin.SmallTypes.ownedTupleIsFree (.ref z) >>=_) _ _ _
 refine wpAny_bind (tw hz hT fun h₁ hz₁ u5=> ?_)
 simp only [aga,if_false]
 refine wpAny_bind ?_
 show wpAny _ _ (forIn [Value.ref i1,Value.ref i2].toArray _ _) _ _ _
 rw [ao6]
 simp only [apw,apF]
 refine wpAny_bind (wpAny_bind (wpAny_holding ?_))
 show wpAny _ _ (Builtin.SmallTypes.nextOf (.ref i1) >>=_) _ _ _
 cases hx:xs[k1]? with
 | none=>
  refine wpAny_bind (wpAny_nextOf_list_end hh (h1.extBut u5.extBut D.i1z) (wm.extBut u5.extBut D.l1z) hx fun h₂ e BX he=> ?_)
  exact hE h₂ e (fun c o c1 c3 _ x=>BX _ _ c3 (u5.extBut _ _ c1 x)) he
 | some x=>
  have hy:ys[k2]? =none:=by rcases x3 with h | h;rw [hx] at h;cases h;exact h
  refine wpAny_bind (wpAny_nextOf_list_item (h1.extBut u5.extBut D.i1z) (wm.extBut u5.extBut D.l1z) hx fun h₂ h1₂ BX=>wpAny_pure ?_)
  refine wpAny_pure ?_
  refine wpAny_bind (wpAny_bind (wpAny_holding ?_))
  show wpAny _ _ (Builtin.SmallTypes.nextOf (.ref i2) >>=_) _ _ _
  refine wpAny_bind (wpAny_nextOf_list_end hh ((h2.extBut u5.extBut D.i2z).extBut BX.extBut D.i12.symm) ((uQ.extBut u5.extBut D.l2z).extBut BX.extBut D.l2i1) hy fun h₄ e NF he=> ?_)
  exact hE h₄ e (fun c o c1 c3 c4 x=>NF _ _ c4 (BX.extBut _ _ c3 (u5.extBut _ _ c1 x))) he
theorem u6 {z TI TO T i1 i2 l1 l2:Addr}{fb:Bool}{o:Obj}{k1 k2:Nat}{xs ys:Array Value}{x y:Value}{Q:Option Value→Shared→Prop}(D:ZipApart z TI TO i1 i2 l1 l2)
  (hz:fu s.heap z TI TO (rawInt T) fb) (hT:s.heap.get? T=some o) (iG:IsPair s.heap TI (.ref i1) (.ref i2))
  (h1:s.heap.IsListIter i1 l1 k1) (h2:s.heap.IsListIter i2 l2 k2) (wm:s.heap.IsList l1 xs) (uQ:s.heap.IsList l2 ys) (hx:xs[k1]? =some x) (hy:ys[k2]? =some y)
  (hQ:∀h',fu h' z TI TO (rawInt T) true→h'.IsListIter i1 l1 (k1+1)→h'.IsListIter i2 l2 (k2+1)→IsPair h' s.heap.objs.size x y→h'.objs.size=s.heap.objs.size+1→
   (∀c o,c≠z→c≠i1→c≠i2→s.heap.get? c=some o→h'.get? c=some o)→Q (some (.ref s.heap.objs.size)) {s with heap:=h' }):
  wpAny (model prog w) A (pyNext (.ref z)) Q E s:=by
 have Pe :s.TypeIs (.ref z) "zip":=⟨_,hz,rfl⟩
 unfold pyNext
 exact wpAny_bind (wpAny_attempt (wpAny_callSpecial?_slot (name:=Str.ofString "__next__") Pe F.slot_zip_next
  (wpAny_call_entry F.slot_zip_next Pe F.entry_zip_next
   (xZ D hz hT iG h1 h2 wm uQ hx hy fun h' a1 a3 a4 a5 a6 a7=>wpAny_pure (hQ h' a1 a3 a4 a5 a6 a7)) (F.args_zip_next_1 _))))
theorem x4 {z TI TO T i1 i2 l1 l2:Addr}{fb:Bool}{o:Obj}{k1 k2:Nat}{xs ys:Array Value}{Q:Option Value→Shared→Prop}(hh:A.handled=none)(D:ZipApart z TI TO i1 i2 l1 l2)
  (hz:fu s.heap z TI TO (rawInt T) fb) (hT:s.heap.get? T=some o) (iG:IsPair s.heap TI (.ref i1) (.ref i2))
  (h1:s.heap.IsListIter i1 l1 k1) (h2:s.heap.IsListIter i2 l2 k2) (wm:s.heap.IsList l1 xs) (uQ:s.heap.IsList l2 ys) (x3:xs[k1]? =none∨ys[k2]? =none)
  (hQ:∀h',(∀c o,c≠z→c≠i1→c≠i2→s.heap.get? c=some o→h'.get? c=some o)→Q none {s with heap:=h' }):wpAny (model prog w) A (pyNext (.ref z)) Q E s:=by
 have Pe :s.TypeIs (.ref z) "zip":=⟨_,hz,rfl⟩
 unfold pyNext
 refine wpAny_bind (wpAny_attempt (wpAny_callSpecial?_slot (name:=Str.ofString "__next__") Pe F.slot_zip_next
  (wpAny_call_entry F.slot_zip_next Pe F.entry_zip_next (BY hh D hz hT iG h1 h2 wm uQ x3 fun h' e hk he=> ?_) (F.args_zip_next_1 _))))
 obtain ⟨o,ho,hc⟩:=he
 refine wpAny_bind (wpAny_isInstance (T:="StopIteration") (b:=true) ⟨o,ho,hc⟩ isSubtype_stop ?_)
 exact wpAny_pure (hQ _ hk)
end
def EX (h:Heap)(z TI TO i1 i2 a b S:Addr)(i:Nat):Prop:=(fu h z TI TO .none false∨∃(T:Addr) (o:Obj) (fb:Bool),fu h z TI TO (rawInt T) fb∧h.get? T=some o∧T≠z∧T≠TO∧T≠i1∧T≠i2∧T≠S)∧IsPair h TI (.ref i1) (.ref i2)∧(∃x y,IsPair h TO x y)∧h.IsListIter i1 a i∧h.IsListIter i2 b i
section
variable {prog:Program}{w:World}{A:Around}{E:Value→Shared→Prop}{s:Shared}{z TI TO i1 i2 a b S:Addr}{i:Nat}
theorem EX.frame {h h' :Heap}(st:EX h z TI TO i1 i2 a b S i)(k:∀c o,c≠S→h.get? c=some o→h'.get? c=some o)(nz:z≠S)(n1:TI≠S)(n2:TO≠S)(n3:i1≠S)(n4:i2≠S):EX h' z TI TO i1 i2 a b S i:=by
 obtain ⟨hz,iG,⟨x,y,oQ⟩,h1,h2⟩:=st
 refine ⟨?_,k _ _ n1 iG,⟨x,y,k _ _ n2 oQ⟩,h1.at fun o e=>k _ o n3 e,h2.at fun o e=>k _ o n4 e⟩
 rcases hz with hz | ⟨T,o,fb,hz,hT,t1,t2,t3,t4,t5⟩
 ·exact .inl (k _ _ nz hz)
 ·exact .inr ⟨T,o,fb,k _ _ nz hz,k _ _ t5 hT,t1,t2,t3,t4,t5⟩
theorem EX.item {oS:Obj}{xs ys:Array Value}{x y:Value}{Q:Option Value→Shared→Prop}(D:ZipApart z TI TO i1 i2 a b)(st:EX s.heap z TI TO i1 i2 a b S i)(hS:s.heap.get? S=some oS)
  (wm:s.heap.IsList a xs) (uQ:s.heap.IsList b ys) (hx:xs[i]? =some x) (hy:ys[i]? =some y)
  (hQ:∀h',EX h' z TI TO i1 i2 a b S (i+1)→IsPair h' s.heap.objs.size x y→(∀c o,c∉[z,TI,TO,i1,i2]→s.heap.get? c=some o→h'.get? c=some o)→Q (some (.ref s.heap.objs.size)) {s with heap:=h' }):
  wpAny (model prog w) A (pyNext (.ref z)) Q E s:=by
 obtain ⟨hz,iG,⟨x0,y0,oQ⟩,h1,h2⟩:=st
 have lt:∀{c o},s.heap.get? c=some o→s.heap.objs.size≠c:=fun e=>afW (Heap.lt_size e)
 have e1:∃o,s.heap.get? i1=some o:=by obtain ⟨o,e,_⟩:=h1;exact ⟨o,e⟩
 have e2:∃o,s.heap.get? i2=some o:=by obtain ⟨o,e,_⟩:=h2;exact ⟨o,e⟩
 obtain ⟨o1,e1⟩:=e1
 obtain ⟨o2,e2⟩:=e2
 have Pf:∀{c:Addr},c∉[z,TI,TO,i1,i2]→c≠z∧c≠TI∧c≠TO∧c≠i1∧c≠i2:=fun h=>by simpa using h
 rcases hz with hz | ⟨T,o,fb,hz,hT,t1,t2,t3,t4,t5⟩
 ·refine wpAny_pyNext_zip_item D hz iG oQ h1 h2 wm uQ hx hy fun h' a1 a2 a3 a4 a5 a6 a7=> ?_
  refine hQ h' ⟨.inr ⟨_,_,false,a1,a5,lt hz,lt oQ,lt e1,lt e2,lt hS⟩,a7 _ _ D.TIz D.TITO D.TIi1 D.TIi2 iG,⟨_,_,a2⟩,a3,a4⟩ a5 fun c o hc e=> ?_
  obtain ⟨c1,c2,c3,c4,c5⟩:=Pf hc
  exact a7 c o c1 c3 c4 c5 e
 ·refine u6 D hz hT iG h1 h2 wm uQ hx hy fun h' a1 a3 a4 a5 a6 a7=> ?_
  refine hQ h' ⟨.inr ⟨T,o,true,a1,a7 _ _ t1 t3 t4 hT,t1,t2,t3,t4,t5⟩,a7 _ _ D.TIz D.TIi1 D.TIi2 iG,⟨_,_,a7 _ _ D.TOz D.TOi1 D.TOi2 oQ⟩,a3,a4⟩ a5 fun c o hc e=> ?_
  obtain ⟨c1,c2,c3,c4,c5⟩:=Pf hc
  exact a7 c o c1 c4 c5 e
theorem EX.fin {xs ys:Array Value}{Q:Option Value→Shared→Prop}(hh:A.handled=none)(D:ZipApart z TI TO i1 i2 a b)(st:EX s.heap z TI TO i1 i2 a b S i)
  (wm:s.heap.IsList a xs) (uQ:s.heap.IsList b ys) (x3:xs[i]? =none∨ys[i]? =none)
  (hQ:∀h',(∀c o,c∉[z,TI,TO,i1,i2]→s.heap.get? c=some o→h'.get? c=some o)→Q none {s with heap:=h' }):wpAny (model prog w) A (pyNext (.ref z)) Q E s:=by
 obtain ⟨hz,iG,⟨x0,y0,oQ⟩,h1,h2⟩:=st
 have Pf:∀{c:Addr},c∉[z,TI,TO,i1,i2]→c≠z∧c≠TI∧c≠TO∧c≠i1∧c≠i2:=fun h=>by simpa using h
 rcases hz with hz | ⟨T,o,fb,hz,hT,t1,t2,t3,t4,t5⟩
 ·refine wpAny_pyNext_zip_end hh D hz iG oQ h1 h2 wm uQ x3 fun h' kk=>hQ h' fun c o hc e=> ?_
  obtain ⟨c1,c2,c3,c4,c5⟩:=Pf hc
  exact kk c o c1 c3 c4 c5 e
 ·refine x4 hh D hz hT iG h1 h2 wm uQ x3 fun h' kk=>hQ h' fun c o hc e=> ?_
  obtain ⟨c1,c2,c3,c4,c5⟩:=Pf hc
  exact kk c o c1 c4 c5 e
end
end Ty
namespace Ty
open PySem PySem.Spec PyProof.Rows L2
section
variable {X:Cx}{pins:List (Addr×Obj)}{σ:L2.St}
theorem o_ {H:Hp}{p:Addr}(h:H p=none)(o:HO):av H (upd H p o):=fun b u q=>by rw [aj (au q h)];exact q
theorem boot_list:bootBuiltins "list"=some (.type "list"):=by decide+kernel
end
section
variable {X:Cx}
section
variable {k:Nat}{m:Str}{pos apos:Pos}{e o:Expr}{es:List Expr}{ta:TE}{t:TA}
end
end
section
variable {P:Program}{w:World}{K:Frag}{mg:Str→Option Value}{base:Heap}
end
theorem HX (l:Addr)(its:Array Value)(n:Nat)(b:Addr)(dN:Array Value)(n2:Nat)(d:Option Addr)(sl:Array (Option Value))(hs0:¬(!its.isEmpty && Builtin.List.listTooLong (its.size+dN.size))=true)(hs1:its.size≤sizeLine)(AG:its.size+dN.size≤sizeLine+1):
  Meets (Builtin.«list.extend» ⟨[.ref l,.ref b],[]⟩) (fun _ R s=>s.heap.get? l=some {cls:=.type "list",dict:=none,data:=.seq its n,slots:= #[]}∧s.heap.get? b=some {cls:=.type "tuple",dict:=d,data:=.seq dN n2,slots:=sl}∧
   R (.ok (.ret Value.none)) {s with heap:=s.heap.update l (Obj.mapSeq fun x=>x++dN),toks:=s.toks}):=
 .of_wp fun prog w A R s h=>by
  obtain ⟨hp,g,dd,tk,os⟩:=s
  obtain ⟨hl,hb,h⟩:=h
  have f1:=AutoSeq1.idx_int
  have f2:=AutoSeq1.sub_tuple_tuple
  have f3:=AutoSeq1.sub_list_list
  have f4:=AutoSeq1.sub_tuple_list
  have f5:=AutoSeq1.sub_list_tuple
  have W7 :(its++dN).size≤sizeLine+1:=by rw [Array.size_append];exact AG
  wp_walk using (wpAny_updateSeq hl rfl (hz:=hs1) (_hz' :=W7)),wpAny_loadPart' hl,wpAny_loadPart' hb
  exact ⟨_,rfl,h⟩
section
variable {X:Cx}
def Pg (K:Frag):V→List V→Hp→VK→Prop:=fun x vs H Q=>∃l b xs zs,x=.ref l∧vs=[.ref b]∧H l=some (.lst xs)∧bL K H b zs∧xs.length+zs.length≤1000∧Q .cE (upd H l (.lst (xs++zs)))
theorem HY:MtR X "list.extend" (Pg X.K):=by
 intro pins s σ H x vs v us Q I rx rv h
 obtain ⟨l,b,xs,zs,rfl,rfl,hH,hB,hz,q⟩:=h
 cases rx
 obtain ⟨u,rfl,ru⟩:=rv.one
 cases ru
 obtain ⟨z,its,n,r,hl,e⟩:=I.i8 hH
 obtain ⟨dN,r2,tp,z2⟩:=I.tuple hB
 have uQ:=r2.length
 have big:(1000:Nat)≤sizeLine:=by decide
 have hsz:its.toArray.size+dN.toArray.size≤sizeLine:=by rw [aeU,aeU];omega
 have AQ:¬ (!its.toArray.isEmpty && Builtin.List.listTooLong (its.toArray.size+dN.toArray.size))=true:=by
  rw [se hsz,agA]
  exact aeQ
 obtain ⟨⟨c,d,dt,sl⟩,e2,hc,n2,hd⟩:=tp
 obtain rfl:c=Value.type "tuple":=hc
 obtain rfl:dt=_:=hd
 refine call_meets F.slot_list_extend ⟨_,e,rfl⟩ F.entry_list_extend (F.args_list_extend_2 _ _)
  (HX l its.toArray n b dN.toArray n2 d sl AQ (by rw [aeU];omega) (by omega)) ⟨e,e2,?_⟩
 refine ⟨.cE,_,I.Ow (its' :=its++dN) hH e (by simp) (r.append r2) ?_,rfl,q⟩
 rw [aeO]
 omega
end
theorem qB:typeLookup (.type "zip") "__getattr__"=pure none:=by rw [typeLookup_type,builtinLookup_eq_fast];kernel_rfl
theorem x5:typeLookup (.type "zip") "keys"=pure none:=by rw [typeLookup_type,builtinLookup_eq_fast];kernel_rfl
theorem u9:entryFor table "zip.__getattribute__"=some Builtin.«object.__getattribute__»:=
 entryFor_alias (id' :="object.__getattribute__") (by kernel_rfl) (by decide+kernel) (by decide+kernel) (by kernel_rfl)
theorem fL:entryFor table "dict.update.loop"=some Builtin.«dict.update.loop»:=entryFor_of_tree (by kernel_rfl)
theorem cH:plainId "dict.update.loop"=true:=by decide+kernel
theorem BZ (a:Addr)(vs:Array Value)(u:Tok):
  Meets (Builtin.«object.__getattribute__» ⟨[.ref a,.str "keys" u],[]⟩) (fun A R s=>s.heap.get? a=some {cls:=.type "zip",dict:=none,data:=.fields vs,slots:= #[]}∧raisesAttr (.ref a) "keys" A R s):=
 Meets.of_wp fun prog w A R s hs=>by
  obtain ⟨hp,g,d,tk,os⟩:=s
  obtain ⟨hx,hs⟩:=hs
  have hT:(⟨hp,g,d,tk,os⟩:Shared).TypeIs (.ref a) "zip":=⟨_,hx,rfl⟩
  have hm:=x5
  unfold Builtin.«object.__getattribute__»
  repeat (any_goals (first | (assumption) | wp_step))
  exact wpAny_raiseAttrError hs.1 hs.2 (attrMsg_fits (by decide+kernel) (by decide+kernel))
section
variable {prog:Program}{w:World}{A:Around}{E:Value→Shared→Prop}{s:Shared}
theorem tD {z:Addr}{vs:Array Value}{Q:Option Value→Shared→Prop}(hx:s.heap.get? z=some {cls:=.type "zip",dict:=none,data:=.fields vs,slots:= #[]})(hA:A.handled=none)
  (h:∀h' tk,(∀b o,s.heap.get? b=some o→h'.get? b=some o)→Q none {s with heap:=h',toks:=tk}):wpAny (model prog w) A (getAttr? (.ref z) "keys") Q E s:=by
 obtain ⟨hp,g,d,tk,os⟩:=s
 have hT:∀Ph,(⟨hp,g,d,Ph,os⟩:Shared).TypeIs (.ref z) "zip":=fun _=>⟨_,hx,rfl⟩
 have f1:=sub_AttributeError
 have f3:=F.slot_zip_getattribute.lookup
 have f4:=F.slot_zip_getattribute.bind (.ref z)
 have f5:=qB
 unfold getAttr? getAttrBy? getAttrBy
 repeat (any_goals (first | (assumption) | exact hT _ | ((with_reducible show wpAny _ _ (call (Value.builtin "zip.__getattribute__") _ _) _ _ _);refine call_meets F.slot_zip_getattribute (hT _) u9 (F.args_zip_getattribute_2 _ _) (BZ z vs _) ⟨hx,hA,fun h' Ph e xk => ?_⟩) | wp_step))
 obtain ⟨t',u',he⟩:=xk.there
 show wpAny _ _ (getattributeRaised _ _ _ _ _ _ _) _ _ _
 unfold getattributeRaised
 repeat (any_goals (first | (assumption) | wp_step))
 exact h _ _ xk.keeps
theorem ot {z TI TO:Addr}{f0:Value}{Q:Value→Shared→Prop}(hA:A.in1.in1.handled=none)(hz:IsZip s.heap z TI TO f0)
  (hL:∀(h' :Heap) (tk:Nat) (R:Result→Shared→Prop),(∀b o,s.heap.get? b=some o→h'.get? b=some o)→h'.get? s.heap.objs.size=some {cls:=.type "dict",data:=.dict #[]}→
   (∀s',Q (.ref s.heap.objs.size) s' →R (.ok (.ret .none)) s')→codeAny (model prog w) A.in1 (.builtin "dict.update.loop" ⟨[.ref s.heap.objs.size,.ref z,rawInt 0,.none],[]⟩) R {s with heap:=h',toks:=tk}):
  wpAny (model prog w) A (call (.type "dict") [.ref z]) Q E s:=by
 refine callType_codes (Q₁:=fun obj s₁=>obj=.ref s.heap.objs.size∧s₁={s with heap:=s.heap.push {cls:=.type "dict",data:=.dict #[]}}) F.kt_called_dict (F.kt_typeCall_dict_1 _) F.entry_dict_init (kt_code_dict_new _ ⟨rfl,rfl⟩) ?_
 rintro obj s₁ ⟨rfl,rfl⟩
 have hS:(s.heap.push {cls:=.type "dict",data:=.dict #[]}).get? s.heap.objs.size=some {cls:=.type "dict",data:=.dict #[]}:=Heap.get?_push_size _ rfl
 have k0:∀b o,s.heap.get? b=some o→(s.heap.push {cls:=.type "dict",data:=.dict #[]}).get? b=some o:=fun b o e=>Heap.get?_push_of_some _ e
 generalize hN:s.heap.objs.size=S at hS hL ⊢
 generalize s.heap.push {cls:=.type "dict",data:=.dict #[]}=hp at hS k0 ⊢
 have HZ:hp.get? z=_:=k0 _ _ hz
 have Pj:Shared.TypeIs {s with heap:=hp} (.ref S) "dict":=⟨_,hS,rfl⟩
 have hT:Shared.TypeIs {s with heap:=hp} (.ref z) "zip":=⟨_,HZ,rfl⟩
 refine ⟨Pj,F.args_dict_init_2 _ _,?_⟩
 unfold Builtin.«dict.__init__»
 refine wpAny_bind ?_
 unfold Builtin.Dict.selfAndRest
 refine wpAny_bind (wpAny_notOrdered_dict Pj ?_)
 refine wpAny_pure ?_
 show wpAny _ _ (Builtin.Dict.updateFrom "dict.__init__" S (.ref z) [] .none) _ _ _
 unfold Builtin.Dict.updateFrom
 refine wpAny_bind (wpAny_typeOf hT ?_)
 rw [if_pos (by decide)]
 refine wpAny_bind (tD (s:={s with heap:=hp}) HZ hA fun h' tk k1=> ?_)
 rw [if_pos (by rfl)]
 refine wpAny_bind (wpAny_rule ?_)
 have W9:IsZip h' z TI TO f0:=k1 _ _ HZ
 refine wpAny_bind (wpAny_pyIter_zip (s:={s with heap:=h',toks:=tk}) W9 ?_)
 exact wpAny_pure ⟨plainId_quiet cH _,hL _ _ _ (fun b o e=>k1 _ _ (k0 _ _ e)) (k1 _ _ hS) fun s' hq=>⟨rfl,hq⟩⟩
end
section
variable {X:Cx}{pins:List (Addr×Obj)}{σ:L2.St}
theorem kh (kvs more:List (Key×V))(kv:Key×V):bD kvs (more++[kv])=putK (bD kvs more) kv.1 kv.2:=by
 unfold bD
 rw [List.foldl_append]
 rfl
theorem L8 {z TI TO i1 i2 a b S:Addr}{A' :Around}{R:Result→Shared→Prop}{ks:List Key}{ys:List V}{H0:Hp}(hh:A'.in1.handled=none)(D:ZipApart z TI TO i1 i2 a b)(na:a≠S)(nb:b≠S)(hk1:ks.length≤1000):
  ∀(k i:Nat) (s:Shared) (H:Hp),min ks.length ys.length - i=k→i≤min ks.length ys.length→Inv X pins σ H s→(∀c∈[z,TI,TO,i1,i2],gL X pins H c)→EX s.heap z TI TO i1 i2 a b S i→
  H a=some (.lst (ks.map kV))→H b=some (.lst ys)→H S=some (.dK (bD [] ((ks.zip ys).take i)))→bT S H0 H→
  (∀s' H',Inv X pins σ H' s' →bT S H0 H' →H' S=some (.dK (bD [] (ks.zip ys)))→R (.ok (.ret .none)) s')→
  codeAny (model X.prog X.w) A' (.builtin "dict.update.loop" ⟨[.ref S,.ref z,rawInt (i:Int),.none],[]⟩) R s:=by
 have apH:(ks.zip ys).length=min ks.length ys.length:=List.length_zip
 intro k
 induction k with
 | zero=>
  intro i s H hk hi I hf st ha hb hS L9 hR
  refine codeAny_builtin fL ?_
  rw [Around.under_plainId cH _]
  show wpAny _ A'.in1 (pyNext (.ref z) >>=_) _ _ s
  obtain ⟨z1,its,n1,r1,l1,e1⟩:=I.i8 ha
  obtain ⟨z2,Nw,n2,r2,l2,e2⟩:=I.i8 hb
  rw [aa_] at l1
  refine wpAny_bind (st.fin hh D ⟨_,e1,rfl,_,rfl⟩ ⟨_,e2,rfl,_,rfl⟩ ?_ fun h' kk=> ?_)
  ·by_cases c:ks.length≤i
   ·exact .inl (by simp;omega)
   ·exact .inr (by simp;omega)
  ·rw [afu (by omega)] at hS
   exact wpAny_bind (wpAny_pure (wpAny_pure (hR _ H (Inv.g7 (t' :=s.toks) I kk hf) L9 hS)))
 | succ k ih=>
  intro i s H hk hi I hf st ha hb hS L9 hR
  refine codeAny_builtin fL ?_
  rw [Around.under_plainId cH _]
  show wpAny _ A'.in1 (pyNext (.ref z) >>=_) _ _ s
  obtain ⟨z1,its,n1,r1,l1,e1⟩:=I.i8 ha
  obtain ⟨z2,Nw,n2,r2,l2,e2⟩:=I.i8 hb
  have lx:i < ks.length:=by omega
  have ly:i < ys.length:=by omega
  obtain ⟨u,hu,ru⟩:=r1.get (i:=i) (x:=kV ks[i]) (by rw [Wp,gE lx];rfl)
  obtain ⟨v,hv,rv⟩:=r2.get (i:=i) (x:=ys[i]) (gE ly)
  obtain ⟨zS0,apI,vs0,apJ,dd0⟩:=jd I.bI hS
  obtain ⟨oS,_,_,eS,_⟩:=id dd0
  refine wpAny_bind (st.item D eS ⟨_,e1,rfl,_,rfl⟩ ⟨_,e2,rfl,_,rfl⟩ (x:=u) (y:=v) (by simpa using hu) (by simpa using hv) fun h' uu ht kk=> ?_)
  have NG:∀c∈[z,TI,TO,i1,i2],c≠S:=fun c hc e=>by
   have:=(hf c hc).1
   rw [e,hS] at this
   cases this
  have I2:Inv X pins σ H {s with heap:=h',toks:=s.toks}:=Inv.g7 (t' :=s.toks) I kk hf
  obtain ⟨zS,W_,vs,rel,dd⟩:=jd I2.bI hS
  have hT:Shared.TypeIs {s with heap:=h',toks:=s.toks} (.ref s.heap.objs.size) "tuple":=⟨_,ht,rfl⟩
  refine wpAny_bind (wpAny_holding ?_)
  refine wpAny_bind (wpAny_tryCatch ?_)
  unfold Builtin.Dict.pairItems
  refine wpAny_bind (wpAny_typeOf hT ?_)
  rw [if_pos (by decide)]
  refine wpAny_bind (wpAny_seqItems ht rfl (wpAny_pure ?_))
  show wpAny _ A'.in1 (holding [u,v] (dictSet S u v)) _ _ _
  refine wpAny_holding ?_
  have hlen:vs.length≤sizeLine:=by rw [← rel.length];exact zS
  refine wpAny_dictSet_pairs (hsz:=hlen) (jc ru) dd fun h2 Pk sb=> ?_
  have he:∃q,h2.get? S=some q:=let ⟨q,_,_,hq,_⟩:=Pk;⟨q,hq⟩
  have Xa:(ks.zip ys).take (i+1)=(ks.zip ys).take i++[(ks[i],ys[i])]:=by
   rw [afN]
   have:(ks.zip ys)[i]? =some (ks[i],ys[i]):=by rw [List.getElem?_zip_eq_some];exact ⟨gE lx,gE ly⟩
   rw [this]
   rfl
  have B_:bD [] ((ks.zip ys).take (i+1))=putK (bD [] ((ks.zip ys).take i)) ks[i] ys[i]:=by rw [Xa,kh]
  have hl:(putK (bD [] ((ks.zip ys).take i)) ks[i] ys[i]).length≤sizeLine:=by
   rw [← B_]
   have h1:=dY ((ks.zip ys).take (i+1)) []
   rw [ae2,agu] at h1
   exact ad_ (show (bD [] ((ks.zip ys).take (i+1))).length≤1000 by omega) (by decide)
  have I3:Inv X pins σ (upd H S (.dK (putK (bD [] ((ks.zip ys).take i)) ks[i] ys[i]))) {s with heap:=h2,toks:=s.toks+1}:=g9 (s:={s with heap:=h',toks:=s.toks}) (t' :=s.toks+1) I2 (by rw [hS];exact True.intro) sb he (jL hl W_ (rel.put ks[i] rv) Pk)
  have kS:∀c o,c≠S→h'.get? c=some o→h2.get? c=some o:=fun c o n e=>(sb.2 c n).trans e
  refine wpAny_pure ⟨plainId_quiet cH _,?_⟩
  have nn:∀{c:Addr} {o:HO},H c=some o→c≠S→(upd H S (.dK (putK (bD [] ((ks.zip ys).take i)) ks[i] ys[i]))) c=some o:=fun {c o} e n=>by rw [aj n];exact e
  refine ih (i+1) _ _ (by omega) (by omega) I3 (fun c hc=> ?_) (uu.frame kS (NG z (by simp)) (NG TI (by simp)) (NG TO (by simp)) (NG i1 (by simp)) (NG i2 (by simp))) (nn ha na) (nn hb nb) (by rw [B_,ak]) (fun c o n e=>nn (L9 c o n e) n) hR
  obtain ⟨f0,f1,f2,f3,f4,f5⟩:=hf c hc
  exact ⟨by rw [aj (NG c hc)];exact f0,f1,f2,f3,f4,f5⟩
def L_ (ta:TA):TE:=fun σ H Q=>ta σ H fun vs H1=>∃(a b:Addr) (ks:List Key) (ys:List V),vs=[.ref a,.ref b]∧H1 a=some (.lst (ks.map kV))∧H1 b=some (.lst ys)∧ks.length≤1000∧
 ∀(l:Addr) (H' :Hp),av H1 H' →H1 l=none→H' l=some (.dK (bD [] (ks.zip ys)))→Q (.ref l) H'
theorem boot_dict:bootBuiltins "dict"=some (.type "dict"):=by decide+kernel
theorem CA {e1 e2:Expr}{ta:TA}{p pos p' pos' :Pos}(hc:X.calm=true)(hgl:Gl X "dict")(hml:X.mg "dict"=none)(hg:Gl X "zip")(hm:X.mg "zip"=none)(ha:PA X [e1,e2] ta)(hs:starEach [e1,e2] X.env=[(false,eval e1 X.env),(false,eval e2 X.env)]:=by rfl)(AG:starEach [e2] X.env=[(false,eval e2 X.env)]:=by rfl)
  (Vu:starEach [(.Call (.Name "zip" p) [e1,e2] [] pos:Expr)] X.env=[(false,eval (.Call (.Name "zip" p) [e1,e2] [] pos) X.env)]:=by rfl):
  PE X (.Call (.Name "dict" p') [.Call (.Name "zip" p) [e1,e2] [] pos] [] pos') (L_ ta):=by
 intro pins s σ H Q I h
 refine Call_ (gi I hgl hml boot_dict (PyProof.Rows.callWith_type1 ?_ Vu rfl))
 rw [Vu]
 show wpAny _ _ (spliced ((false,eval (.Call (.Name "zip" p) [e1,e2] [] pos) X.env)::[])) _ _ s
 refine Calls.spliced_cons ?_
 refine Call_ (gi I hg hm boot_zip (PyProof.Rows.callWith_type1 (b9 (ha pos pins s σ H _ I h) fun us s1 ⟨vs,H1,I1,r1,q1⟩=> ?_) (by rw [hs,AG]) (by rw [AG];rfl)))
 obtain ⟨a,b,ks,ys,e,hx,hy,Vz,q⟩:=q1
 subst e
 cases r1 with
 | cons r rr=>
  cases rr with
  | cons r' rr=>
   cases rr
   cases r
   cases r'
   obtain ⟨z1,its,n1,r1,l1,e1⟩:=I1.i8 hx
   obtain ⟨z2,Nw,n2,r2,l2,e2⟩:=I1.i8 hy
   have lt1:a < s1.heap.objs.size:=Heap.lt_size e1
   have lt2:b < s1.heap.objs.size:=Heap.lt_size e2
   refine call_zip_2 ⟨_,e1,rfl,_,rfl⟩ ⟨_,e2,rfl,_,rfl⟩ fun h' hz iG oQ Ko OP hsz hk=>Calls.spliced_nil ?_
   have I2:Inv X pins σ H1 {s1 with heap:=h',toks:=s1.toks}:=I1.kept (t' :=s1.toks) hk
   have hS:=I2.bI.fresh (aeG h'.objs.size)
   refine ot (s:={s1 with heap:=h' }) (I1.ok.hd hc) hz fun h2 tk R k2 Kv hR=> ?_
   have lt' :mainGlobals < h'.objs.size:=(I2.mod.glob.keeps I2.bk).lt
   have ns:(h'.objs.size==sysModules)=false:=beq_eq_false_iff_ne.mpr (ae8 (ae4 (aoH (by decide) lt')))
   have I3:Inv X pins σ (upd H1 h'.objs.size (.dK [])) {s1 with heap:=h2,toks:=tk}:=I2.laid (t' :=tk) k2 (aeG _) ⟨ae' _,ns,[],.nil,_,_,_,Kv,⟨rfl,rfl,rfl⟩,rfl,fun _ he=>by simp at he,Pairs.nil,agB⟩
   have st:EX h2 (s1.heap.objs.size+4) (s1.heap.objs.size+2) (s1.heap.objs.size+3) s1.heap.objs.size (s1.heap.objs.size+1) a b h'.objs.size 0:=
    ⟨.inl (k2 _ _ hz),k2 _ _ iG,⟨_,_,k2 _ _ oQ⟩,Ko.at fun o e=>k2 _ o e,OP.at fun o e=>k2 _ o e⟩
   have na:a≠h'.objs.size:=au hx hS
   have nb:b≠h'.objs.size:=au hy hS
   have CB:=o_ hS (.dK [])
   refine L8 (A' :=X.A.in1) (H0:=H1) (ks:=ks) (ys:=ys) (I1.ok.hd hc) ?_ na nb Vz (min ks.length ys.length) 0 _ _ (by omega) (ae' _) I3 (fun c' oF => ?_) st (CB _ _ hx) (CB _ _ hy) ak (fun b' o n e=>CB _ _ e) fun s' H' I' Xb HQ =>hR s' ⟨.ref h'.objs.size,H',I',rfl,q _ H' (fun b' o e=>Xb b' o (au e hS) e) hS HQ⟩
   ·constructor <;> (intro z;simp only [Addr] at*;omega)
   ·have VA:c' =s1.heap.objs.size+4∨c' =s1.heap.objs.size+2∨c' =s1.heap.objs.size+3∨c' =s1.heap.objs.size∨c' =s1.heap.objs.size+1:=by simpa using oF
    have hb:s1.heap.objs.size≤c' :=by
     simp only [Addr] at*
     omega
    have hb2:c' ≠h'.objs.size:=by
     rw [hsz]
     simp only [Addr] at*
     omega
    refine I1.jF hb ?_
    rw [aj hb2]
    exact I1.bI.fresh hb
end
theorem cX.snoc {K:Frag}{H:Hp}{us:List V}{qs:List (Int×Int)}{v:V}{q:Int×Int}(h:cX K H us qs)(n:j_ K H v q):cX K H (us++[v]) (qs++[q]):=by
 refine ⟨by simp [h.1],fun i u q' e1 e2=> ?_⟩
 have l:=h.1
 by_cases c:i < us.length
 ·rw [aeL c] at e1
  rw [aeL (by omega)] at e2
  exact h.2 i u q' e1 e2
 ·rw [aeP (by omega)] at e1 e2
  by_cases z:i - us.length=0
  ·rw [z] at e1
   rw [show i - qs.length=0 by omega] at e2
   cases e1
   cases e2
   exact n
  ·rw [aeE (by simp;omega)] at e1
   cases e1
theorem cX.a8 {K:Frag}{H H' :Hp}{us:List V}{qs:List (Int×Int)}(h:cX K H us qs)(s:bE H H'):cX K H' us qs:=⟨h.1,fun i u q e1 e2=>(h.2 i u q e1 e2).a8 s⟩
variable {X:Cx}
section
variable {X:Cx}{pins:List (Addr×Obj)}{σ:L2.St}{H:Hp}{s:Shared}
theorem Inv.laidIn {a:Addr}{o:HO}(I:Inv X pins σ H s)(f:gL X pins H a)(new:cB X.prog X.w (upd H a o) s.heap a o):Inv X pins σ (upd H a o) s:=by
 obtain ⟨f0,f1,f2,f3,f4,f5⟩:=f
 have nx:∀b u,H b=some u→upd H a o b=some u:=fun b u q=>by rw [aj (fun z=>by rw [z,f0] at q;cases q)];exact q
 refine ⟨I.ok,I.os,I.bare,⟨I.base.keep,I.base.slot,fun b ob q z hx=> ?_,I.base.there,fun b xs q=>nx b _ (I.base.n_ b xs q),fun b ob u' q=>nx b _ (I.base.lK b ob u' q),fun b ps q=> ?_⟩,I.loc,I.cell,?_,fun x c q=> ?_,fun p hp=> ?_,?_,I.len⟩
 ·rw [aj (fun e=> ?_)]
  ·exact I.base.free b ob q z hx
  ·rcases f3 with f3 | f3
   ·exact hx (e▸f3)
   ·exact absurd (Heap.lt_size q) (by rw [e];exact Nat.not_lt.mpr f3)
 ·obtain ⟨m,z⟩:=I.base.oa b ps q
  exact ⟨m,nx b _ z⟩
 ·rw [aj (ae8 f1)]
  exact I.free
 ·rw [aj (f4 x c q)]
  exact I.gD x c q
 ·obtain ⟨a1,a2,a3⟩:=I.pin p hp
  exact ⟨a1,by rw [aj (f5 p hp)];exact a2,a3⟩
 ·intro b u q
  by_cases hb:b=a
  ·subst hb
   rw [ak] at q
   cases q
   exact new
  ·rw [aj hb] at q
   exact (I.bI b u q).nZ (fun _ _ _ z=>z) (fun c z=>nx c _ z) fun c xs z=>nx c _ z
theorem pd:∀(as:List Addr) (kvs:List (Key×V)) (H:Hp),Inv X pins σ H s→as.Pairwise (· < ·)→(∀a∈as,gL X pins H a)→as.length=kvs.length→
  (∀(j:Nat) (a:Addr) (kv:Key×V),as[j]? =some a→kvs[j]? =some kv→∃its,Vals [kV kv.1,kv.2] its∧IsTup s.heap a its.toArray)→
  ∃H',Inv X pins σ H' s∧(∀b,b∉as→H' b=H b)∧∀(j:Nat) (a:Addr) (kv:Key×V),as[j]? =some a→kvs[j]? =some kv→H' a=some (.tup [kV kv.1,kv.2])
 | [],kvs,H,I,_,_,_,_=>⟨H,I,fun _ _=>rfl,fun j a kv e=>by simp at e⟩
 | a::as,[],H,_,_,_,hl,_=>by simp at hl
 | a::as,kv::kvs,H,I,hr,hf,hl,hp=>by
  obtain ⟨r1,r2⟩:=ao7.mp hr
  obtain ⟨its,v,t⟩:=hp 0 a kv rfl rfl
  have I2:=Inv.laidIn (o:=.tup [kV kv.1,kv.2]) I (hf a aeI) ⟨by show 2≤sizeLine;decide,its,v,t⟩
  obtain ⟨H',I',k',t'⟩:=pd as kvs _ I2 r2 (fun b hb=>by
   obtain ⟨f0,f1⟩:=hf b (aeF _ hb)
   exact ⟨by rw [aj (afW (r1 b hb))];exact f0,f1⟩) (by simpa using hl) (fun j b VB e1 e2=>hp (j+1) b VB (by simpa using e1) (by simpa using e2))
  have na:a∉as:=fun z=>afj _ (r1 a z)
  refine ⟨H',I',fun b hb=> ?_,fun j b VB e1 e2=> ?_⟩
  ·rw [k' b (fun z=>hb (aeF _ z)),aj (fun z=>hb (by rw [z];exact aeI))]
  ·cases j with
   | zero=>
    cases e1
    cases e2
    rw [k' a na,ak]
   | succ j=>exact t' j b VB (by simpa using e1) (by simpa using e2)
inductive tE (Q:VK)(x:V)(H1:Hp):Prop where
 | mk (d kvs:_) (_:x=.ref d) (_:H1 d=some (.dK kvs)) (_:∀(l:Addr) (us:List V) (H' :Hp),av H1 H' →H1 l=none→H' l=some (.lst us)→Paired (fun u (kv:Key×V)=>∃p,u=.ref p∧H' p=some (.tup [kV kv.1,kv.2])) us kvs→Q (.ref l) H'):tE Q x H1
def H_ (te:TE):TE:=fun σ H Q=>te σ H fun x H1=>tE Q x H1
theorem jS {e:Expr}{te:TE}{apos dJ p pos:Pos}(hc:X.calm=true)(hg:Gl X "list")(hm:X.mg "list"=none)(ho:PE X e te)(lV:attributeBase e "items" X.env (eval e X.env)=eval e X.env:=by rfl)(lW:(apos.endLine==dJ.line)=true:=by rfl)
  (hs:starEach [(.Call (.Attribute e "items" apos) [] [] dJ:Expr)] X.env=[(false,eval (.Call (.Attribute e "items" apos) [] [] dJ) X.env)]:=by rfl):
  PE X (.Call (.Name "list" p) [.Call (.Attribute e "items" apos) [] [] dJ] [] pos) (H_ te):=by
 intro pins s σ H Q I h
 refine Call_ (gi I hg hm boot_list (PyProof.Rows.callWith_type1 ?_ hs rfl))
 rw [hs]
 show wpAny _ _ (spliced ((false,eval (.Call (.Attribute e "items" apos) [] [] dJ) X.env)::[])) _ _ s
 refine Calls.spliced_cons ?_
 refine wpAny_Call_method0_late lV lW (b9 (ho pins s σ H _ I h) fun v s1 ⟨x,H1,I1,r1,q1⟩=> ?_)
 obtain ⟨d,kvs,rfl,e,q⟩:=q1
 cases r1
 obtain ⟨h1,h2,hd⟩:=uV I1 (.inl ⟨kvs,.inl e⟩)
 obtain ⟨z,FY,vs,rel,o,OY,ep,Ks,hx,ig,hk,hp,hn⟩:=jd I1.bI e
 have da:s1.heap.DictAt (bx X.prog X.w) d vs ep:=⟨o,OY,Ks,hx,ig,hk,hp,hn⟩
 have lv:=rel.length
 refine ⟨"dict","dict.items",F.plainAttrs_dict,F.slot_dict_items,F.type_dict_items,h1,h2,Calls.callWith_builtin rfl (PySem.evalArgs_none ?_)⟩
 refine call_meetsIn F.slot_dict_items h1 F.entry_dict_items (F.args_dict_items_1 _) (meets_dict_items (bx X.prog X.w) d hd) ⟨⟨vs,da.dictOf⟩,Calls.spliced_nil ?_⟩
 have WX:(s1.heap.push {cls:=.type "dict_items",data:=.fields #[.ref d]}).DictAt (bx X.prog X.w) d vs ep:=da.at' fun o e=>Heap.get?_push_of_some _ e
 have I2:Inv X pins σ H1 {s1 with heap:=s1.heap.push {cls:=.type "dict_items",data:=.fields #[.ref d]},toks:=s1.toks}:=I1.kept (t' :=s1.toks) fun b o e=>Heap.get?_push_of_some _ e
 refine PySem.W.kdx_call (s:={s1 with heap:=s1.heap.push {cls:=.type "dict_items",data:=.fields #[.ref d]}}) (knd:=bx X.prog X.w) (r:=s1.heap.objs.size) (kvs:=vs) (ep:=ep) (I1.ok.hd hc) ⟨_,Heap.get?_push_size _ rfl,rfl,rfl⟩ WX (by omega) fun h' tk acc c as kk hS hl hG oq=> ?_
 generalize AG:(s1.heap.push {cls:=.type "dict_items",data:=.fields #[.ref d]})=Kb at*
 have N3 :=I2.bI.fresh (aeG Kb.objs.size)
 have sz:as.length≤sizeLine:=by omega
 have I3:Inv X pins σ H1 {s1 with heap:=h',toks:=tk}:=I2.kept (t' :=tk) kk
 have fp:∀{b:Addr},Kb.objs.size≤b→gL X pins H1 b:=fun {b} hb=>I2.jF hb (I2.bI.fresh hb)
 have I4:=Inv.laidIn (o:=.lst (as.map V.ref)) I3 (fp (aeG _)) ⟨by rw [aa_];exact sz,acc.toList,c,by
  rw [oq]
  exact eY (by simp) fun i a b e1 e2=>by
   rw [Wp] at e1 e2
   obtain ⟨x,ex,rfl⟩:=aeN.mp e1
   rw [ex] at e2
   cases e2
   rfl,by simpa using hS⟩
 obtain ⟨H',I5,k5,t5⟩:=pd as kvs _ I4 hG.rise (fun a ha=>by
  obtain ⟨f0,f1⟩:=fp (afl (hG.above a ha))
  exact ⟨by rw [aj (afW (hG.above a ha))];exact f0,f1⟩) (by omega) (fun j a kv e1 e2=>by
  obtain ⟨key,k,x,g1,g2,g3⟩:=hG.pairs j a e1
  obtain ⟨q',eq,e3,e4⟩:=aE rel e2
  rw [eq] at g1
  cases g1
  exact ⟨[key,x],.cons (by rw [e3];exact k_ g2) (.cons e4 .nil),⟨_,g3,rfl,_,rfl⟩⟩)
 have nS:Kb.objs.size∉as:=fun z=>afj _ (hG.above _ z)
 refine ⟨.ref _,H',I5,rfl,q _ (as.map V.ref) H' (fun b o eb=> ?_) N3 (by rw [k5 _ nS,ak]) (eY (by rw [aa_];omega) fun i u kv e1 e2=> ?_)⟩
 ·have nb:∀{b' :Addr},Kb.objs.size≤b' →b≠b' :=fun {b'} hb z=>by rw [z,(fp hb).1] at eb;cases eb
  rw [k5 b (fun z=>nb (afl (hG.above b z)) rfl),aj (nb (aeG _))]
  exact eb
 ·rw [Wp] at e1
  obtain ⟨a,ea,rfl⟩:=aeN.mp e1
  exact ⟨a,rfl,t5 i a kv ea e2⟩
end
section
variable {X:Cx}{o e:Expr}{es:List Expr}{to:TE}{t:TA}{name:Str}{apos dJ:Pos}{T id:String}{r:V→List V→Hp→VK→Prop}
end
section
variable {X:Cx}
end
section
variable {D:Addr}{te:TE}{cap:L2.St}{H1:Hp}{Q:VK}
end
section
variable {X:Cx}{K:Frag}
inductive Pl (K:Frag)(x:V)(y:V)(H:Hp)(Q:VK):Prop where
 | mk (p xs i v:_) (_:x=.ref p) (_:y=.int i) (_:aU K H p xs∨bL K H p xs) (_:fN xs i=some v) (_:Q v H):Pl K x y H Q
theorem wo:Ls X (Pl X.K):=by
 intro value slice pins s σ H x y v u Q I rx ry h hs
 obtain ⟨p,xs,i,z,e1,e2,hq,he,q⟩:=h
 rcases hq with hq | hq
 ·exact aX value slice pins s σ H x y v u Q I rx ry ⟨p,xs,i,z,e1,e2,hq,he,q⟩ hs
 ·exact iE value slice pins s σ H x y v u Q I rx ry ⟨p,xs,i,z,e1,e2,hq,he,q⟩ hs
inductive tF (Q:VK)(x:V)(H1:Hp):Prop where
 | mk (d kvs:_) (_:x=.ref d) (_:H1 d=some (.dK kvs)) (_:Q .cE (upd H1 d (.dK []))):tF Q x H1
def IA (te:TE):TE:=fun σ H Q=>te σ H fun x H1=>tF Q x H1
theorem x6 {e:Expr}{te:TE}{apos dJ:Pos}(ho:PE X e te)(lV:attributeBase e "clear" X.env (eval e X.env)=eval e X.env:=by rfl)(lW:(apos.endLine==dJ.line)=true:=by rfl):
  PE X (.Call (.Attribute e "clear" apos) [] [] dJ) (IA te):=by
 intro pins s σ H Q I h
 refine wpAny_Call_method0_late lV lW (b9 (ho pins s σ H _ I h) fun v s1 ⟨x,H1,I1,r1,q1⟩=> ?_)
 obtain ⟨d,kvs,rfl,e,q⟩:=q1
 cases r1
 obtain ⟨h1,h2,hd⟩:=uV I1 (.inl ⟨kvs,.inl e⟩)
 refine ⟨"dict","dict.clear",F.plainAttrs_dict,F.slot_dict_clear,F.type_dict_clear,h1,h2,Calls.callWith_builtin rfl (PySem.evalArgs_none ?_)⟩
 exact HK I1 e fun s' I3=>⟨.cE,_,I3,rfl,q⟩
end
section
variable {D:Addr}{te:TE}{cap:L2.St}{H1:Hp}{Q:VK}
theorem u_ {K:Frag}{a:Addr}{xs:List V}(J:List V→Hp→Prop)(nD:H1 D=none)(hn:xs.length < sizeLine)(hS:∀H,av H1 H→aU K H a xs)(h0:J [] (upd H1 D (.lst [])))
  (he:∀(i:Nat) x ys H (R:VK),xs[i]? =some x→ys.length=i→J ys H→av H1 H→H D=some (.lst ys)→(∀v H6,av H H6→J (ys++[v]) (upd H6 D (.lst (ys++[v])))→R v H6)→te (some x::cap) H R)
  (hd:∀ys H,ys.length=xs.length→J ys H→av H1 H→H D=some (.lst ys)→Q (.ref D) H):
  kJ D (cZ 0) jb te (GB K a) (none::cap) H1 Q:=by
 refine uR xs.length (fun i=>(xs[i]?).getD .cE) (fun i ys H=>ys.length=i∧J ys H∧av H1 H) ⟨rfl,h0,fun b o e=>by rw [aj (au e nD)];exact e⟩ ?_ ?_ ?_ ?_
 ·rintro i ys H hi ⟨_,_,s⟩
  exact ⟨⟨xs,xs[i],hS H s,gE hi⟩,fun x H' y=>⟨y.1,by rw [y.2 xs (hS H s)];rfl⟩⟩
 ·rintro ys H ⟨_,_,s⟩
  exact ⟨xs,hS H s,aeG _⟩
 ·rintro i ys H R hi ⟨l,j,s⟩ hD k
  have e:xs[i]? =some xs[i]:=gE hi
  have k' :=he i _ ys H R e l j s hD fun v H6 s6 jv=>k v H6 (s6 _ _ hD) (by omega) ⟨by simp [l],jv,fun b o e=>by rw [aj (au e nD)];exact s6 _ _ (s _ _ e)⟩
  rw [← (show (xs[i]?).getD .cE=xs[i] by rw [e];rfl)] at k'
  exact k'
 ·rintro ys H ⟨l,j,s⟩ hD
  exact hd ys H l j s hD
end
end Ty
set_option maxHeartbeats 4000000
namespace Ty
theorem pe {α:Type}[DecidableEq α]:∀{l m:List α},l.Nodup→(∀x∈l,x∈m)→l.length≤m.length
 | [],_,_,_=>ae' _
 | x::l,m,h,k=>by
  obtain ⟨h1,h2⟩:=ae9.mp h
  have hx:=k x aeI
  have:=pe (l:=l) (m:=m.erase x) h2 fun y hy=>(List.mem_erase_of_ne (fun z:y=x=>h1 (by rw [← z];exact hy))).mpr (k y (aeF _ hy))
  rw [List.length_erase_of_mem hx] at this
  have p:=List.length_pos_of_mem hx
  show l.length+1≤m.length
  omega
def box (B:Nat):Nat→List (List Int)
 | 0=>[[]]
 | n+1=>(box B n).flatMap fun y=>(afV (B+1)).map fun (a:Nat)=>(a:Int)::y
theorem wu {α:Type}(c:Nat):∀l:List α,(l.map fun _=>c).sum=l.length*c
 | []=>by simp
 | _::l=>by
  rw [ac_,ae5,wu c l,ae6,afx]
  omega
theorem qC (B:Nat):∀n,(box B n).length=(B+1)^n
 | 0=>rfl
 | n+1=>by
  have ih:=qC B n
  unfold box
  rw [List.length_flatMap]
  have:((box B n).map fun y=>((afV (B+1)).map fun (a:Nat)=>(a:Int)::y).length)=(box B n).map fun _=>B+1:=ae3 fun y _=>by rw [aa_,List.length_range]
  rw [this,wu,ih,age]
theorem ph (B:Nat):∀n,(box B n).Nodup
 | 0=>by simp [box]
 | n+1=>by
  have ih:=ph B n
  unfold box
  unfold ao5 at ih ⊢
  rw [List.pairwise_flatMap]
  refine ⟨fun y _=> ?_,ih.imp fun {y1 y2} ne x hx z hz e=> ?_⟩
  ·rw [agg]
   exact List.nodup_range.imp fun {a b} ne e=>ne (by injection e with e _;exact Int.ofNat.inj e)
  ·obtain ⟨a,_,rfl⟩:=abt.mp hx
   obtain ⟨b,_,rfl⟩:=abt.mp hz
   injection e with _ e
   exact ne e
theorem hW {B:Nat}:∀{n:Nat} {y:List Int},y∈box B n ↔ y.length=n∧∀a∈y,0≤a∧a≤(B:Int)
 | 0,y=>by
  unfold box
  rw [aeH]
  constructor
  ·intro e
   rw [e]
   exact ⟨rfl,fun a h=>nomatch h⟩
  ·intro h
   exact anX.mp h.1
 | n+1,y=>by
  unfold box
  rw [afA]
  constructor
  ·rintro ⟨z,hz,hy⟩
   obtain ⟨a,ha,rfl⟩:=abt.mp hy
   obtain ⟨h1,h2⟩:=(hW (n:=n)).mp hz
   have:=afS.mp ha
   refine ⟨by simp [h1],fun b hb=> ?_⟩
   rcases ae1.mp hb with e | e
   ·rw [e]
    omega
   ·exact h2 b e
  ·rintro ⟨h1,h2⟩
   match y,h1 with
   | a::z,h1=>
    have ha:=h2 a aeI
    refine ⟨z,(hW (n:=n)).mpr ⟨by simpa using h1,fun b hb=>h2 b (aeF _ hb)⟩,abt.mpr ⟨a.toNat,afS.mpr (show a.toNat < B+1 by omega),?_⟩⟩
    rw [show ((a.toNat:Nat):Int)=a by omega]
def f':List Int→List Int→Int
 | a::e,b::y=>a*b+f' e y
 | _,_=>0
theorem tG:∀(e:List Int) {y z:List Int},y.length=z.length→f' e (afm (fun a b=>a - b) y z)=f' e y - f' e z
 | [],y,z,h=>by simp [f']
 | a::e,[],[],h=>by simp [f']
 | a::e,b::y,c::z,h=>by
  have ih:=tG e (y:=y) (z:=z) (by simpa using h)
  rw [aoI]
  simp only [f']
  rw [ih,Int.mul_sub]
  omega
theorem wz {A B:Nat}:∀{e y:List Int},(∀a∈e,a.natAbs≤A)→(∀b∈y,b.natAbs≤B)→(f' e y).natAbs≤e.length*(A*B)
 | [],y,_,_=>by simp [f']
 | a::e,[],_,_=>by simp [f']
 | a::e,b::y,h1,h2=>by
  have ih:=wz (e:=e) (y:=y) (fun x hx=>h1 x (aeF _ hx)) fun x hx=>h2 x (aeF _ hx)
  simp only [f']
  have m:(a*b).natAbs≤A*B:=by
   rw [afB]
   exact afn (h1 a aeI) (h2 b aeI)
  have t:=af6 (a*b) (f' e y)
  rw [ae6,afx,aoV]
  omega
theorem CC {n A:Nat}{eqs:List (List Int)}(hn:eqs.length < n)(hA:1≤A)(he:∀e∈eqs,e.length=n∧∀a∈e,a.natAbs≤A):∃z:List Int,z.length=n∧(∃a∈z,a≠0)∧(∀a∈z,a.natAbs≤(2*n*A)^eqs.length)∧∀e∈eqs,f' e z=0:=by
 generalize hC:2*n*A=C
 generalize hB:C^eqs.length=B
 have c1:1≤C:=by
  rw [← hC]
  exact afn (show 1≤2*n by omega) hA
 generalize hM:n*(A*B)=M
 have key:¬ ∀y∈box B n,∀z∈box B n,(eqs.map fun e=>f' e y+(M:Int))=(eqs.map fun e=>f' e z+(M:Int))→y=z:=by
  intro inj
  have nd:((box B n).map fun y=>eqs.map fun e=>f' e y+(M:Int)).Nodup:=by
   unfold ao5
   rw [agg]
   refine al_ (fun {y z} hy hz ne e=>ne (inj y hy z hz e)) (ph B n)
  have le:=pe nd (m:=box (2*M) eqs.length) fun x hx=>by
   obtain ⟨y,hy,rfl⟩:=abt.mp hx
   obtain ⟨ly,Xc⟩:=hW.mp hy
   refine hW.mpr ⟨by simp,fun a ha=> ?_⟩
   obtain ⟨e,VC,rfl⟩:=abt.mp ha
   have b1:=wz (A:=A) (B:=B) (he e VC).2 (y:=y) fun b hb=>by
    have:=Xc b hb
    omega
   rw [(he e VC).1,hM] at b1
   omega
  rw [aa_,qC,qC] at le
  have e1:2*M+1≤C*(B+1):=by
   have e3:2*M=C*B:=by rw [← hM, ← hC, ← Nat.mul_assoc, ← Nat.mul_assoc]
   rw [e3,Nat.mul_add]
   omega
  have e2:(2*M+1)^eqs.length≤B*(B+1)^eqs.length:=by
   have:=agw e1 eqs.length
   rw [Nat.mul_pow,hB] at this
   exact this
  have e4:(B+1)^(eqs.length+1)≤(B+1)^n:=ae0 (by omega) hn
  have e5:B*(B+1)^eqs.length < (B+1)^(eqs.length+1):=by
   rw [age,agx ((B+1)^eqs.length)]
   exact Nat.mul_lt_mul_of_pos_right (afe B) (Nat.pow_pos (by omega))
  omega
 obtain ⟨y,k1⟩:=aoW.mp key
 obtain ⟨hy,k2⟩:=aku.mp k1
 obtain ⟨z,k3⟩:=aoW.mp k2
 obtain ⟨hz,k4⟩:=aku.mp k3
 obtain ⟨ee,ne⟩:=aku.mp k4
 obtain ⟨ly,Xc⟩:=hW.mp hy
 obtain ⟨lz,bz⟩:=hW.mp hz
 have hl:y.length=z.length:=by omega
 refine ⟨afm (fun a b=>a - b) y z,by rw [List.length_zipWith];omega,?_,?_,fun e VC=> ?_⟩
 ·apply afy
  intro h
  refine ne (List.ext_getElem hl fun i h1 h2=> ?_)
  have h' :∀a∈afm (fun a b=>a - b) y z,a=0:=fun a ha=>afy fun q=>h ⟨a,ha,q⟩
  have m:y[i] - z[i]∈afm (fun a b=>a - b) y z:=by
   refine ir (i:=i) ?_
   rw [afG,gE h1,gE h2]
  have:=h' _ m
  omega
 ·intro a ha
  obtain ⟨i,ei⟩:=aeK ha
  rw [afG] at ei
  have hi:i < y.length:=by
   apply afy
   intro q
   rw [aeE (by omega)] at ei
   cases ei
  rw [gE hi,gE (show i < z.length by omega)] at ei
  have ea:y[i] - z[i]=a:=aeY ei
  have q1:=Xc _ (afz hi)
  have q2:=bz _ (afz (show i < z.length by omega))
  omega
 ·rw [tG e hl]
  obtain ⟨i,ei⟩:=aeK VC
  have e1:=congrArg (fun l:List Int=>l[i]?) ee
  simp only [Wp,ei,af0,Option.some.injEq] at e1
  omega
def col (l:List Int)(j:Nat):Rat:=((l.getD j 0:Int):Rat)
inductive cI (A:List (List Int)):(Nat→Rat)→Prop
 | zero:cI A (fun _=>0)
 | put {f:Nat→Rat} (c:Rat) {a:List Int} (h:a∈A) (hf:cI A f):cI A (fun j=>f j+c*col a j)
theorem cI.congr {A:List (List Int)}{f g:Nat→Rat}(h:cI A f)(e:∀j,f j=g j):cI A g:=(funext e:f=g)▸h
theorem cI.add {A:List (List Int)}{f g:Nat→Rat}(hf:cI A f)(hg:cI A g):cI A (fun j=>f j+g j):=by
 induction hg with
 | zero=>exact hf.congr fun j=>by grind
 | put c h _ ih=>exact (cI.put c h ih).congr fun j=>by grind
theorem cI.mul {A:List (List Int)}{f:Nat→Rat}(k:Rat)(hf:cI A f):cI A (fun j=>k*f j):=by
 induction hf with
 | zero=>exact cI.zero.congr fun j=>by grind
 | put c h _ ih=>exact (cI.put (k*c) h ih).congr fun j=>by grind
theorem cI.mem {A:List (List Int)}{a:List Int}(h:a∈A):cI A (col a):=(cI.put 1 h cI.zero).congr fun j=>by grind
theorem cI.trans {A B:List (List Int)}{f:Nat→Rat}(hf:cI A f)(h:∀a∈A,cI B (col a)):cI B f:=by
 induction hf with
 | zero=>exact cI.zero
 | put c ha _ ih=>exact ih.add ((h _ ha).mul c)
theorem cI.mono {A B:List (List Int)}{f:Nat→Rat}(hf:cI A f)(h:∀a∈A,a∈B):cI B f:=hf.trans fun a ha=>cI.mem (h a ha)
theorem cI.first {l:List Int}{A:List (List Int)}{f:Nat→Rat}(hf:cI (l::A) f):∃a:Rat,cI A (fun j=>f j - a*col l j):=by
 induction hf with
 | zero=>exact ⟨0,cI.zero.congr fun j=>by grind⟩
 | put c h _ ih=>
  obtain ⟨a,ha⟩:=ih
  rcases ae1.mp h with e | e
  ·subst e
   exact ⟨a+c,ha.congr fun j=>by grind⟩
  ·exact ⟨a,(cI.put c e ha).congr fun j=>by grind⟩
theorem cI.last {l:List Int}{A:List (List Int)}{f:Nat→Rat}(hf:cI (A++[l]) f):∃a:Rat,cI A (fun j=>f j - a*col l j):=cI.first (hf.mono fun a ha=>by
 rcases aeM.mp ha with z | z
 ·exact aeF _ z
 ·rw [aeH.mp z]
  exact aeI)
theorem cI.van {A:List (List Int)}{f:Nat→Rat}{c:Nat}(hf:cI A f)(h:∀a∈A,col a c=0):f c=0:=by
 induction hf with
 | zero=>rfl
 | put k ha _ ih=>
  dsimp only
  rw [ih,h _ ha]
  grind
structure zE (nd:List (Nat×List Int)):Prop where
 nn:(nd.map (·.1)).Nodup
 here:∀x∈nd,x.2.getD x.1 0≠0
 off:∀x∈nd,∀y∈nd,x.1≠y.1→x.2.getD y.1 0=0
theorem zE.zero:∀{nd:List (Nat×List Int)} {f:Nat→Rat},zE nd→cI (nd.map (·.2)) f→(∀x∈nd,f x.1=0)→∀j,f j=0
 | [],f,_,hf,_=>fun j=>by
  have:∀{g:Nat→Rat},cI [] g→g j=0:=fun {g} h=>h.van fun a ha=>nomatch ha
  exact this hf
 | x::r,f,P,hf,hz=>by
  obtain ⟨a,ha⟩:=cI.first hf
  have nn:=ae9.mp P.nn
  have v:f x.1 - a*col x.2 x.1=0:=ha.van (c:=x.1) fun b hb=>by
   obtain ⟨y,hy,rfl⟩:=abt.mp hb
   unfold col
   rw [P.off y (aeF _ hy) x aeI (fun z=>nn.1 (by show x.1∈_;rw [← z];exact abt.mpr ⟨y,hy,rfl⟩))]
   rfl
  rw [hz x aeI] at v
  have zC:col x.2 x.1≠0:=cG (P.here x aeI)
  have a0:a=0:=by grind
  subst a0
  have P' :zE r:=⟨nn.2,fun y hy=>P.here y (aeF _ hy),fun y hy z hz=>P.off y (aeF _ hy) z (aeF _ hz)⟩
  exact zE.zero P' (ha.congr (g:=f) fun j=>by grind) fun y hy=>hz y (aeF _ hy)
theorem zE.one {nd:List (Nat×List Int)}{f:Nat→Rat}(P:zE nd)(hf:cI (nd.map (·.2)) f){x:Nat×List Int}(hx:x∈nd)(hz:∀y∈nd,y.1≠x.1→f y.1=0):∃a:Rat,∀j,f j=a*col x.2 j:=by
 have zC:col x.2 x.1≠0:=cG (P.here x hx)
 refine ⟨f x.1 / col x.2 x.1,fun j=> ?_⟩
 have g:cI (nd.map (·.2)) fun j=>f j+ -(f x.1 / col x.2 x.1)*col x.2 j:=cI.put _ (abt.mpr ⟨x,hx,rfl⟩) hf
 have:=P.zero g (fun y hy=>by
  by_cases c:y.1=x.1
  ·rw [c]
   grind
  ·rw [hz y hy c]
   have:col x.2 y.1=0:=by
    unfold col
    rw [P.off x hx y hy (ae8 c)]
    rfl
   rw [this]
   grind) j
 grind
def ix:List Int→List (List Int)→Nat→Int
 | z::zs,a::A,j=>z*a.getD j 0+ix zs A j
 | _,_,_=>0
theorem jf:∀(zs:List Int) (A:List (List Int)),cI A (fun j=>((ix zs A j:Int):Rat))
 | [],A=>cI.zero.congr fun j=>by simp [ix]
 | _::_,[]=>cI.zero.congr fun j=>by simp [ix]
 | z::zs,a::A=>by
  have ih:=(jf zs A).mono (B:=a::A) fun b hb=>aeF _ hb
  refine (cI.put (z:Rat) (aeI) ih).congr fun j=> ?_
  simp only [ix,col]
  push_cast
  grind
theorem qD (c:Nat):∀(zs:List Int) (A:List (List Int)),f' (A.map fun a=>a.getD c 0) zs=ix zs A c
 | [],A=>by cases A <;> simp [ix,f']
 | _::_,[]=>by simp [ix,f']
 | z::zs,a::A=>by
  simp only [ac_,f',ix]
  rw [qD c zs A,afL]
theorem vb {Z E:Nat}(j:Nat):∀{zs:List Int} {A:List (List Int)},(∀z∈zs,z.natAbs≤Z)→(∀a∈A,(a.getD j 0).natAbs≤E)→(ix zs A j).natAbs≤A.length*(Z*E)
 | [],A,_,_=>by simp [ix]
 | _::_,[],_,_=>by simp [ix]
 | z::zs,a::A,h1,h2=>by
  have ih:=vb j (zs:=zs) (A:=A) (fun x hx=>h1 x (aeF _ hx)) fun x hx=>h2 x (aeF _ hx)
  simp only [ix]
  have m:(z*a.getD j 0).natAbs≤Z*E:=by
   rw [afB]
   exact afn (h1 z aeI) (h2 a aeI)
  have t:=af6 (z*a.getD j 0) (ix zs A j)
  rw [ae6,afx,aoV]
  omega
theorem mN (j:Nat):∀{zs:List Int} {A:List (List Int)} (z:Int) (a:List Int),zs.length=A.length→ix (zs++[z]) (A++[a]) j=ix zs A j+z*a.getD j 0
 | [],[],z,a,_=>by simp [ix]
 | y::zs,b::A,z,a,h=>by
  have ih:=mN j (zs:=zs) (A:=A) z a (by simpa using h)
  simp only [af8,ix]
  rw [ih]
  omega
def Pm (l:List Int):Prop:=∀d:Int,(∀j,d ∣ l.getD j 0)→d.natAbs=1
theorem CD {l:List Int}(p:Pm l){v:Nat→Int}{a:Rat}(ha:a≠0)(h:∀j,((v j:Int):Rat)=a*col l j)(j:Nat):(l.getD j 0).natAbs≤(v j).natAbs:=by
 have e:∀j,v j*(a.den:Int)=a.num*l.getD j 0:=fun j=>by
  have h1:=h j
  have h2:a=(a.num:Rat) / ((a.den:Int):Rat):=by
   rw [← apd]
   exact (ao4 a).symm
  have hd:((a.den:Int):Rat)≠0:=cG (by have:=a.den_pos;omega)
  rw [h2] at h1
  unfold col at h1
  have h3:((v j*(a.den:Int):Int):Rat)=((a.num*l.getD j 0:Int):Rat):=by
   rw [afp,afp]
   generalize ((a.den:Int):Rat)=D at hd h1
   grind
  exact af'.mp h3
 have dv:∀j,(a.den:Int) ∣ l.getD j 0:=fun j=>by
  have h1:a.den ∣ a.num.natAbs*(l.getD j 0).natAbs:=by
   rw [← afB, ← e j,afB]
   exact ⟨(v j).natAbs,by rw [agx];rfl⟩
  have h2:=Nat.Coprime.dvd_of_dvd_mul_left (Nat.Coprime.symm a.reduced) h1
  exact af2.mp (by simpa using h2)
 have d1:a.den=1:=by simpa using p _ dv
 have ej:=e j
 rw [d1] at ej
 have n0:a.num≠0:=fun z=>ha (Rat.num_eq_zero.mp z)
 have:v j=a.num*l.getD j 0:=by simpa using ej
 rw [this,afB]
 exact Nat.le_mul_of_pos_left _ (by omega)
theorem CG {l:List Int}(p:Pm l):¬ ∀j,l.getD j 0=0:=fun h=>by
 have:=p 0 fun j=>by rw [h j];exact Int.dvd_refl 0
 simp at this
structure zF (os:List (List Int))(nd:List (Nat×List Int))(lv ps qs:List (List Int)):Prop where
 po:∀p∈ps,p∈os
 qo:∀q∈qs,q∈os
 lp:ps.length=nd.length
 lq:qs.length=lv.length
 s1:∀x∈nd,cI ps (col x.2)
 s2:∀p∈ps,cI (nd.map (·.2)) (col p)
 s3:∀(i:Nat) (l q:List Int),lv[i]? =some l→qs[i]? =some q→cI (ps++[q]) (col l)∧cI (nd.map (·.2)++[l]) (col q)
 ind:∀zs:List Int,zs.length=ps.length→(∀j,ix zs ps j=0)→∀a∈zs,a=0
theorem zF.start (os:List (List Int)):zF os [] os [] os:=by
 refine ⟨by simp,fun q hq=>hq,rfl,rfl,by simp,by simp,fun i l q e1 e2=> ?_,fun zs h _ a ha=> ?_⟩
 ·rw [e1] at e2
  cases e2
  exact ⟨cI.mem (by simp),cI.mem (by simp)⟩
 ·rw [anX.mp h] at ha
  cases ha
theorem zE.cols {nd:List (Nat×List Int)}(P:zE nd){l:List Int}(hl:cI (nd.map (·.2)) (col l))(hz:∀x∈nd,l.getD x.1 0=0):∀j,l.getD j 0=0:=fun j=>by
 have:=P.zero hl (fun x hx=>by unfold col;rw [hz x hx];rfl) j
 unfold col at this
 exact af'.mp (this.trans (by rfl))
theorem tH {A:List (List Int)}{b c:Nat}(hA:∀a∈A,∀j,(a.getD j 0).natAbs≤2^b):(A.map fun a=>a.getD c 0).length=A.length∧∀x∈A.map (fun a=>a.getD c 0),x.natAbs≤2^b:=by
 refine ⟨by simp,fun x hx=> ?_⟩
 obtain ⟨a,ha,rfl⟩:=abt.mp hx
 exact hA a ha c
theorem zF.left {os:List (List Int)}{nd:List (Nat×List Int)}{lv ps qs:List (List Int)}(O:zF os nd lv ps qs)(P:zE nd){i b:Nat}{l:List Int}(e:lv[i]? =some l)(hz:∀x∈nd,l.getD x.1 0=0)(hb:∀o∈os,∀j,(o.getD j 0).natAbs≤2^b)(pr:Pm l)(j:Nat):(l.getD j 0).natAbs≤(nd.length+1)*((2*(nd.length+1)*2^b)^nd.length*2^b):=by
 have hi:i < qs.length:=by
  rw [O.lq]
  exact (be.mp e).1
 obtain ⟨q,eq⟩:∃q,qs[i]? =some q:=⟨_,gE hi⟩
 obtain ⟨t1,t2⟩:=O.s3 i l q e eq
 have hA:∀a∈ps++[q],∀j,(a.getD j 0).natAbs≤2^b:=fun a ha=>by
  rcases aeM.mp ha with z | z
  ·exact hb a (O.po a z)
  ·rw [aeH.mp z]
   exact hb q (O.qo q (ir eq))
 have lA:(ps++[q]).length=nd.length+1:=by simp [O.lp]
 obtain ⟨zs,lz,nz,bz,sz⟩:=CC (n:=nd.length+1) (A:=2^b) (eqs:=nd.map fun x=>(ps++[q]).map fun a=>a.getD x.1 0) (by simp) (agb) fun y hy=>by
  obtain ⟨x,hx,rfl⟩:=abt.mp hy
  rw [← lA]
  exact tH hA
 rw [aa_] at bz
 have v0:∀x∈nd,ix zs (ps++[q]) x.1=0:=fun x hx=>by
  rw [← qD]
  exact sz _ (abt.mpr ⟨x,hx,rfl⟩)
 have hv:cI (nd.map (·.2)++[l]) fun j=>((ix zs (ps++[q]) j:Int):Rat):=(jf zs (ps++[q])).trans fun a ha=>by
  rcases aeM.mp ha with z | z
  ·exact (O.s2 a z).mono fun y hy=>ae_ _ hy
  ·rw [aeH.mp z]
   exact t2
 obtain ⟨a,ha⟩:=cI.last hv
 have ez:=P.zero ha fun x hx=>by
  rw [v0 x hx]
  unfold col
  rw [hz x hx]
  show ((0:Int):Rat) - a*((0:Int):Rat)=0
  grind
 by_cases c:a=0
 ·exfalso
  subst c
  have vz:∀j,ix zs (ps++[q]) j=0:=fun j=>by
   have:=ez j
   have h:((ix zs (ps++[q]) j:Int):Rat)=((0:Int):Rat):=by grind
   exact af'.mp h
  obtain ⟨qE,z,rfl⟩:∃qE z,zs=qE ++[z]:=by
   rcases aoP zs with h | ⟨qE,z,h⟩
   ·rw [h] at lz
    simp at lz
   ·exact ⟨qE,z,by rw [h,aoQ]⟩
  have Pn :qE.length=ps.length:=by
   rw [O.lp]
   simpa using lz
  have sp:∀j,ix qE ps j+z*q.getD j 0=0:=fun j=>by
   rw [← mN j z q Pn]
   exact vz j
  by_cases z0:z=0
  ·subst z0
   obtain ⟨x,hx,nx⟩:=nz
   have all:=O.ind qE Pn fun j=>by simpa using sp j
   rcases aeM.mp hx with h | h
   ·exact nx (all x h)
   ·exact nx (aeH.mp h)
  ·have hq:cI ps (col q):=((jf qE ps).mul (-1 / (z:Rat))).congr fun j=>by
    have s' :((ix qE ps j+z*q.getD j 0:Int):Rat)=((0:Int):Rat):=by rw [sp j]
    rw [apx,afp] at s'
    have zr:(z:Rat)≠0:=cG z0
    unfold col
    grind
   have hl:cI ps (col l):=t1.trans fun a ha=>by
    rcases aeM.mp ha with h | h
    ·exact cI.mem h
    ·rw [aeH.mp h]
     exact hq
   exact CG pr (P.cols (hl.trans O.s2) hz)
 ·have le:=CD pr c (v:=fun j=>ix zs (ps++[q]) j) (fun j=>by have:=ez j;grind) j
  refine ad_ le ?_
  have:=vb j (zs:=zs) (A:=ps++[q]) bz fun a ha=>hA a ha j
  rw [lA] at this
  exact this
theorem zF.need {os:List (List Int)}{nd:List (Nat×List Int)}{lv ps qs:List (List Int)}(O:zF os nd lv ps qs)(P:zE nd){b:Nat}{x:Nat×List Int}(hx:x∈nd)(hb:∀o∈os,∀j,(o.getD j 0).natAbs≤2^b)(pr:Pm x.2)(j:Nat):(x.2.getD j 0).natAbs≤(nd.length+1)*((2*(nd.length+1)*2^b)^nd.length*2^b):=by
 have hA:∀a∈ps,∀j,(a.getD j 0).natAbs≤2^b:=fun a ha=>hb a (O.po a ha)
 have lf:(nd.filter fun y=>decide (y.1≠x.1)).length < nd.length:=by
  have h1:(nd.filter fun y=>decide (y.1≠x.1)).length≤nd.length:=aoR ..
  rcases Nat.lt_or_eq_of_le h1 with h | h
  ·exact h
  ·have:=List.length_filter_eq_length_iff.mp h x hx
   simp at this
 obtain ⟨zs,lz,nz,bz,sz⟩:=CC (n:=nd.length) (A:=2^b) (eqs:=(nd.filter fun y=>decide (y.1≠x.1)).map fun y=>ps.map fun a=>a.getD y.1 0) (by rw [aa_];exact lf) (agb) fun y hy=>by
  obtain ⟨z,hz,rfl⟩:=abt.mp hy
  rw [← O.lp]
  exact tH hA
 rw [aa_] at bz
 have v0:∀y∈nd,y.1≠x.1→ix zs ps y.1=0:=fun y hy ne=>by
  rw [← qD]
  exact sz _ (abt.mpr ⟨y,aoK.mpr ⟨hy,by simpa using ne⟩,rfl⟩)
 have hv:cI (nd.map (·.2)) fun j=>((ix zs ps j:Int):Rat):=(jf zs ps).trans O.s2
 obtain ⟨a,ha⟩:=P.one hv hx fun y hy ne=>by
  rw [v0 y hy ne]
  rfl
 have c:a≠0:=fun z=>by
  subst z
  obtain ⟨y,hy,ny⟩:=nz
  refine ny (O.ind zs (by rw [lz,O.lp]) (fun j=> ?_) y hy)
  have h:((ix zs ps j:Int):Rat)=((0:Int):Rat):=by
   rw [ha j]
   show 0*col x.2 j=0
   grind
  exact af'.mp h
 have le:=CD pr c (v:=fun j=>ix zs ps j) ha j
 refine ad_ le ?_
 have:=vb j (zs:=zs) (A:=ps) bz fun a ha=>hA a ha j
 rw [O.lp] at this
 refine ad_ this (afn (by omega) (afn ?_ (aeG _)))
 refine ad_ (agw (aeX _ (show 2*nd.length≤2*(nd.length+1) by omega)) _) ?_
 exact ae0 (Nat.mul_pos (by omega) (aoN _)) (by omega)
theorem Ma {s b:Nat}(hs:s+1≤1024):(s+1)*((2*(s+1)*2^b)^s*2^b)≤2^((s+1)*(b+11)):=by
 have h1:2*(s+1)*2^b≤2^(b+11):=by
  have:2*(s+1)≤2^11:=by
   show 2*(s+1)≤2048
   omega
  rw [ags,agx (2^b)]
  exact aeX _ this
 have h2:(2*(s+1)*2^b)^s≤2^((b+11)*s):=by
  rw [Nat.pow_mul]
  exact agw h1 s
 have h3:s+1≤2^11:=by
  show s+1≤2048
  omega
 have e:(s+1)*(b+11)=11+((b+11)*s+b):=by
  rw [afx,aoV,agx s]
  omega
 rw [e,ags,ags]
 exact afn h3 (aeX _ h2)
theorem wA {B:List (List Int)}{line lead new:List Int}{c:Nat}(k:nX line lead new c)(h1:cI B (col line))(h2:cI B (col lead)):cI B (col new):=by
 obtain ⟨s,t,u,hs,ht,e⟩:=k.EW
 have zs:=cG hs
 refine ((h1.mul ((t:Rat) / s)).add (h2.mul (-(u:Rat) / s))).congr fun j=> ?_
 have ej:((s*new.getD j 0:Int):Rat)=((t*line.getD j 0 - u*lead.getD j 0:Int):Rat):=by rw [e j]
 rw [afp,apy,afp,afp] at ej
 unfold col
 grind
theorem wB {B:List (List Int)}{line lead new:List Int}{c:Nat}(k:nX line lead new c)(h1:cI B (col new))(h2:cI B (col lead)):cI B (col line):=by
 obtain ⟨s,t,u,hs,ht,e⟩:=k.EW
 have zt:=cG ht
 refine ((h1.mul ((s:Rat) / t)).add (h2.mul ((u:Rat) / t))).congr fun j=> ?_
 have ej:((s*new.getD j 0:Int):Rat)=((t*line.getD j 0 - u*lead.getD j 0:Int):Rat):=by rw [e j]
 rw [afp,apy,afp,afp] at ej
 unfold col
 grind
theorem zF.step {os:List (List Int)}{nd ik :List (Nat×List Int)}{lv vc ps qs:List (List Int)}{lead:List Int}{j c:Nat}(O:zF os nd lv ps qs)(P:zE nd)(ej:lv[j]? =some lead)(hz:∀x∈nd,lead.getD x.1 0=0)(hc:lead.getD c 0≠0)
  (lL:vc.length=(lv.eraseIdx j).length) (ML:∀(i:Nat) (x:List Int),(lv.eraseIdx j)[i]? =some x→∃y,vc[i]? =some y∧nX x lead y c) (lN:ik.length=nd.length) (MN:∀(i:Nat) (x:List Int),(nd.map (·.2))[i]? =some x→∃y,(ik.map (·.2))[i]? =some y∧nX x lead y c):∃Xd VD,zF os (ik ++[(c,lead)]) vc Xd VD :=by
 have hj:j < lv.length:=(be.mp ej).1
 obtain ⟨q,eq⟩:∃q,qs[j]? =some q:=⟨_,gE (by rw [O.lq];exact hj)⟩
 obtain ⟨t1,t2⟩:=O.s3 j lead q ej eq
 have ml:lead∈(ik ++[(c,lead)]).map (·.2):=by simp
 have old:∀x∈nd.map (·.2),cI ((ik ++[(c,lead)]).map (·.2)) (col x):=fun x hx=>by
  obtain ⟨i,ei⟩:=aeK hx
  obtain ⟨y,ey,k⟩:=MN i x ei
  refine wB k (cI.mem ?_) (cI.mem ml)
  rw [aeR]
  exact ae_ _ (ir ey)
 have Xe:∀y∈ik.map (·.2),∃x∈nd.map (·.2),nX x lead y c:=fun y hy=>by
  obtain ⟨i,ei⟩:=aeK hy
  have hi:=(be.mp ei).1
  rw [aa_] at hi
  obtain ⟨x,ex⟩:∃x,(nd.map (·.2))[i]? =some x:=⟨_,gE (by rw [aa_];omega)⟩
  obtain ⟨y',EY,k⟩:=MN i x ex
  rw [ei] at EY
  cases EY
  exact ⟨x,ir ex,k⟩
 have up:∀{f:Nat→Rat},cI ps f→cI (ps++[q]) f:=fun h=>h.mono fun a ha=>ae_ _ ha
 refine ⟨ps++[q],qs.eraseIdx j,fun p hp=> ?_,fun p hp=>O.qo p (afR hp),by simp [O.lp,lN],?_,fun x hx=> ?_,fun p hp=> ?_,fun i l' q' e1 e2=> ?_,fun zs lz hzs a ha=> ?_⟩
 ·rcases aeM.mp hp with z | z
  ·exact O.po p z
  ·rw [aeH.mp z]
   exact O.qo q (ir eq)
 ·rw [lL,afO,afO,O.lq]
 ·rcases aeM.mp hx with z | z
  ·obtain ⟨y,hy,k⟩:=Xe x.2 (abt.mpr ⟨x,z,rfl⟩)
   obtain ⟨x0,VE,rfl⟩:=abt.mp hy
   exact wA k (up (O.s1 x0 VE)) t1
  ·rw [aeH.mp z]
   exact t1
 ·rcases aeM.mp hp with z | z
  ·exact (O.s2 p z).trans old
  ·rw [aeH.mp z]
   refine t2.trans fun a ha=> ?_
   rcases aeM.mp ha with h | h
   ·exact old a h
   ·rw [aeH.mp h]
    exact cI.mem ml
 ·have hi:=(be.mp e1).1
  obtain ⟨x,ex⟩:∃x,(lv.eraseIdx j)[i]? =some x:=⟨_,gE (by omega)⟩
  obtain ⟨y',EY,k⟩:=ML i x ex
  rw [e1] at EY
  cases EY
  obtain ⟨i',f1,f2⟩:∃i',lv[i']? =some x∧qs[i']? =some q' :=by
   rw [afY] at ex e2
   by_cases h:i < j
   ·rw [if_pos h] at ex e2
    exact ⟨_,ex,e2⟩
   ·rw [if_neg h] at ex e2
    exact ⟨_,ex,e2⟩
  obtain ⟨u1,u2⟩:=O.s3 i' x q' f1 f2
  constructor
  ·refine wA k (u1.mono fun a ha=> ?_) (t1.mono fun a ha=>ae_ _ ha)
   rcases aeM.mp ha with h | h
   ·exact ae_ _ (ae_ _ h)
   ·exact ae7 _ h
  ·refine u2.trans fun a ha=> ?_
   rcases aeM.mp ha with h | h
   ·exact (old a h).mono fun b hb=>ae_ _ hb
   ·rw [aeH.mp h]
    exact wB k (cI.mem (by simp)) (cI.mem (ae_ _ ml))
 ·obtain ⟨qE,z,rfl⟩:∃qE z,zs=qE ++[z]:=by
   rcases aoP zs with h | ⟨qE,z,h⟩
   ·rw [h] at lz
    simp at lz
   ·exact ⟨qE,z,by rw [h,aoQ]⟩
  have Pn :qE.length=ps.length:=by simpa using lz
  have sp:∀j,ix qE ps j+z*q.getD j 0=0:=fun j=>by
   rw [← mN j z q Pn]
   exact hzs j
  have z0:z=0:=by
   apply afy
   intro z0
   have hq:cI ps (col q):=((jf qE ps).mul (-1 / (z:Rat))).congr fun j=>by
    have s' :((ix qE ps j+z*q.getD j 0:Int):Rat)=((0:Int):Rat):=by rw [sp j]
    rw [apx,afp] at s'
    have zr:(z:Rat)≠0:=cG z0
    unfold col
    grind
   have hl:cI ps (col lead):=t1.trans fun a ha=>by
    rcases aeM.mp ha with h | h
    ·exact cI.mem h
    ·rw [aeH.mp h]
     exact hq
   exact hc (P.cols (hl.trans O.s2) hz c)
  rcases aeM.mp ha with h | h
  ·exact O.ind qE Pn (fun j=>by have:=sp j;rw [z0] at this;simpa using this) a h
  ·rw [aeH.mp h]
   exact z0
end Ty
set_option maxHeartbeats 4000000
namespace Ty
open PySem PySem.Spec PyProof.Rows L2
theorem ou:typeLookup (.type "list") "__getattr__"=pure none:=by rw [typeLookup_type,builtinLookup_eq_fast];kernel_rfl
theorem vd:typeLookup (.type "list") "keys"=pure none:=by rw [typeLookup_type,builtinLookup_eq_fast];kernel_rfl
theorem tI:entryFor table "list.__getattribute__"=some Builtin.«object.__getattribute__»:=
 entryFor_alias (id' :="object.__getattribute__") (by kernel_rfl) (by decide+kernel) (by decide+kernel) (by kernel_rfl)
theorem x8 (a:Addr)(its:Array Value)(n:Nat)(u:Tok):
  Meets (Builtin.«object.__getattribute__» ⟨[.ref a,.str "keys" u],[]⟩) (fun A R s=>s.heap.get? a=some {cls:=.type "list",dict:=none,data:=.seq its n,slots:= #[]}∧raisesAttr (.ref a) "keys" A R s):=
 Meets.of_wp fun prog w A R s hs=>by
  obtain ⟨hp,g,d,tk,os⟩:=s
  obtain ⟨hx,hs⟩:=hs
  have hT:(⟨hp,g,d,tk,os⟩:Shared).TypeIs (.ref a) "list":=⟨_,hx,rfl⟩
  have hm:=vd
  unfold Builtin.«object.__getattribute__»
  repeat (any_goals (first | (assumption) | wp_step))
  exact wpAny_raiseAttrError hs.1 hs.2 (attrMsg_fits (by decide+kernel) (by decide+kernel))
section
variable {prog:Program}{w:World}{A:Around}{E:Value→Shared→Prop}{s:Shared}
theorem qF {z:Addr}{its:Array Value}{n:Nat}{Q:Option Value→Shared→Prop}(hx:s.heap.get? z=some {cls:=.type "list",dict:=none,data:=.seq its n,slots:= #[]})(hA:A.handled=none)
  (h:∀h' tk,(∀b o,s.heap.get? b=some o→h'.get? b=some o)→Q none {s with heap:=h',toks:=tk}):wpAny (model prog w) A (getAttr? (.ref z) "keys") Q E s:=by
 obtain ⟨hp,g,d,tk,os⟩:=s
 have hT:∀Ph,(⟨hp,g,d,Ph,os⟩:Shared).TypeIs (.ref z) "list":=fun _=>⟨_,hx,rfl⟩
 have f1:=sub_AttributeError
 have f3:=F.slot_list_getattribute.lookup
 have f4:=F.slot_list_getattribute.bind (.ref z)
 have f5:=ou
 unfold getAttr? getAttrBy? getAttrBy
 repeat (any_goals (first | (assumption) | exact hT _ | ((with_reducible show wpAny _ _ (call (Value.builtin "list.__getattribute__") _ _) _ _ _);refine call_meets F.slot_list_getattribute (hT _) tI (F.args_list_getattribute_2 _ _) (x8 z its n _) ⟨hx,hA,fun h' Ph e xk => ?_⟩) | wp_step))
 obtain ⟨t',u',he⟩:=xk.there
 show wpAny _ _ (getattributeRaised _ _ _ _ _ _ _) _ _ _
 unfold getattributeRaised
 repeat (any_goals (first | (assumption) | wp_step))
 exact h _ _ xk.keeps
theorem mO {z:Addr}{its:Array Value}{n:Nat}{Q:Value→Shared→Prop}(hA:A.in1.in1.handled=none)(hz:s.heap.get? z=some {cls:=.type "list",dict:=none,data:=.seq its n,slots:= #[]})
  (hL:∀(h' :Heap) (tk:Nat) (R:Result→Shared→Prop),(∀b o,s.heap.get? b=some o→h'.get? b=some o)→h'.get? s.heap.objs.size=some {cls:=.type "dict",data:=.dict #[]}→
   (∀s',Q (.ref s.heap.objs.size) s' →R (.ok (.ret .none)) s')→codeAny (model prog w) A.in1 (.builtin "dict.update.loop" ⟨[.ref s.heap.objs.size,.ref h'.objs.size,rawInt 0,.none],[]⟩) R {s with heap:=h'.push {cls:=.type "list_iterator",data:=.fields #[.ref z,.int 0 0]},toks:=tk}):
  wpAny (model prog w) A (call (.type "dict") [.ref z]) Q E s:=by
 refine callType_codes (Q₁:=fun obj s₁=>obj=.ref s.heap.objs.size∧s₁={s with heap:=s.heap.push {cls:=.type "dict",data:=.dict #[]}}) F.kt_called_dict (F.kt_typeCall_dict_1 _) F.entry_dict_init (kt_code_dict_new _ ⟨rfl,rfl⟩) ?_
 rintro obj s₁ ⟨rfl,rfl⟩
 have hS:(s.heap.push {cls:=.type "dict",data:=.dict #[]}).get? s.heap.objs.size=some {cls:=.type "dict",data:=.dict #[]}:=Heap.get?_push_size _ rfl
 have k0:∀b o,s.heap.get? b=some o→(s.heap.push {cls:=.type "dict",data:=.dict #[]}).get? b=some o:=fun b o e=>Heap.get?_push_of_some _ e
 generalize hN:s.heap.objs.size=S at hS hL ⊢
 generalize s.heap.push {cls:=.type "dict",data:=.dict #[]}=hp at hS k0 ⊢
 have HZ:hp.get? z=_:=k0 _ _ hz
 have Pj:Shared.TypeIs {s with heap:=hp} (.ref S) "dict":=⟨_,hS,rfl⟩
 have hT:Shared.TypeIs {s with heap:=hp} (.ref z) "list":=⟨_,HZ,rfl⟩
 refine ⟨Pj,F.args_dict_init_2 _ _,?_⟩
 unfold Builtin.«dict.__init__»
 refine wpAny_bind ?_
 unfold Builtin.Dict.selfAndRest
 refine wpAny_bind (wpAny_notOrdered_dict Pj ?_)
 refine wpAny_pure ?_
 show wpAny _ _ (Builtin.Dict.updateFrom "dict.__init__" S (.ref z) [] .none) _ _ _
 unfold Builtin.Dict.updateFrom
 refine wpAny_bind (wpAny_typeOf hT ?_)
 rw [if_pos (by decide)]
 refine wpAny_bind (qF (s:={s with heap:=hp}) HZ hA fun h' tk k1=> ?_)
 rw [if_pos (by rfl)]
 refine wpAny_bind (wpAny_rule ?_)
 have W9:h'.IsList z its:=⟨_,k1 _ _ HZ,rfl,_,rfl⟩
 refine wpAny_bind (wpAny_pyIter_list (s:={s with heap:=h',toks:=tk}) W9 ?_)
 exact wpAny_pure ⟨plainId_quiet cH _,hL h' tk _ (fun b o e=>k1 _ _ (k0 _ _ e)) (k1 _ _ hS) fun s' hq=>⟨rfl,hq⟩⟩
end
section
variable {X:Cx}{pins:List (Addr×Obj)}{σ:L2.St}
theorem Mb {it a S:Addr}{A' :Around}{R:Result→Shared→Prop}{us:List V}{kvs:List (Key×V)}{H0:Hp}(hh:A'.in1.handled=none)(na:a≠S)(nS:it≠S)(lu:us.length=kvs.length)(hk1:kvs.length≤1000):
  ∀(k i:Nat) (s:Shared) (H:Hp),kvs.length - i=k→i≤kvs.length→L2.Inv X pins σ H s→(∀c∈[it],gL X pins H c)→s.heap.IsListIter it a i→
  H a=some (.lst us)→(∀(j:Nat) (u:V) (kv:Key×V),us[j]? =some u→kvs[j]? =some kv→∃p,u=.ref p∧H p=some (.tup [kV kv.1,kv.2]))→H S=some (.dK (bD [] (kvs.take i)))→bT S H0 H→
  (∀s' H',L2.Inv X pins σ H' s' →bT S H0 H' →H' S=some (.dK (bD [] kvs))→R (.ok (.ret .none)) s')→
  codeAny (model X.prog X.w) A' (.builtin "dict.update.loop" ⟨[.ref S,.ref it,rawInt (i:Int),.none],[]⟩) R s:=by
 intro k
 induction k with
 | zero=>
  intro i s H hk hi I hf st ha hp hS L9 hR
  refine codeAny_builtin fL ?_
  rw [Around.under_plainId cH _]
  show wpAny _ A'.in1 (pyNext (.ref it) >>=_) _ _ s
  obtain ⟨z1,its,n1,r1,l1,e1⟩:=I.i8 ha
  refine wpAny_bind (wpAny_pyNext_list_end hh st ⟨_,e1,rfl,_,rfl⟩ (by simp;omega) fun h' kk=> ?_)
  rw [afu (by omega)] at hS
  exact wpAny_bind (wpAny_pure (wpAny_pure (hR _ H (Inv.g7 (t' :=s.toks) I (fun b o hb e=>kk b o (by simpa using hb) e) hf) L9 hS)))
 | succ k ih=>
  intro i s H hk hi I hf st ha hp hS L9 hR
  refine codeAny_builtin fL ?_
  rw [Around.under_plainId cH _]
  show wpAny _ A'.in1 (pyNext (.ref it) >>=_) _ _ s
  obtain ⟨z1,its,n1,r1,l1,e1⟩:=I.i8 ha
  have lx:i < kvs.length:=by omega
  have ly:i < us.length:=by omega
  obtain ⟨p,ep,hpp⟩:=hp i us[i] kvs[i] (gE ly) (gE lx)
  obtain ⟨u0,hu,ru⟩:=r1.get (i:=i) (x:=us[i]) (gE ly)
  rw [ep] at ru
  cases ru
  refine wpAny_bind (wpAny_pyNext_list_item st ⟨_,e1,rfl,_,rfl⟩ (x:=.ref p) (by simpa using hu) fun h' uu sb0=> ?_)
  have I2:L2.Inv X pins σ H {s with heap:=h',toks:=s.toks}:=Inv.g7 (t' :=s.toks) I (fun b o hb e=>(sb0.2 b (by simpa using hb)).trans e) hf
  obtain ⟨zS,W_,vs,rel,dd⟩:=jd I2.bI hS
  obtain ⟨Nw,rj,tp,zj⟩:=I2.tuple (bL.of hpp)
  cases rj with
  | cons ru rr=>
  cases rr with
  | cons rv rr=>
  cases rr
  rename_i u v
  obtain ⟨o,eo,co,n,do'⟩:=tp
  have hT:Shared.TypeIs {s with heap:=h',toks:=s.toks} (.ref p) "tuple":=⟨_,eo,co⟩
  refine wpAny_bind (wpAny_holding ?_)
  refine wpAny_bind (wpAny_tryCatch ?_)
  unfold Builtin.Dict.pairItems
  refine wpAny_bind (wpAny_typeOf hT ?_)
  rw [if_pos (by decide)]
  refine wpAny_bind (wpAny_seqItems eo do' (wpAny_pure ?_))
  show wpAny _ A'.in1 (holding [u,v] (dictSet S u v)) _ _ _
  refine wpAny_holding ?_
  have hlen:vs.length≤sizeLine:=by rw [← rel.length];exact zS
  refine wpAny_dictSet_pairs (hsz:=hlen) (jc ru) dd fun h2 Pk sb=> ?_
  have he:∃q,h2.get? S=some q:=let ⟨q,_,_,hq,_⟩:=Pk;⟨q,hq⟩
  have Xa:kvs.take (i+1)=kvs.take i++[kvs[i]]:=by
   rw [afN,gE lx]
   rfl
  have B_:bD [] (kvs.take (i+1))=putK (bD [] (kvs.take i)) kvs[i].1 kvs[i].2:=by rw [Xa,kh]
  have hl:(putK (bD [] (kvs.take i)) kvs[i].1 kvs[i].2).length≤sizeLine:=by
   rw [← B_]
   have h1:=dY (kvs.take (i+1)) []
   rw [ae2,agu] at h1
   exact ad_ (show (bD [] (kvs.take (i+1))).length≤1000 by omega) (by decide)
  have I3:L2.Inv X pins σ (upd H S (.dK (putK (bD [] (kvs.take i)) kvs[i].1 kvs[i].2))) {s with heap:=h2,toks:=s.toks+1}:=g9 (s:={s with heap:=h',toks:=s.toks}) (t' :=s.toks+1) I2 (by rw [hS];exact True.intro) sb he (jL hl W_ (rel.put kvs[i].1 rv) Pk)
  refine wpAny_pure ⟨plainId_quiet cH _,?_⟩
  have nn:∀{c:Addr} {o:HO},H c=some o→c≠S→(upd H S (.dK (putK (bD [] (kvs.take i)) kvs[i].1 kvs[i].2))) c=some o:=fun {c o} e n=>by rw [aj n];exact e
  obtain ⟨oi,ei,ci,di⟩:=uu
  refine ih (i+1) _ _ (by omega) (by omega) I3 (fun c hc=> ?_) ⟨oi,(sb.2 it nS).trans ei,ci,di⟩ (nn ha na) (fun j u kv e1 e2=> ?_) (by rw [B_,ak]) (fun c o n e=>nn (L9 c o n e) n) hR
  ·obtain ⟨f0,f1,f2,f3,f4,f5⟩:=hf c hc
   have:c≠S:=fun z=>nS (by rw [← z];exact (aeH.mp hc).symm)
   exact ⟨by rw [aj this];exact f0,f1,f2,f3,f4,f5⟩
  ·obtain ⟨q,eq,hq⟩:=hp j u kv e1 e2
   exact ⟨q,eq,nn hq fun z=>by rw [z,hS] at hq;cases hq⟩
inductive CH (xs:List V)(H:Hp)(Q:VK):Prop where
 | mk (a:Addr) (us:List V) (kvs:List (Key×V)) (_:xs=[.ref a]) (_:H a=some (.lst us)) (_:us.length=kvs.length) (_:kvs.length≤1000) (_:∀(j:Nat) (u:V) (kv:Key×V),us[j]? =some u→kvs[j]? =some kv→∃p,u=.ref p∧H p=some (.tup [kV kv.1,kv.2])) (_:∀(l:Addr) (H' :Hp),av H H' →H l=none→H' l=some (.dK (bD [] kvs))→Q (.ref l) H'):CH xs H Q
theorem ve (hc:X.calm=true):eg X (.type "dict") CH:=by
 intro pins s σ H vs us Q I r h
 obtain ⟨a,xs,kvs,rfl,hx,lu,Vz,hp,q⟩:=h
 obtain ⟨u,rfl⟩:∃u,us=[u]:=by cases r with | cons h t=>cases t;exact ⟨_,rfl⟩
 cases r with
 | cons h _=>
 cases h
 obtain ⟨z1,its,n1,r1,l1,e1⟩:=I.i8 hx
 have hS:=I.bI.fresh (aeG s.heap.objs.size)
 refine mO (s:=s) (I.ok.hd hc) e1 fun h' tk R k2 Kv hR=> ?_
 have lt' :mainGlobals < s.heap.objs.size:=(I.mod.glob.keeps I.bk).lt
 have ns:(s.heap.objs.size==sysModules)=false:=beq_eq_false_iff_ne.mpr (ae8 (ae4 (aoH (by decide) lt')))
 have ltS:s.heap.objs.size < h'.objs.size:=Heap.lt_size Kv
 have k3:∀b o,s.heap.get? b=some o→(h'.push {cls:=.type "list_iterator",data:=.fields #[.ref a,.int 0 0]}).get? b=some o:=fun b o e=>Heap.get?_push_of_some _ (k2 b o e)
 have I3:L2.Inv X pins σ (upd H s.heap.objs.size (.dK [])) {s with heap:=h'.push {cls:=.type "list_iterator",data:=.fields #[.ref a,.int 0 0]},toks:=tk}:=I.laid (t' :=tk) k3 (aeG _) ⟨ae' _,ns,[],.nil,_,_,_,Heap.get?_push_of_some _ Kv,⟨rfl,rfl,rfl⟩,rfl,fun _ he=>by simp at he,Pairs.nil,agB⟩
 have CB:=o_ hS (.dK [])
 have na:a≠s.heap.objs.size:=au hx hS
 have nS:h'.objs.size≠s.heap.objs.size:=afW ltS
 refine Mb (A' :=X.A.in1) (H0:=H) (us:=xs) (kvs:=kvs) (a:=a) (it:=h'.objs.size) (S:=s.heap.objs.size) (I.ok.hd hc) na nS lu Vz kvs.length 0 _ _ (by omega) (ae' _) I3 (fun c' oF => ?_) ⟨_,Heap.get?_push_size _ rfl,rfl,rfl⟩ (CB _ _ hx) (fun j u kv e1 e2=> ?_) ak (fun b' o n e=>CB _ _ e) fun s' H' I' Xb HQ =>hR s' ⟨.ref s.heap.objs.size,H',I',rfl,q _ H' (fun b' o e=>Xb b' o (au e hS) e) hS HQ⟩
 ·have ec:c' =h'.objs.size:=aeH.mp oF
  have hb:s.heap.objs.size≤c' :=by rw [ec];exact afl ltS
  refine I.jF hb ?_
  rw [aj (by rw [ec];exact nS)]
  exact I.bI.fresh hb
 ·obtain ⟨p,e,hq⟩:=hp j u kv e1 e2
  exact ⟨p,e,CB _ _ hq⟩
end
end Ty
set_option maxHeartbeats 4000000
namespace T_k34
open PySem PySem.Spec PyProof.Rows L2 Ty
open Builtin.Int (intBits)
seal L2.PE L2.PS L2.PSs L2.PA
theorem sq {N P:List Str}{sc:Scope}(a:sc.kind=.function:=by exact rfl)(b:sc.isCoroutine=false:=by exact rfl)(c:sc.isGenerator=false:=by exact rfl)(d:N.Nodup:=by decide+kernel)(e:N.take P.length=P:=by exact rfl)(f:∀x∈P,sc.names.lookup x=some .local∨sc.names.lookup x=some .cell:=by decide+kernel)(g:∀y∈sc.names,y.2≠.free:=by decide+kernel):aG N P sc:=⟨a,b,c,d,e,f,g⟩
theorem pY (P:Program)(w:World){X:Cx}:Passes (a9 P w) X.vM E0:=sE a9.mh
theorem pX {P:Program}{w:World}{X:Cx}:Passes (a9 P w) X.vM E0:=sE a9.mh
theorem _root_.L2.cy.mo {j k:Nat}{A:Around}(r:L2.cy k A)(h:j≤k:=by decide):L2.cy j A:=r.mono h
theorem aS {X:Cx}{a:Expr}{ta:TE}{i j p1 p2}(h:PE X a ta):PE X (.Subscript a (.Constant (.int i) j p1) p2) (Ll (AK X.K) ta (tC (.int i))):=aY iE h af (fun _ _=>rfl)
theorem pj {X:Cx}{a:Expr}{ta:TE}{i j p1 p2}(h:PE X a ta):PE X (.Subscript a (.Constant (.int i) j p1) p2) (Ll (GY X.K) ta (tC (.int i))):=aY aX h af (fun _ _=>rfl)
theorem _root_.L2.nV.x9 {K:Frag}{x qual:Str}{st:Stmt}{f:Addr}{fd:FuncData}{ps:List Str}(F:L2.nV K x qual st f fd)
 (h:∀(kV doc pm:Value) (an:Option Addr) (bF ct:Value) (us:List Value),us.length=ps.length→bindArgs (fnOf x qual (aD st) (ay st) (ag st) .none kV doc pm an bF ct) ⟨us,[]⟩=pure (ps.zip us):=by first | exact (fun _ _ _ _ _ _ us hl=>match us,hl with | [_],_=>rfl) | exact (fun _ _ _ _ _ _ us hl=>match us,hl with | [_,_],_=>rfl) | exact (fun _ _ _ _ _ _ us hl=>match us,hl with | [_,_,_],_=>rfl) | exact (fun _ _ _ _ _ _ us hl=>match us,hl with | [_,_,_,_],_=>rfl) | exact (fun _ _ _ _ _ _ us hl=>match us,hl with | [_,_,_,_,_],_=>rfl)):Binds K fd ps []:=F.binds h
theorem eZ {K:Frag}{mg:Str→Option Value}{h:Heap}{x:Str}{st:Stmt}{ps:List Str}{f:Addr}{oc:Value}{od an:Option Addr}{nR:Array (Option Value)}{kV doc pm bF ct:Value}(X:K.In h)(G:h.Ns mainGlobals mg)(l:K.lookup f=some ⟨oc,od,.func (fnOf x x (aD st) (ay st) (ag st) .none kV doc pm an bF ct),nR⟩)(c:codeIn K bF x=true)(k:keepIn K (.ref f)=true)(a:nsIn K mainGlobals x=some (some (.ref f)))
 (b:∀(kV doc pm:Value) (an:Option Addr) (bF ct:Value) (us:List Value),us.length=ps.length→bindArgs (fnOf x x (aD st) (ay st) (ag st) .none kV doc pm an bF ct) ⟨us,[]⟩=pure (ps.zip us):=by first | exact (fun _ _ _ _ _ _ us hl=>match us,hl with | [_],_=>rfl) | exact (fun _ _ _ _ _ _ us hl=>match us,hl with | [_,_],_=>rfl) | exact (fun _ _ _ _ _ _ us hl=>match us,hl with | [_,_,_],_=>rfl) | exact (fun _ _ _ _ _ _ us hl=>match us,hl with | [_,_,_,_],_=>rfl) | exact (fun _ _ _ _ _ _ us hl=>match us,hl with | [_,_,_,_,_],_=>rfl) | exact (fun _ _ _ _ _ _ us hl=>match us,hl with | [_,_,_,_,_,_],_=>rfl) | exact (fun _ _ _ _ _ _ us hl=>match us,hl with | [_,_,_,_,_,_,_],_=>rfl)):Def K mg x st ps:=Def.of (c8 l c k) ((c8 l c k).binds b) (mg_of X G a)
def top (i:Nat):Stmt:=PySem.Challenge.pw_trussyard_k34_whole_rest_or_motion.main.body.getD i (.Pass ⟨0,0,0,0⟩)
abbrev vf:Stmt:=top 14
abbrev tJ:Stmt:=top 15
abbrev x_:Stmt:=top 16
abbrev ya:Stmt:=top 19
abbrev vg:Stmt:=top 20
abbrev yb:Stmt:=top 22
abbrev yc:Stmt:=top 23
abbrev yd:Stmt:=top 24
abbrev ye:Stmt:=top 25
abbrev yf:Stmt:=top 26
abbrev yg:Stmt:=top 27
abbrev yh:Stmt:=top 29
abbrev yi:Stmt:=top 30
abbrev yj:Stmt:=top 31
abbrev yk:Stmt:=top 32
abbrev ym:Stmt:=top 33
abbrev yn:Stmt:=top 34
abbrev yo:Stmt:=top 35
abbrev yp:Stmt:=top 36
abbrev yq:Stmt:=top 38
abbrev yr:Stmt:=top 48
abbrev yt:Stmt:=top 49
abbrev yu:Stmt:=top 50
abbrev yv:Stmt:=top 51
abbrev yw:Stmt:=top 52
abbrev yx:Stmt:=top 53
abbrev vh:Stmt:=top 54
abbrev yy:Stmt:=top 55
abbrev yz:Stmt:=top 56
abbrev yA:Stmt:=top 57
abbrev yB:Stmt:=top 58
abbrev yC:Stmt:=top 59
abbrev yD:Stmt:=top 60
abbrev yE:Stmt:=top 61
abbrev yF:Stmt:=top 62
abbrev yG:Stmt:=top 63
abbrev yH:Stmt:=top 64
abbrev yI:Stmt:=top 65
abbrev yJ:Stmt:=top 66
abbrev yK:Stmt:=top 67
abbrev yL:Stmt:=top 68
abbrev yM:Stmt:=top 69
abbrev yN:Stmt:=top 70
abbrev s_by:Stmt:=top 71
abbrev yO:Stmt:=top 72
abbrev yP:Stmt:=top 73
abbrev cY:Stmt:=top 74
abbrev dw:Stmt:=top 75
abbrev jg:Stmt:=top 76
abbrev yQ:Stmt:=inClass (top 42) 0
abbrev kK:Stmt:=inClass (top 42) 1
abbrev yR:Stmt:=inClass (top 42) 2
abbrev yS:Stmt:=inClass (top 42) 3
abbrev yT:Stmt:=inClass (top 42) 4
abbrev yU:Stmt:=inClass (top 42) 7
abbrev yV:Stmt:=inClass (top 42) 8
abbrev yW:Stmt:=inClass (top 42) 9
abbrev yX:Stmt:=inClass (top 42) 10
abbrev yY:Stmt:=inClass (top 42) 11
abbrev IC:Stmt:=inClass (top 44) 0
abbrev yZ:Stmt:=inClass (top 45) 0
abbrev y4:Stmt:=inClass (top 45) 1
abbrev y6:Stmt:=inClass (top 46) 0
section
variable {P:Program}{w:World}{K:Frag}{mg:Str→Option Value}{base:Heap}{CX:jD}
def Nm (H:Hp)(v:V)(q:Int×Int):Prop:=∃p,v=.ref p∧H p=some (.tup [.int q.1,.int q.2])
structure Po (k:Nat)(q:Int×Int):Prop where
 pos:0 < q.2
 top:intBits q.1≤k
 bot:intBits q.2≤k
theorem aK {H:Hp}{p:Addr}(h:H p=none)(o:HO):av H (upd H p o):=fun b u q=>by rw [aj (au q h)];exact q
theorem nw {H H' :Hp}{l:Addr}{o:HO}(n:H l=none)(e:upd H l o=H'):av H H' ∧H' l=some o:=by subst e;exact ⟨aK n o,ak⟩
def gives (H:Hp)(Q:VK)(q:Int×Int):Prop:=∀(p:Addr) (H' :Hp),av H H' →H' p=some (.tup [.int q.1,.int q.2])→Q (.ref p) H'
inductive gc (vs:List V)(H:Hp)(Q:VK)(E_:XK):Prop where
 | mk (a b:Int) (_:vs=[.int a,.int b]) (_:Q (.int (gz a b)) H):gc vs H Q E_
def subQ (x y:Int×Int):Int×Int:=low (x.1*y.2 - y.1*x.2) (x.2*y.2)
theorem ID {x y:Int×Int}{k l:Nat}(hx:Po k x)(hy:Po l y):x.2*y.2≠0:=afd (afM hx.pos hy.pos)
theorem iI {a b:V}:fN [a,b] 0=some a:=rfl
theorem iJ {a b:V}:fN [a,b] 1=some b:=rfl
theorem Nm.kept {H H' :Hp}{D:Addr}{ys:List V}{v:V}{q:Int×Int}(h:Nm H v q)(hD:H D=some (.lst ys))(k:bT D H H'):Nm H' v q:=by
 obtain ⟨p,e,z⟩:=h
 exact ⟨p,e,k p _ (fun e=>by rw [e,hD] at z;cases z) z⟩
inductive Ln (H:Hp)(v:V)(l:List Int):Prop where
 | mk (p:_) (_:v=.ref p) (_:H p=some (.lst (l.map V.int))):Ln H v l
theorem Ln.same {H H' :Hp}{v:V}{l:List Int}(h:Ln H v l)(s:av H H'):Ln H' v l:=by
 obtain ⟨p,e,k⟩:=h
 exact ⟨p,e,s _ _ k⟩
def nY (H:Hp)(us:List V)(ls:List (List Int)):Prop:=us.length=ls.length∧∀(i:Nat) (u:V) (l:List Int),us[i]? =some u→ls[i]? =some l→Ln H u l
theorem nY.same {H H' :Hp}{us:List V}{ls:List (List Int)}(h:nY H us ls)(s:av H H'):nY H' us ls:=⟨h.1,fun i u l e1 e2=>(h.2 i u l e1 e2).same s⟩
theorem pC {l:List Int}{j:Nat}(h:j < l.length):fN (l.map V.int) (j:Int)=some (.int (l.getD j 0)):=bG (by rw [Wp,gE h,aeV,gE h];rfl)
theorem getD_mem {l:List Int}{j:Nat}{x:Int}(e:l[j]? =some x):l.getD j 0=x:=by rw [aeV,e];rfl
def Bd (b:Nat)(l:List Int):Prop:=∀j,(l.getD j 0).natAbs≤2^b
theorem Bd.mem {b:Nat}{l:List Int}(h:Bd b l){x:Int}(hx:x∈l):x.natAbs≤2^b:=by
 obtain ⟨i,hi⟩:=aeK hx
 rw [← getD_mem hi]
 exact h i
theorem Bd.up {b c:Nat}{l:List Int}(h:Bd b l)(hc:b≤c):Bd c l:=fun j=>my (h j) hc
theorem wC:aG ["one","other","left"] ["one","other"] (ag x_):=sq
theorem Pp (D:Def K mg "greatest_shared" x_ ["one","other"])(pD:mg "abs"=none):Fn P w K mg base CX 1 "greatest_shared" ["one","other"] gc:=by
 refine D.ok wC (fun vs H Q E h=> ?_) (fun f bF A outer s H vs Q E hr h=> ?_)
 ·obtain ⟨a,b,rfl,_⟩:=h
  rfl
 obtain ⟨a,b,rfl,q⟩:=h
 refine ⟨_,(ae (lO PassesOwn.never (aQ fG (pv 1) af (aT _)) (ae (aC (i:=2) wC.nd rfl (ab_ rfl) (aI dE (pv 0) (pv 1)))
   (ae (aC (i:=0) wC.nd rfl (ab_ rfl) (pv 1))
   (ah (aC (i:=1) wC.nd rfl (ab_ rfl) (pv 2))))))
  (ah (aF (aR rX rfl pD Ke (aq (pv 0) aa))))),?_⟩
 refine rW (fun σ H' =>∃(x y:Int) (l:Option V),σ=[some (.int x),some (.int y),l]∧H' =H∧afi x y=afi a b) (fun σ _=>match σ with | [_,some (.int y),_]=>y.natAbs | _=>0) ⟨a,b,none,rfl,rfl,rfl⟩ ?_ ?_
 ·rintro σ H' ⟨x,y,l,rfl,rfl,g⟩
  refine ⟨_,rfl,rfl,_,rfl,?_⟩
  refine bf (fun c=> ?_) (fun c=> ?_)
  ·have hy:y≠0:=by
    intro z
    subst z
    simp at c
   refine ⟨_,rfl,_,rfl,_,_,rfl,rfl,hy,?_⟩
   refine ⟨_,rfl,_,rfl,?_⟩
   exact ⟨⟨_,_,_,rfl,rfl,by rw [sf];exact g⟩,oN hy⟩
  ·have hy:y=0:=by
    have:=agi.mpr c
    simp at this
    exact this
   subst hy
   refine ⟨_,rfl,x,rfl,?_⟩
   have e:(if x < 0 then -x else x)=gz a b:=by
    rw [ao8] at g
    unfold gz
    rw [← g]
    split <;> omega
   rw [e]
   exact q
 ·rintro σ H' Q1 Q2 h ⟨v,e1,e2,k,ek,z⟩
  exact ⟨v,e1,e2,k,ek,h _ _ z⟩
inductive gd (vs:List V)(H:Hp)(Q:VK)(E_:XK):Prop where
 | mk (t b:Int) (_:vs=[.int t,.int b]) (_:b≠0) (_:gives H Q (low t b)):gd vs H Q E_
theorem CI:aG ["top","bottom","shared"] ["top","bottom"] (ag tJ):=sq
theorem Pq (ht:P.given.tree=none)(D:Def K mg "lowest_terms" tJ ["top","bottom"])(vi:Fn P w K mg base (a9 P w) 1 "greatest_shared" ["one","other"] gc):Fn P w K mg base (a9 P w) 33 "lowest_terms" ["top","bottom"] gd:=by
 refine D.ok CI (fun vs H Q E h=> ?_) (fun f bF A outer s H vs Q E hr h=> ?_)
 ·obtain ⟨t,b,rfl,_⟩:=h
  rfl
 obtain ⟨t,b,rfl,hb,q⟩:=h
 have Pu:∃tt,PSs (kH (a9 P w) P w K mg base ["top","bottom","shared"] "lowest_terms" (ag tJ) f bF A outer s H E).vM ((ay tJ).drop 2) tt∧∀g:Int,g=sg t b→tt {nx:=fun _ H' =>Q .cE H',rt:=Q} [some (.int t),some (.int b),some (.int g)] H:=by
  refine ⟨_,(ah (aF (aZ (aq (aI (fm ht (Ty.cy.py hr (by decide)) rfl rfl rfl rfl rfl) (pv 0) (pv 2)) (aq (aI (fm ht (Ty.cy.py hr (by decide)) rfl rfl rfl rfl rfl) (pv 1) (pv 2)) aa))))),?_⟩
  rintro g rfl
  have c:=lX (t:=t) hb
  refine ⟨_,rfl,_,rfl,_,_,rfl,rfl,c,_,rfl,_,rfl,_,_,rfl,rfl,c,(by show 2≤sizeLine;decide),fun p hp=> ?_⟩
  exact q p _ (aK hp _) ak
 obtain ⟨t2,p2,q2⟩:=Pu
 refine ⟨_,(ae (aC (i:=2) CI.nd rfl (ab_ rfl) (aA vi hr.mo pX (aq (pv 0) (aq (pv 1) aa)))) (ae (bg (aQ oG (pv 1) af (aT _)) (ah (aC (i:=2) CI.nd rfl (ab_ rfl) (JU z7 (pv 2)))) aL) p2)),?_⟩
 refine ⟨_,rfl,_,rfl,t,b,rfl,?_⟩
 refine ⟨_,rfl,_,_,rfl,rfl,_,rfl,?_⟩
 refine bf (fun c=> ?_) (fun c=> ?_)
 ·refine ⟨_,rfl,_,rfl,q2 _ ?_⟩
  have c' :b < 0:=of_decide_eq_true c
  unfold sg
  rw [if_pos c']
 ·refine q2 _ ?_
  have c' :¬ b < 0:=of_decide_eq_false (agi.mpr c)
  unfold sg
  rw [if_neg c']
inductive Mc (K:Frag)(vs:List V)(H:Hp)(Q:VK)(E_:XK):Prop where
 | mk (a:Addr) (qs:List (Int×Int)) (T B:Nat) (_:vs=[.ref a]) (_:WY K H a qs) (_:(∀q∈qs,Sm T B q)) (_:T≤20000) (_:B*qs.length≤100000) (_:B≤8000) (_:qs.length≤1000) (_:∀(p l:Addr) (ts:List Int) (b:Int) (H' :Hp),av H H' →H l=none→H' p=some (.tup [.ref l,.int b])→H' l=some (.lst (ts.map V.int))→0 < b→b.natAbs≤2^(B*qs.length)→j8 ts qs b→(∀t∈ts,t.natAbs≤2^(T+B*qs.length))→Q (.ref p) H'):Mc K vs H Q E_
theorem wD:aG ["row","bottom","number"] ["row"] (ag yj):=sq
theorem Pw (D:Def K mg "whole_row" yj ["row"])(vi:Fn P w K mg base (a9 P w) 1 "greatest_shared" ["one","other"] gc):Fn P w K mg base (a9 P w) 2 "whole_row" ["row"] (Mc K):=by
 refine D.ok wD (fun vs H Q E h=> ?_) (fun f bF A outer s H vs Q E hr h=> ?_)
 ·obtain ⟨a,qs,T,B,rfl,_⟩:=h
  rfl
 obtain ⟨a,qs,T,B,rfl,⟨us,hS,hN⟩,sm,hT,hB,hB1,hl,q⟩:=h
 refine ⟨_,(ae (aC (i:=1) wD.nd rfl (aff rfl) af)
  (ae (bw PassesOwn.never rfl (bh (pv 0)) (aw (i:=2) wD.nd rfl (ab_ rfl)) (ah (aC (i:=1) wD.nd rfl (aff rfl) (aI cf (aI ma (pv 1) (aA vi hr.mo pX (aq (pv 1) (aq (aS (pv 2)) aa)))) (aS (pv 2))))))
  (ah (aF (aZ (aq (cD (tn:=["number"]) (fr:=["bottom"]) (caps:=[1]) rfl ⟨rfl,by decide+kernel,rfl,by decide+kernel,by decide+kernel,rfl,⟨(by first | exact ab_ rfl | exact aff rfl),trivial⟩,⟨(by first | exact ab_ rfl | exact aff rfl),trivial⟩⟩ (bh (pv 0)) (fun _ _ _ _=>(aw (i:=0) (show (["number","bottom"]:List Str).Nodup from by decide+kernel) rfl (ab_ rfl))) (fun _ _ _ _=>cj) (fun _ _ _ _=>(aI cf (aY (cp (K:=K) rfl) (pv 0) af (fun _ _=>rfl)) (aI ma (pv 1) (aY (cp (K:=K) rfl) (pv 0) af (fun _ _=>rfl)))))) (aq (pv 1) aa))))))),?_⟩
 have hlu:=hN.1
 have qat:∀{i:Nat} {u:V},us[i]? =some u→∃q,qs[i]? =some q∧j_ K H u q∧Sm T B q:=fun {i u} e=>by
  have hi:i < us.length:=(be.mp e).1
  have e2:qs[i]? =some (qs[i]'(by omega)):=gE (by omega)
  exact ⟨_,e2,hN.2 i u _ e e2,sm _ (afz _)⟩
 refine ⟨_,rfl,a,rfl,⟨_,hS⟩,bP (K:=K) (a:=a) (xs:=us) (fun i σ H' =>∃(b:Int) (o:Option V),σ=[some (.ref a),some (.int b),o]∧H' =H∧0 < b∧b.natAbs≤2^(B*i)∧∀j,j < i→∀q,qs[j]? =some q→q.2 ∣ b) ⟨1,none,rfl,rfl,by decide,by simp,fun j h=>absurd h (afC _)⟩ (fun i σ H' _ ⟨b,o,_,e,_⟩=>by rw [e];exact hS) ?_ ?_⟩
 ·rintro i u σ H' hu ⟨b,o,rfl,rfl,hb,hs,hd⟩
  obtain ⟨n,en,⟨p,rfl,hp⟩,sn⟩:=qat hu
  have hi:i < qs.length:=(be.mp en).1
  have nb:n.2.natAbs≤2^B:=sn.bot
  obtain ⟨l1,l2,l3,l4⟩:=BA hb sn.pos
  have gp:=qd (t:=b) (b:=n.2) (by have:=sn.pos;omega)
  have gl:=OB (t:=b) (b:=n.2) (by have:=sn.pos;omega)
  have sz:(b.fdiv (gz b n.2)*n.2).natAbs≤2^(B*(i+1)):=by
   refine ad_ l4 ?_
   rw [Nat.mul_succ,ags]
   exact afn hs nb
  have bi:B*i≤100000:=ad_ (Nat.mul_le_mul_left B (by omega)) hB
  have g1:gz b n.2 ∣ b:=afT ..
  refine ⟨_,rfl,_,rfl,_,rfl,p,_,_,_,rfl,rfl,hp,iJ,b,n.2,rfl,?_⟩
  refine ⟨_,_,rfl,rfl,⟨by omega,ad_ (g8 (ad_ gl nb) (afe B)) (by omega)⟩,?_⟩
  refine ⟨_,rfl,p,_,_,_,rfl,rfl,hp,iJ,_,_,rfl,rfl,kZ (ad_ (fY (by omega) g1) hs) nb (by omega) (by omega),?_⟩
  refine ⟨_,_,rfl,rfl,l1,sz,fun j hj q' e' => ?_⟩
  rcases afo.mp hj with z | z
  ·exact Int.dvd_trans (hd j z q' e') l2
  ·subst z
   rw [en] at e'
   cases e'
   exact l3
 ·rintro σ H' ⟨b,o,rfl,rfl,hb,hs,hd⟩
  rw [hlu] at hs hd
  refine ⟨_,rfl,a,rfl,⟨_,hS⟩,fun D nD=> ?_⟩
  refine b_ (cap:=[some (.int b)]) (K:=K) (a:=a) (xs:=us) (fun i v _=>∃q,qs[i]? =some q∧v=.int (q.1*b.fdiv q.2)) nD (by rw [hlu];exact aeJ hl (by decide)) (fun H2 s2=>s2.seq hS) (fun _ _ _ _ _ _ _ h=>h) ?_ ?_
  ·intro i u H2 R hu s2 k
   obtain ⟨n,en,⟨p,rfl,hp⟩,sn⟩:=qat hu
   have Kq:=Ty.av.cR s2 hp
   have dv:=hd i (be.mp en).1 n en
   have n0:n.2≠0:=by have:=sn.pos;omega
   refine ⟨_,rfl,p,_,_,_,rfl,rfl,Kq,iI,?_⟩
   refine ⟨_,rfl,_,rfl,p,_,_,_,rfl,rfl,Kq,iJ,_,_,rfl,rfl,⟨n0,ad_ (g8 sn.bot (afe B)) (by omega)⟩,?_⟩
   exact ⟨_,_,rfl,rfl,kZ sn.top (ad_ (fY n0 dv) hs) (by omega) (by omega),k _ _ (av.refl _) ⟨n,en,rfl⟩⟩
  ·intro ys H2 hy dR s2 hD
   have ey:ys=(qs.map fun n=>n.1*b.fdiv n.2).map V.int:=by
    refine afg fun i=> ?_
    by_cases hi:i < ys.length
    ·have e1:ys[i]? =some ys[i]:=gE hi
     obtain ⟨n,en,ev⟩:=dR i _ e1
     rw [e1,ev,Wp,Wp,en]
     rfl
    ·rw [aeE (by omega),aeE (by simp;omega)]
   refine ⟨_,rfl,(by show 2≤sizeLine;decide),fun p np=> ?_⟩
   have s3:=aK np (.tup [.ref D,.int b])
   refine q p D (qs.map fun n=>n.1*b.fdiv n.2) b _ (s2.trans s3) nD ak (s3 _ _ (by rw [hD,ey])) hb hs ⟨by simp,fun i t n e1 e2=> ?_⟩ (fun t ht=> ?_)
   ·rw [Wp,e2] at e1
    have xE :n.1*b.fdiv n.2=t:=aeY e1
    rw [← xE]
    exact xI (sm n (ir e2)).pos (hd i (be.mp e2).1 n e2)
   ·obtain ⟨n,hn,rfl⟩:=abt.mp ht
    obtain ⟨i,hi⟩:=aeK hn
    have n0:n.2≠0:=by have:=(sm n hn).pos;omega
    exact qt (sm n hn).top (ad_ (fY n0 (hd i (be.mp hi).1 n hi)) hs)
structure Dv (l l' :List Int):Prop where
 len:l'.length=l.length
 VF:∃g:Int,g≠0∧∀j,g*l'.getD j 0=l.getD j 0
def Md (l:List Int):Prop:=Pm l∨∀j,l.getD j 0=0
theorem tK {l:List Int}{d:Int}(h:∀j,d ∣ l.getD j 0){i:Nat}{x:Int}(e:l[i]? =some x):d ∣ x:=by
 rw [← getD_mem e]
 exact h i
inductive jT (vs:List V)(H:Hp)(Q:VK)(E_:XK):Prop where
 | mk (v:V) (l:List Int) (_:vs=[v]) (_:Ln H v l) (_:l.length≤1000) (_:∀v' l' H',av H H' →Ln H' v' l' →Dv l l' →Md l' →(v' =v∨∃p,v' =.ref p∧H p=none)→Q v' H'):jT vs H Q E_
theorem IE (l:List Int):Dv l l:=⟨rfl,1,by decide,fun j=>Int.one_mul _⟩
theorem wG:aG ["line","shared","whole"] ["line"] (ag yp):=sq
theorem Px (ht:P.given.tree=none)(D:Def K mg "divided" yp ["line"])(vi:Fn P w K mg base (a9 P w) 1 "greatest_shared" ["one","other"] gc):Fn P w K mg base (a9 P w) 33 "divided" ["line"] jT:=by
 refine D.ok wG (fun vs H Q E h=> ?_) (fun f bF A outer s H vs Q E hr h=> ?_)
 ·obtain ⟨v,l,rfl,_⟩:=h
  rfl
 obtain ⟨v,l,rfl,⟨a,rfl,ha⟩,hn,q⟩:=h
 have same:Md l→Q (.ref a) H:=fun pz=>q _ l H (av.refl H) ⟨a,rfl,ha⟩ (IE l) pz (.inl rfl)
 refine ⟨_,(ae (aC (i:=1) wG.nd rfl (aff rfl) af)
  (ae (bw PassesOwn.never rfl (bh (pv 0)) (aw (i:=2) wG.nd rfl (ab_ rfl)) (ae (aC (i:=1) wG.nd rfl (aff rfl) (aA vi hr.mo pX (aq (pv 2) (aq (pv 1) aa))))
   (ah (bg (aQ cN (pv 1) af (aT _)) (ah (aF (pv 0))) aL))))
  (ah (aF (rS (aQ z_ (pv 1) af (aT _)) (cD (tn:=["whole"]) (fr:=["shared"]) (caps:=[1]) rfl ⟨rfl,by decide+kernel,rfl,by decide+kernel,by decide+kernel,rfl,⟨(by first | exact ab_ rfl | exact aff rfl),trivial⟩,⟨(by first | exact ab_ rfl | exact aff rfl),trivial⟩⟩ (bh (pv 0)) (fun _ _ _ _=>(aw (i:=0) (show (["whole","shared"]:List Str).Nodup from by decide+kernel) rfl (ab_ rfl))) (fun _ _ _ _=>cj) (fun _ _ _ _=>(aI (fm ht (Ty.cy.py hr (by decide)) rfl rfl rfl rfl rfl) (pv 0) (pv 1)))) (pv 0)))))),?_⟩
 refine ⟨_,rfl,a,rfl,⟨_,aU.of ha⟩,bP (K:=K) (a:=a) (xs:=l.map V.int) (fun i σ H' =>∃(g:Int) (o:Option V),σ=[some (.ref a),some (.int g),o]∧H' =H∧0≤g∧(∀j,j < i→∀x,l[j]? =some x→g ∣ x)∧(∀d:Int,(∀j,j < i→∀x,l[j]? =some x→d ∣ x)→d ∣ g)∧(0 < i→g≠1)) ⟨0,none,rfl,rfl,by decide,(fun j h=>absurd h (afC _)),(fun d _=>Int.dvd_zero d),fun h=>absurd h (afj _)⟩ (fun i σ H' _ ⟨g,o,_,e,_⟩=>by rw [e];exact aU.of ha) ?_ ?_⟩
 ·rintro i u σ H' hu ⟨g,o,rfl,rfl,g0,hg,hd,_⟩
  rw [Wp] at hu
  obtain ⟨x,ex,rfl⟩:=aeN.mp hu
  have d1:gz x g ∣ x:=afT ..
  have d2:gz x g ∣ g:=afK ..
  have p0:0≤gz x g:=Int.natCast_nonneg _
  refine ⟨_,rfl,_,rfl,x,g,rfl,?_⟩
  refine ⟨_,rfl,rfl,_,rfl,?_⟩
  refine bf (fun z=>⟨_,rfl,same (.inl fun d FY => ?_)⟩) (fun z=> ?_)
  ·have z' :gz x g=1:=by simpa using of_decide_eq_true z
   have h1:d ∣ gz x g:=apz (tK FY ex) (hd d fun j _ y ey=>tK FY ey)
   rw [z'] at h1
   have:=af2.mpr h1
   simpa using this
  refine ⟨_,_,rfl,rfl,p0,fun j hj y ey=> ?_,fun d h=> ?_,fun _ e=>z (by rw [e];rfl)⟩
  ·rcases afo.mp hj with z | z
   ·exact Int.dvd_trans d2 (hg j z y ey)
   ·subst z
    rw [ex] at ey
    cases ey
    exact d1
  ·exact apz (h i (afe _) x ex) (hd d fun j hj y ey=>h j (af7 hj) y ey)
 ·rintro σ H' ⟨g,o,rfl,rfl,g0,hg,hd,hg1⟩
  rw [aa_] at hg hd hg1
  refine ⟨_,rfl,_,_,rfl,rfl,_,rfl,?_⟩
  refine bf (fun c=> ?_) (fun c=>⟨_,rfl,same (.inr fun j=> ?_)⟩)
  rotate_left
  ·have c' :¬ (1:Int) < g:=fun z=>c (decide_eq_true z)
   by_cases hj:j < l.length
   ·have gz:g=0:=by
     have:=hg1 (by omega)
     omega
    have ej:l[j]? =some l[j]:=gE hj
    have:=hg j hj _ ej
    rw [gz] at this
    rw [getD_mem ej]
    exact Int.zero_dvd.mp this
   ·rw [aeV,aeE (by omega)]
    rfl
  have g1:(1:Int) < g:=of_decide_eq_true c
  have gn:g≠0:=by omega
  refine ⟨_,rfl,a,rfl,⟨_,aU.of ha⟩,fun D nD=> ?_⟩
  refine b_ (cap:=[some (.int g)]) (K:=K) (a:=a) (xs:=l.map V.int) (fun i v _=>∃x,l[i]? =some x∧v=.int (x.fdiv g)) nD (by rw [aa_];exact aeJ hn (by decide)) (fun H2 s2=>aU.of (s2 _ _ ha)) (fun _ _ _ _ _ _ _ h=>h) ?_ ?_
  ·intro i u H2 R hu s2 k
   rw [Wp] at hu
   obtain ⟨x,ex,rfl⟩:=aeN.mp hu
   exact ⟨_,rfl,_,rfl,_,_,rfl,rfl,gn,k _ _ (av.refl _) ⟨x,ex,rfl⟩⟩
  ·intro ys H2 hy dR s2 hD
   rw [aa_] at hy
   have ey:ys=(l.map fun x=>x.fdiv g).map V.int:=by
    refine afg fun i=> ?_
    by_cases hi:i < ys.length
    ·have e1:ys[i]? =some ys[i]:=gE hi
     obtain ⟨x,ex,ev⟩:=dR i _ e1
     rw [e1,ev,Wp,Wp,ex]
     rfl
    ·rw [aeE (by omega),aeE (by simp;omega)]
   have VF:∀j,g*(l.map fun x=>x.fdiv g).getD j 0=l.getD j 0:=fun j=>by
    by_cases hj:j < l.length
    ·have ej:l[j]? =some l[j]:=gE hj
     rw [getD_mem (l:=l.map fun x=>x.fdiv g) (x:=l[j].fdiv g) (by rw [Wp,ej];rfl),getD_mem ej]
     exact (cn gn (hg j hj _ ej)).symm
    ·rw [aeV,aeV,aeE (by simp;omega),aeE (by omega)]
     simp
   refine q _ (l.map fun x=>x.fdiv g) H2 s2 ⟨D,rfl,by rw [hD,ey]⟩ ⟨by simp,g,gn,VF⟩ (.inl fun d FY => ?_) (.inr ⟨D,rfl,nD⟩)
   have h1:d*g ∣ g:=hd (d*g) fun j hj x ex=>by
    rw [← getD_mem ex, ← VF j,afL]
    exact Int.mul_dvd_mul_left g (FY j)
   obtain ⟨k,hk⟩:=h1
   have h2:g*(d*k)=g*1:=by
    rw [Int.mul_one]
    rw [← agr,afL g d]
    exact hk.symm
   have h3:=Int.eq_of_mul_eq_mul_left gn h2
   have h4:d ∣ 1:=⟨k,h3.symm⟩
   simpa using af2.mpr h4
inductive jU (vs:List V)(H:Hp)(Q:VK)(E_:XK):Prop where
 | mk (u v:V) (l m:List Int) (c b1 b2:Nat) (_:vs=[u,v,.int (c:Int)]) (_:Ln H u l) (_:Ln H v m) (_:m.length=l.length) (_:c < l.length) (_:l.length≤1000) (_:m.getD c 0≠0) (_:Bd b1 l) (_:Bd b2 m) (_:b1≤29000000) (_:b2≤29000000) (_:∀v' l' H',av H H' →Ln H' v' l' →nX l m l' c→Bd (b1+b2+1) l' →(l' =l∨Md l')→(v' =u∨∃p,v' =.ref p∧H p=none)→Q v' H'):jU vs H Q E_
theorem IF {a b:Int}(ha:a≠0):a=gz a b*a.fdiv (gz a b)∧b=gz a b*b.fdiv (gz a b)∧gz a b≠0∧a.fdiv (gz a b)≠0∧(a.fdiv (gz a b)).natAbs≤a.natAbs∧(b.fdiv (gz a b)).natAbs≤b.natAbs:=by
 have gn:gz a b≠0:=by
  intro z
  have z' :((afi a b:Nat):Int)=0:=z
  have:afi a b=0:=by omega
  exact ha (Int.gcd_eq_zero_iff.mp this).1
 have d1:gz a b ∣ a:=afT ..
 have d2:gz a b ∣ b:=afK ..
 have e1:=cn gn d1
 refine ⟨e1,cn gn d2,gn,fun z=> ?_,fY gn d1,fY gn d2⟩
 rw [z,agd] at e1
 exact ha e1
theorem IG {l m:List Int}{t u:Int}{ys:List V}(hl:m.length=l.length)(hy:ys.length=l.length)(h:∀(i:Nat) (v:V),ys[i]? =some v→∃x y,l[i]? =some x∧m[i]? =some y∧v=.int (t*x - u*y)):ys=(afm (fun x y=>t*x - u*y) l m).map V.int:=by
 refine afg fun i=> ?_
 by_cases hi:i < ys.length
 ·have e1:ys[i]? =some ys[i]:=gE hi
  obtain ⟨x,y,ex,ey,ev⟩:=h i _ e1
  rw [e1,ev,Wp,afG,ex,ey]
  rfl
 ·rw [aeE (by omega),aeE (by simp;omega)]
theorem CJ {l m:List Int}{t u:Int}(hl:m.length=l.length)(j:Nat):(afm (fun x y=>t*x - u*y) l m).getD j 0=t*l.getD j 0 - u*m.getD j 0:=by
 by_cases hj:j < l.length
 ·have e1:l[j]? =some l[j]:=gE hj
  have e2:m[j]? =some (m[j]'(by omega)):=gE (by omega)
  rw [getD_mem e1,getD_mem e2]
  exact getD_mem (by rw [afG,e1,e2])
 ·rw [aeV,aeV,aeV,aeE (by simp;omega),aeE (by omega),aeE (by omega)]
  simp
theorem wH:aG ["line","lead","column","shared","times","less"] ["line","lead","column"] (ag yo):=sq
theorem Py (ht:P.given.tree=none)(D:Def K mg "cleared" yo ["line","lead","column"])(iy:mg "zip"=none)(vi:Fn P w K mg base (a9 P w) 1 "greatest_shared" ["one","other"] gc)(Xf:Fn P w K mg base (a9 P w) 33 "divided" ["line"] jT):Fn P w K mg base (a9 P w) 34 "cleared" ["line","lead","column"] jU:=by
 refine D.ok wH (fun vs H Q E h=> ?_) (fun f bF A outer s H vs Q E hr h=> ?_)
 ·obtain ⟨u,v,l,m,c,b1,b2,rfl,_⟩:=h
  rfl
 obtain ⟨u,v,l,m,c,b1,b2,rfl,⟨a,rfl,ha⟩,⟨a',rfl,VG⟩,hl,hc,hn,hm,B1,B2,hb1,hb2,q⟩:=h
 refine ⟨_,(ae (bg (aQ cN (aY aX (pv 0) (pv 2) (fun _ _=>rfl)) af (aT _)) (ah (aF (pv 0))) aL)
  (ae (aC (i:=3) wH.nd rfl (ab_ rfl) (aA vi hr.mo pX (aq (aY aX (pv 1) (pv 2) (fun _ _=>rfl)) (aq (aY aX (pv 0) (pv 2) (fun _ _=>rfl)) aa))))
  (ae (aC (i:=4) wH.nd rfl (aff rfl) (aI (fm ht (Ty.cy.py hr (by decide)) rfl rfl rfl rfl rfl) (aY aX (pv 1) (pv 2) (fun _ _=>rfl)) (pv 3)))
  (ae (aC (i:=5) wH.nd rfl (aff rfl) (aI (fm ht (Ty.cy.py hr (by decide)) rfl rfl rfl rfl rfl) (aY aX (pv 0) (pv 2) (fun _ _=>rfl)) (pv 3)))
  (ah (aF (aA Xf hr.mo pX (aq (cD (tn:=["whole","other"]) (fr:=["times","less"]) (caps:=[4,5]) rfl ⟨rfl,by decide+kernel,rfl,by decide+kernel,by decide+kernel,rfl,⟨(by first | exact ab_ rfl | exact aff rfl),⟨(by first | exact ab_ rfl | exact aff rfl),trivial⟩⟩,⟨(by first | exact ab_ rfl | exact aff rfl),⟨(by first | exact ab_ rfl | exact aff rfl),trivial⟩⟩⟩ (uT rfl iy (aq (pv 0) (aq (pv 1) aa))) (fun _ _ _ _=>(qm (K:=K) (n:=2) rfl rfl (aV (aw (i:=0) (show (["whole","other","times","less"]:List Str).Nodup from by decide+kernel) rfl (ab_ rfl)) (aV (aw (i:=1) (show (["whole","other","times","less"]:List Str).Nodup from by decide+kernel) rfl (ab_ rfl)) cC)))) (fun _ _ _ _=>cj) (fun _ _ _ _=>(aI cL (aI cf (pv 2) (pv 0)) (aI cf (pv 3) (pv 1))))) aa)))))))),?_⟩
 have ea:=pC (l:=l) hc
 have em:=pC (l:=m) (j:=c) (by omega)
 refine ⟨_,rfl,_,rfl,a,_,_,_,rfl,rfl,aU.of ha,ea,rfl,_,rfl,?_⟩
 refine bf (fun z=> ?_) (fun z=> ?_)
 ·have z' :l.getD c 0=0:=by simpa using of_decide_eq_true z
  exact ⟨_,rfl,q _ l H (av.refl H) ⟨a,rfl,ha⟩ ⟨rfl,z',1,1,0,by decide,by decide,fun j=>by omega⟩ (B1.up (by omega)) (.inl rfl) (.inl rfl)⟩
 ·obtain ⟨f1,f2,f3,f4,f5,f6⟩:=IF (a:=m.getD c 0) (b:=l.getD c 0) hm
  refine ⟨_,rfl,_,rfl,a',_,_,_,rfl,rfl,aU.of VG,em,_,rfl,_,rfl,a,_,_,_,rfl,rfl,aU.of ha,ea,_,_,rfl,?_⟩
  refine ⟨_,rfl,_,rfl,a',_,_,_,rfl,rfl,aU.of VG,em,_,rfl,_,_,rfl,rfl,f3,?_⟩
  refine ⟨_,rfl,_,rfl,a,_,_,_,rfl,rfl,aU.of ha,ea,_,rfl,_,_,rfl,rfl,f3,?_⟩
  refine ⟨_,rfl,_,rfl,a,a',rfl,⟨_,aU.of ha⟩,⟨_,aU.of VG⟩,fun D1 n1=> ?_⟩
  have st:((m.getD c 0).fdiv (gz (m.getD c 0) (l.getD c 0))).natAbs≤2^b2:=ad_ f5 (B2 c)
  have su:((l.getD c 0).fdiv (gz (m.getD c 0) (l.getD c 0))).natAbs≤2^b1:=ad_ f6 (B1 c)
  refine sM (cap:=[some (.int ((m.getD c 0).fdiv (gz (m.getD c 0) (l.getD c 0)))),some (.int ((l.getD c 0).fdiv (gz (m.getD c 0) (l.getD c 0))))]) (K:=K) (xs:=l.map V.int) (ys:=m.map V.int) (fun i v _=>∃x y,l[i]? =some x∧m[i]? =some y∧v=.int ((m.getD c 0).fdiv (gz (m.getD c 0) (l.getD c 0))*x - (l.getD c 0).fdiv (gz (m.getD c 0) (l.getD c 0))*y)) n1 (by rw [aa_];exact aeJ hn (by decide)) (by simpa using hl) (fun H2 s2=>aU.of (s2 _ _ ha)) (fun H2 s2=>aU.of (s2 _ _ VG)) (fun _ _ _ _ _ _ _ h=>h) ?_ ?_
  ·intro i x y H2 R ex ey s2 k
   rw [Wp] at ex ey
   obtain ⟨x',K',rfl⟩:=aeN.mp ex
   obtain ⟨y',EY,rfl⟩:=aeN.mp ey
   refine ⟨_,rfl,_,rfl,_,_,rfl,rfl,kZ st (B1.mem (ir K')) (by omega) (by omega),?_⟩
   exact ⟨_,rfl,_,rfl,_,_,rfl,rfl,kZ su (B2.mem (ir EY)) (by omega) (by omega),_,_,rfl,rfl,k _ _ (av.refl _) ⟨x',y',K',EY,rfl⟩⟩
  ·intro ys H2 hy dR s2 hD
   rw [aa_] at hy
   have ey:=IG hl hy dR
   refine ⟨_,_,rfl,⟨D1,rfl,by rw [hD,ey]⟩,by simp;omega,fun v' l' H3 s3 L3 dv pz fr=> ?_⟩
   obtain ⟨g,gn,hg⟩:=dv.VF
   have EW:∀j,g*l'.getD j 0=(m.getD c 0).fdiv (gz (m.getD c 0) (l.getD c 0))*l.getD j 0 - (l.getD c 0).fdiv (gz (m.getD c 0) (l.getD c 0))*m.getD j 0:=fun j=>by rw [hg j,CJ hl]
   refine q v' l' H3 (s2.trans s3) L3 ⟨by rw [dv.len];simp [hl],?_,g,_,_,gn,f4,EW⟩ (fun j=> ?_) (.inr pz) ?_
   ·have e:=EW c
    have z2:(m.getD c 0).fdiv (gz (m.getD c 0) (l.getD c 0))*l.getD c 0 - (l.getD c 0).fdiv (gz (m.getD c 0) (l.getD c 0))*m.getD c 0=0:=by
     generalize gz (m.getD c 0) (l.getD c 0)=G at*
     generalize (m.getD c 0).fdiv G=t at*
     generalize (l.getD c 0).fdiv G=u at*
     rw [f1,f2]
     grind
    rw [z2] at e
    rcases aoM.mp e with y | y
    ·exact absurd y gn
    ·exact y
   ·have b:(g*l'.getD j 0).natAbs≤2^(b1+b2+1):=by
     rw [EW j,Int.sub_eq_add_neg]
     refine LO (my (qt st (B1 j)) (by omega)) ?_
     rw [aoT]
     exact qt su (B2 j)
    exact ad_ (dk gn) b
   ·rcases fr with z | ⟨p,e,n⟩
    ·exact .inr ⟨D1,z,n1⟩
    ·exact .inr ⟨p,e,s2.free n⟩
inductive qG (K:Frag)(vs:List V)(H:Hp)(Q:VK)(E_:XK):Prop where
 | mk (a:Addr) (us:List V) (ls:List (List Int:_)) (c:Nat) (_:vs=[.ref a,.int (c:Int)]) (_:aU K H a us) (_:nY H us ls) (_:(∀l∈ls,c < l.length)) (_:(∀(i:Nat) (l:List Int) (H' :Hp),av H H' →ls[i]? =some l→l.getD c 0≠0→Q (.int (i:Int)) H')) (_:((∀l∈ls,l.getD c 0=0)→∀H',av H H' →Q .cE H')):qG K vs H Q E_
theorem nY.at {H:Hp}{us:List V}{ls:List (List Int)}(h:nY H us ls){i:Nat}{u:V}(e:us[i]? =some u):∃l,ls[i]? =some l∧Ln H u l:=by
 have hi:i < us.length:=(be.mp e).1
 have hl:=h.1
 have e2:ls[i]? =some (ls[i]'(by omega)):=gE (by omega)
 exact ⟨_,e2,h.2 i u _ e e2⟩
theorem nY.at' {H:Hp}{us:List V}{ls:List (List Int)}(h:nY H us ls){i:Nat}{l:List Int}(e:ls[i]? =some l):∃u,us[i]? =some u∧Ln H u l:=by
 have hi:i < ls.length:=(be.mp e).1
 have hl:=h.1
 have e2:us[i]? =some (us[i]'(by omega)):=gE (by omega)
 exact ⟨_,e2,h.2 i _ l e2 e⟩
theorem CK:aG ["lines","column","at","line"] ["lines","column"] (ag yn):=sq
theorem Pz (D:Def K mg "first_not_nought" yn ["lines","column"])(dy:mg "enumerate"=none):Fn P w K mg base (a9 P w) 1 "first_not_nought" ["lines","column"] (qG K):=by
 refine D.ok CK (fun vs H Q E h=> ?_) (fun f bF A outer s H vs Q E hr h=> ?_)
 ·obtain ⟨a,us,ls,c,rfl,_⟩:=h
  rfl
 obtain ⟨a,us,ls,c,rfl,hS,L,hc,q1,q2⟩:=h
 have lu:=L.1
 refine ⟨_,(ae (bw PassesOwn.never rfl (v_ rfl dy (aq (pv 0) aa)) (dB rfl (aV (aw (i:=2) CK.nd rfl (ab_ rfl)) (aV (aw (i:=3) CK.nd rfl (ab_ rfl)) cC))) (ah (bg (aQ fG (aY aX (pv 3) (pv 1) (fun _ _=>rfl)) af (aT _)) (ah (aF (pv 2))) aL)))
  (ah (aF lM))),?_⟩
 refine ⟨_,rfl,a,rfl,⟨_,hS⟩,sX (K:=K) (a:=a) (xs:=us) (fun i σ H' =>∃o1 o2:Option V,σ=[some (.ref a),some (.int (c:Int)),o1,o2]∧av H H' ∧∀j,j < i→∀l,ls[j]? =some l→l.getD c 0=0) ⟨none,none,rfl,av.refl H,fun j h=>absurd h (afC _)⟩ (fun i σ H' _ ⟨o1,o2,_,s1,_⟩=>s1.seq hS) ?_ ?_⟩
 ·rintro i u σ H' p hu ⟨o1,o2,rfl,s1,z⟩ np
  obtain ⟨l,el,b,rfl,hb⟩:=L.at hu
  have s2:=s1.trans (aK np (.tup [.int (i:Int),.ref b]))
  have hcl:=hc l (ir el)
  refine ⟨p,_,rfl,bL.of ak,rfl,_,_,rfl,_,_,rfl,rfl,?_⟩
  refine ⟨_,rfl,_,rfl,b,_,_,_,rfl,rfl,aU.of (s2 _ _ hb),pC hcl,rfl,_,rfl,?_⟩
  refine bf (fun y=> ?_) (fun y=> ?_)
  ·have y' :l.getD c 0≠0:=by simpa using y
   exact ⟨_,rfl,q1 i l _ s2 el y'⟩
  ·have y' :l.getD c 0=0:=by simpa using y
   refine ⟨_,_,rfl,s2,fun j hj l' e' => ?_⟩
   rcases afo.mp hj with w | w
   ·exact z j w l' e'
   ·subst w
    rw [el] at e'
    cases e'
    exact y'
 ·rintro σ H' ⟨o1,o2,rfl,s1,z⟩
  refine q2 (fun l hl=> ?_) H' s1
  obtain ⟨j,hj⟩:=aeK hl
  exact z j (by have:=(be.mp hj).1;omega) l hj
structure Red (os:List (List Int))(L c b:Nat)(nd:List (Nat×List Int))(lv:List (List Int)):Prop where
 ow:∀x∈nd,x.2.length=L
 iK:∀l∈lv,l.length=L
 cols:∀x∈nd,x.1 < c
 asc:(nd.map (·.1)).Pairwise (· < ·)
 here:∀x∈nd,x.2.getD x.1 0≠0
 off:∀x∈nd,∀y∈nd,x.1≠y.1→x.2.getD y.1 0=0
 low:∀x∈nd,∀j,j < x.1→x.2.getD j 0=0
 zero:∀l∈lv,∀j,j < c→l.getD j 0=0
 tN:∀x∈nd,jN os x.2
 jh:∀l∈lv,jN os l
 sol:∀z,((∀x∈nd,ev x.2 z=0)∧(∀l∈lv,ev l z=0)) ↔ ∀o∈os,ev o z=0
 EZ:∀x∈nd,Bd b x.2
 CL:∀l∈lv,Bd b l
 cnt:nd.length+lv.length=os.length
theorem Red.start {os:List (List Int)}{L b:Nat}(hL:∀o∈os,o.length=L)(hb:∀o∈os,Bd b o):Red os L 0 b [] os where
 ow:=by simp
 iK:=hL
 cols:=by simp
 asc:=by simp
 here:=by simp
 off:=by simp
 low:=by simp
 zero:=fun _ _ j h=>absurd h (afC _)
 tN:=by simp
 jh:=fun l h=>sW h
 sol:=fun z=>by simp
 EZ:=by simp
 CL:=hb
 cnt:=by simp
theorem Red.skip {os:List (List Int)}{L c b:Nat}{nd:List (Nat×List Int)}{lv:List (List Int)}(h:Red os L c b nd lv)(hz:∀l∈lv,l.getD c 0=0):Red os L (c+1) b nd lv where
 ow:=h.ow
 iK:=h.iK
 cols:=fun x hx=>af7 (h.cols x hx)
 asc:=h.asc
 here:=h.here
 off:=h.off
 low:=h.low
 zero:=fun l hl j hj=>by
  rcases afo.mp hj with z | z
  ·exact h.zero l hl j z
  ·subst z
   exact hz l hl
 tN:=h.tN
 jh:=h.jh
 sol:=h.sol
 EZ:=h.EZ
 CL:=h.CL
 cnt:=h.cnt
structure Made (os:List (List Int))(lead:List Int)(c b:Nat)(xs ys:List (List Int)):Prop where
 len:ys.length=xs.length
 to:∀(i:Nat) (x:List Int),xs[i]? =some x→∃y,ys[i]? =some y∧nX x lead y c∧Bd b y
theorem Made.ex {os:List (List Int)}{lead:List Int}{c b:Nat}{xs ys:List (List Int)}(h:Made os lead c b xs ys){y:List Int}(hy:y∈ys):∃x∈xs,nX x lead y c∧Bd b y:=by
 obtain ⟨i,hi⟩:=aeK hy
 have hl:=h.len
 have kF:i < ys.length:=(be.mp hi).1
 have e:xs[i]? =some (xs[i]'(by omega)):=gE (by omega)
 obtain ⟨y',e',r⟩:=h.to i _ e
 rw [hi] at e'
 cases e'
 exact ⟨_,ir e,r⟩
theorem Made.all {os:List (List Int)}{lead:List Int}{c b:Nat}{xs ys:List (List Int)}(h:Made os lead c b xs ys){x:List Int}(hx:x∈xs):∃y∈ys,nX x lead y c∧Bd b y:=by
 obtain ⟨i,hi⟩:=aeK hx
 obtain ⟨y,e,r⟩:=h.to i x hi
 exact ⟨y,ir e,r⟩
theorem Red.step {os:List (List Int)}{L c b:Nat}{nd ik :List (Nat×List Int)}{lv vc rest:List (List Int)}{lead:List Int}(h:Red os L c b nd lv)(fw:lead∈lv)(tO:∀l∈rest,l∈lv)(AR:∀l∈lv,l=lead∨l∈rest)(hlen:rest.length+1=lv.length)
  (hc:lead.getD c 0≠0) (ML:Made os lead c (2*b+1) rest vc) (hk:ik.map (·.1)=nd.map (·.1)) (MN:Made os lead c (2*b+1) (nd.map (·.2)) (ik.map (·.2))):Red os L (c+1) (2*b+1) (ik ++[(c,lead)]) vc :=by
 have ll:=h.iK lead fw
 have lz:=h.zero lead fw
 have Xg :ik.length=nd.length:=by simpa using congrArg afJ hk
 have pairs:∀x' ∈ik,∃x∈nd,x.1=x'.1∧nX x.2 lead x'.2 c∧Bd (2*b+1) x'.2:=by
  intro x' xk
  obtain ⟨i,hi⟩:=aeK xk
  have kF:i < ik.length:=(be.mp hi).1
  have e:nd[i]? =some (nd[i]'(by omega)):=gE (by omega)
  have e1:(ik.map (·.1))[i]? =(nd.map (·.1))[i]? :=by rw [hk]
  rw [Wp,Wp,hi,e] at e1
  obtain ⟨y,e2,r⟩:=MN.to i (nd[i]'(by omega)).2 (by rw [Wp,e];rfl)
  rw [Wp,hi] at e2
  simp at e1 e2
  subst e2
  exact ⟨_,ir e,e1.symm,r⟩
 have back:∀x∈nd,∃x' ∈ik,x'.1=x.1∧nX x.2 lead x'.2 c:=by
  intro x hx
  obtain ⟨i,hi⟩:=aeK hx
  have kF:i < nd.length:=(be.mp hi).1
  have e:ik[i]? =some (ik[i]'(by omega)):=gE (by omega)
  have e1:(ik.map (·.1))[i]? =(nd.map (·.1))[i]? :=by rw [hk]
  rw [Wp,Wp,hi,e] at e1
  obtain ⟨y,e2,r⟩:=MN.to i x.2 (by rw [Wp,hi];rfl)
  rw [Wp,e] at e2
  simp at e1 e2
  exact ⟨_,ir e,e1,by rw [e2];exact r.1⟩
 have IH:∀x∈ik ++[(c,lead)],x∈ik ∨x=(c,lead):=fun x hx=>by simpa using hx
 exact {
  ow:=fun x hx=>by
   rcases IH x hx with z | z
   ·obtain ⟨y,hy,_,k,_⟩:=pairs x z
    rw [k.len]
    exact h.ow y hy
   ·subst z
    exact ll
  iK:=fun l hl=>by
   obtain ⟨x,hx,k,_⟩:=ML.ex hl
   rw [k.len]
   exact h.iK x (tO x hx)
  cols:=fun x hx=>by
   rcases IH x hx with z | z
   ·obtain ⟨y,hy,e,_⟩:=pairs x z
    rw [← e]
    exact af7 (h.cols y hy)
   ·subst z
    exact afe _
  asc:=by
   rw [aeR,hk,List.pairwise_append]
   refine ⟨h.asc,by simp,fun a ha b' gF => ?_⟩
   obtain ⟨x,hx,rfl⟩:=abt.mp ha
   have:b' =c:=by simpa using gF
   subst this
   exact h.cols x hx
  here:=fun x hx=>by
   rcases IH x hx with z | z
   ·obtain ⟨y,hy,e,k,_⟩:=pairs x z
    rw [← e]
    exact k.at (lz _ (h.cols y hy)) (h.here y hy)
   ·subst z
    exact hc
  off:=fun x hx y hy ne=>by
   rcases IH x hx with z | z <;> rcases IH y hy with u | u
   ·obtain ⟨x0,VE,e0,k0,_⟩:=pairs x z
    obtain ⟨y0,y8,e1,_⟩:=pairs y u
    rw [← e1]
    exact k0.zero (h.off x0 VE y0 y8 (by rw [e0,e1];exact ne)) (lz _ (h.cols y0 y8))
   ·subst u
    obtain ⟨x0,VE,e0,k0,_⟩:=pairs x z
    exact k0.BI
   ·subst z
    obtain ⟨y0,y8,e1,_⟩:=pairs y u
    rw [← e1]
    exact lz _ (h.cols y0 y8)
   ·subst z
    subst u
    exact absurd rfl ne
  low:=fun x hx j hj=>by
   rcases IH x hx with z | z
   ·obtain ⟨y,hy,e,k,_⟩:=pairs x z
    rw [← e] at hj
    exact k.zero (h.low y hy j hj) (lz j (aoH hj (h.cols y hy)))
   ·subst z
    exact lz j hj
  zero:=fun l hl j hj=>by
   obtain ⟨x,hx,k,_⟩:=ML.ex hl
   rcases afo.mp hj with z | z
   ·exact k.zero (h.zero x (tO x hx) j z) (lz j z)
   ·subst z
    exact k.BI
  tN:=fun x hx=>by
   rcases IH x hx with z | z
   ·obtain ⟨y,hy,_,k,_⟩:=pairs x z
    exact k.comb (h.tN y hy) (h.jh lead fw)
   ·subst z
    exact h.jh lead fw
  jh:=fun l hl=>by
   obtain ⟨x,hx,k,_⟩:=ML.ex hl
   exact k.comb (h.jh x (tO x hx)) (h.jh lead fw)
  sol:=fun z=>by
   rw [← h.sol z]
   constructor
   ·rintro ⟨a1,a2⟩
    have az:ev lead z=0:=a1 (c,lead) (by simp)
    refine ⟨fun x hx=> ?_,fun l hl=> ?_⟩
    ·obtain ⟨x',xk,_,k⟩:=back x hx
     exact (k.ev (by rw [ll,h.ow x hx]) az).mp (a1 x' (by simp [xk]))
    ·rcases AR l hl with u | u
     ·rw [u]
      exact az
     ·obtain ⟨y,hy,k,_⟩:=ML.all u
      exact (k.ev (by rw [ll,h.iK l hl]) az).mp (a2 y hy)
   ·rintro ⟨a1,a2⟩
    have az:=a2 lead fw
    refine ⟨fun x hx=> ?_,fun l hl=> ?_⟩
    ·rcases IH x hx with u | u
     ·obtain ⟨y,hy,_,k,_⟩:=pairs x u
      exact (k.ev (by rw [ll,h.ow y hy]) az).mpr (a1 y hy)
     ·subst u
      exact az
    ·obtain ⟨x,hx,k,_⟩:=ML.ex hl
     exact (k.ev (by rw [ll,h.iK x (tO x hx)]) az).mpr (a2 x (tO x hx))
  EZ:=fun x hx=>by
   rcases IH x hx with z | z
   ·obtain ⟨y,hy,_,_,k⟩:=pairs x z
    exact k
   ·subst z
    exact (h.CL lead fw).up (by omega)
  CL:=fun l hl=>by
   obtain ⟨x,hx,_,k⟩:=ML.ex hl
   exact k
  cnt:=by
   have a:=ML.len
   have b:=h.cnt
   rw [aeO,Xg]
   simp
   omega}
def pE (H:Hp)(kvs:List (Key×V))(nd:List (Nat×List Int)):Prop:=kvs.length=nd.length∧∀(i:Nat) (kv:Key×V) (x:Nat×List Int),kvs[i]? =some kv→nd[i]? =some x→kv.1=.inl (x.1:Int)∧Ln H kv.2 x.2
theorem pE.same {H H' :Hp}{kvs:List (Key×V)}{nd:List (Nat×List Int)}(h:pE H kvs nd)(s:av H H'):pE H' kvs nd:=⟨h.1,fun i kv x e1 e2=>⟨(h.2 i kv x e1 e2).1,(h.2 i kv x e1 e2).2.same s⟩⟩
theorem Ln.put {H:Hp}{v:V}{l:List Int}{d:Addr}{kvs:List (Key×V)}{o:HO}(h:Ln H v l)(e:H d=some (.dK kvs)):Ln (upd H d o) v l:=by
 obtain ⟨p,e1,k⟩:=h
 exact ⟨p,e1,by rw [aj (fun z=>by rw [z,e] at k;cases k)];exact k⟩
theorem nY.put {H:Hp}{us:List V}{ls:List (List Int)}{d:Addr}{kvs:List (Key×V)}{o:HO}(h:nY H us ls)(e:H d=some (.dK kvs)):nY (upd H d o) us ls:=⟨h.1,fun i u l e1 e2=>(h.2 i u l e1 e2).put e⟩
theorem pE.put {H:Hp}{kvs kv2:List (Key×V)}{nd:List (Nat×List Int)}{d:Addr}{o:HO}(h:pE H kvs nd)(e:H d=some (.dK kv2)):pE (upd H d o) kvs nd:=⟨h.1,fun i kv x e1 e2=>⟨(h.2 i kv x e1 e2).1,(h.2 i kv x e1 e2).2.put e⟩⟩
theorem ji {H H' :Hp}{d:Addr}{o:HO}(s:av H H')(n:H d=none):av H (upd H' d o):=fun b o' e=>by
 rw [aj (fun z=>by rw [z,n] at e;cases e)]
 exact s _ _ e
theorem pE.at {H:Hp}{kvs:List (Key×V)}{nd:List (Nat×List Int)}(h:pE H kvs nd){i:Nat}{x:Nat×List Int}(e:nd[i]? =some x):∃v,kvs[i]? =some (.inl (x.1:Int),v)∧Ln H v x.2:=by
 have hi:i < nd.length:=(be.mp e).1
 have hl:=h.1
 have e2:kvs[i]? =some (kvs[i]'(by omega)):=gE (by omega)
 obtain ⟨a,b⟩:=h.2 i _ x e2 e
 exact ⟨(kvs[i]'(by omega)).2,by rw [e2, ← a],b⟩
theorem pE.keys {H:Hp}{kvs:List (Key×V)}{nd:List (Nat×List Int)}(h:pE H kvs nd):kvs.map (·.1)=nd.map (fun x=>(ah_ (x.1:Int):Key)):=by
 refine afg fun i=> ?_
 have hl:=h.1
 rw [Wp,Wp]
 by_cases hi:i < nd.length
 ·have e:nd[i]? =some nd[i]:=gE hi
  obtain ⟨v,e2,_⟩:=h.at e
  rw [e,e2]
  rfl
 ·rw [aeE (by omega),aeE (by omega)]
  rfl
theorem h7 {k:Key}{v:V}:∀{kvs:List (Key×V)} {i:Nat},(kvs.map (·.1)).Nodup→kvs[i]? =some (k,v)→bS kvs k=some v
 | [],_,_,e=>by simp at e
 | p::r,0,_,e=>by
  cases e
  exact bK (p:=(k,v)) rfl
 | p::r,i+1,n,e=>by
  rw [ac_,ae9] at n
  have e' :r[i]? =some (k,v):=by simpa using e
  have ne:¬ p.1=k:=fun z=>n.1 (by rw [z];exact abt.mpr ⟨(k,v),ir e',rfl⟩)
  rw [bB ne]
  exact h7 n.2 e'
theorem wI {k:Key}:∀{kvs:List (Key×V)},k∉kvs.map (·.1)→bS kvs k=none
 | [],_=>rfl
 | p::r,h=>by
  have h' :k≠p.1∧k∉r.map (·.1):=by simpa using h
  rw [bB (fun z=>h'.1 z.symm)]
  exact wI h'.2
theorem map_put {k:Key}{v v' :V}:∀{kvs:List (Key×V)} {i:Nat},(kvs.map (·.1)).Nodup→kvs[i]? =some (k,v)→kvs.map (fun kv=>if kv.1=k then (kv.1,v') else kv)=kvs.set i (k,v')
 | [],_,_,e=>by simp at e
 | p::r,0,n,e=>by
  rw [ac_,ae9] at n
  cases e
  have hr:r.map (fun kv=>if kv.1=k then (kv.1,v') else kv)=r:=by
   refine (ae3 (fun q hq=> ?_)).trans (List.map_id r)
   have ne:¬ q.1=k:=fun z=>n.1 (by show k∈_;rw [← z];exact abt.mpr ⟨q,hq,rfl⟩)
   rw [if_neg ne]
   rfl
  rw [ac_,hr,if_pos rfl,List.set_cons_zero]
 | p::r,i+1,n,e=>by
  rw [ac_,ae9] at n
  have e' :r[i]? =some (k,v):=by simpa using e
  have ne:¬ p.1=k:=fun z=>n.1 (by rw [z];exact abt.mpr ⟨(k,v),ir e',rfl⟩)
  rw [ac_,if_neg ne,map_put n.2 e',List.set_cons_succ]
theorem II {k:Key}{v v' :V}{kvs:List (Key×V)}{i:Nat}(n:(kvs.map (·.1)).Nodup)(e:kvs[i]? =some (k,v)):putK kvs k v' =kvs.set i (k,v'):=by
 unfold putK
 rw [fZ,h7 n e]
 exact map_put n e
theorem pE.set {H:Hp}{kvs:List (Key×V)}{nd:List (Nat×List Int)}(h:pE H kvs nd){i c:Nat}{v:V}{l:List Int}(hv:Ln H v l):pE H (kvs.set i (.inl (c:Int),v)) (nd.set i (c,l)):=by
 have hl:=h.1
 refine ⟨by simp [hl],fun j kv x e1 e2=> ?_⟩
 rw [aft] at e1 e2
 by_cases z:i=j
 ·subst z
  rw [if_pos rfl] at e1 e2
  by_cases hi:i < kvs.length
  ·rw [if_pos hi] at e1
   rw [if_pos (by omega)] at e2
   cases e1
   cases e2
   exact ⟨rfl,hv⟩
  ·rw [if_neg hi] at e1
   cases e1
 ·rw [if_neg z] at e1 e2
  exact h.2 j kv x e1 e2
theorem pE.snoc {H:Hp}{kvs:List (Key×V)}{nd:List (Nat×List Int)}(h:pE H kvs nd){c:Nat}{v:V}{l:List Int}(hv:Ln H v l):pE H (kvs++[(.inl (c:Int),v)]) (nd++[(c,l)]):=by
 have hl:=h.1
 refine ⟨by simp [hl],fun j kv x e1 e2=> ?_⟩
 by_cases z:j < kvs.length
 ·rw [aeL z] at e1
  rw [aeL (by omega)] at e2
  exact h.2 j kv x e1 e2
 ·rw [aeP (by omega)] at e1 e2
  rw [← hl] at e2
  by_cases y:j - kvs.length=0
  ·rw [y] at e1 e2
   cases e1
   cases e2
   exact ⟨rfl,hv⟩
  ·rw [aeE (by simp;omega)] at e1
   cases e1
theorem keys_nodup:∀{nd:List (Nat×List Int)},(nd.map (·.1)).Pairwise (· < ·)→(nd.map (fun x=>(ah_ (x.1:Int):Key))).Nodup
 | [],_=>by simp
 | x::r,h=>by
  rw [ac_,ao7] at h
  rw [ac_,ae9]
  refine ⟨fun z=> ?_,keys_nodup h.2⟩
  obtain ⟨y,hy,e⟩:=abt.mp z
  have e' :(y.1:Int)=x.1:=apr e
  have:=h.1 y.1 (abt.mpr ⟨y,hy,rfl⟩)
  omega
def bb (b k:Nat):Nat:=(k+1)*(b+11)
theorem qH (b:Nat){k m:Nat}(h:k≤m):bb b k≤bb b m:=aeX _ (by omega)
theorem qI (b k:Nat):b≤bb b k:=by
 unfold bb
 rw [afx,aoV]
 omega
theorem Red.Xh {os:List (List Int)}{L c b:Nat}{nd:List (Nat×List Int)}{lv:List (List Int)}(R:Red os L c b nd lv):zE nd:=⟨R.asc.imp fun h e=>by omega,R.here,R.off⟩
def Pr (os:List (List Int))(l:List Int):Prop:=l∈os∨Md l
theorem Red.small {os:List (List Int)}{L c b b0 k:Nat}{nd:List (Nat×List Int)}{lv ps qs:List (List Int)}(R:Red os L c b nd lv)(O:zF os nd lv ps qs)(hb:∀o∈os,Bd b0 o)(hk:nd.length≤k)(CM:k≤1000)(pN:∀x∈nd,Pr os x.2)(pL:∀l∈lv,Pr os l):Red os L c (bb b0 k) nd lv:=by
 have le:∀{n:Nat},n≤(nd.length+1)*((2*(nd.length+1)*2^b0)^nd.length*2^b0)→n≤2^bb b0 k:=fun {n} h=>ad_ h (ad_ (Ma (by omega)) (ae0 (by decide) (aeX _ (by omega))))
 have z:∀{n:Nat},n=0→n≤2^bb b0 k:=fun {n} h=>by rw [h];exact ae' _
 refine {R with EZ:=fun x hx j=> ?_,CL:=fun l hl j=> ?_}
 ·rcases pN x hx with h | h | h
  ·exact ad_ (hb _ h j) (ae0 (by decide) (qI _ _))
  ·exact le (O.need R.Xh hx hb h j)
  ·exact z (by rw [h j];rfl)
 ·rcases pL l hl with h | h | h
  ·exact ad_ (hb _ h j) (ae0 (by decide) (qI _ _))
  ·obtain ⟨i,ei⟩:=aeK hl
   exact le (O.left R.Xh ei (fun x hx=>R.zero l hl x.1 (R.cols x hx)) hb h j)
  ·exact z (by rw [h j];rfl)
theorem lj {xs:List V}{i:Nat}(h:i≤xs.length):fW xs none (some (i:Int))=xs.take i:=by
 unfold fW
 rw [HT.kR,HT.r9,agv h]
 rfl
theorem jV {xs:List V}{i:Nat}(h:i≤xs.length):fW xs (some (i:Int)) none=xs.drop i:=by
 unfold fW
 rw [HT.kR,HT.r9,agv h]
 exact afu (by simp)
theorem Red.up {os:List (List Int)}{L c b b' :Nat}{nd:List (Nat×List Int)}{lv:List (List Int)}(h:Red os L c b nd lv)(hb:b≤b'):Red os L c b' nd lv:={h with EZ:=fun x hx=>(h.EZ x hx).up hb,CL:=fun x hx=>(h.CL x hx).up hb}
theorem nY.erase {H:Hp}{us:List V}{ls:List (List Int)}(h:nY H us ls)(j:Nat):nY H (us.eraseIdx j) (ls.eraseIdx j):=by
 have hl:=h.1
 refine ⟨by rw [afO,afO,hl],fun i u l e1 e2=> ?_⟩
 rw [afY] at e1 e2
 by_cases z:i < j
 ·rw [if_pos z] at e1 e2
  exact h.2 _ _ _ e1 e2
 ·rw [if_neg z] at e1 e2
  exact h.2 _ _ _ e1 e2
theorem jW {α β:Type}{P:Nat→α→β→Prop}:∀(xs:List α),(∀i x,xs[i]? =some x→∃y,P i x y)→∃ys:List β,ys.length=xs.length∧∀i x y,xs[i]? =some x→ys[i]? =some y→P i x y
 | [],_=>⟨[],rfl,fun i x y e=>by simp at e⟩
 | x::xs,h=>by
  obtain ⟨y,hy⟩:=h 0 x rfl
  obtain ⟨ys,hl,hp⟩:=jW (P:=fun i=>P (i+1)) xs (fun i x e=>h (i+1) x (by simpa using e))
  refine ⟨y::ys,by simp [hl],fun i x' y' e1 e2=> ?_⟩
  cases i with
  | zero=>
   cases e1
   cases e2
   exact hy
  | succ i=>exact hp i x' y' (by simpa using e1) (by simpa using e2)
inductive jX (K:Frag)(vs:List V)(H:Hp)(Q:VK)(E_:XK):Prop where
 | mk (a:Addr) (us:List V) (os:List (List Int:_)) (L m b:Nat) (_:vs=[.ref a,.int (m:Int)]) (_:aU K H a us) (_:nY H us os) (_:(∀o∈os,o.length=L)) (_:m≤L) (_:L≤1000) (_:os.length≤1000) (_:(∀o∈os,Bd b o)) (_:bb b (min m os.length)≤29000000) (_:∀(p d a' :Addr) (kvs:List (Key×V)) (ki :List V) (nd:List (Nat×List Int)) (lv:List (List Int)) (H' :Hp),av H H' →H d=none→H p=none→H' p=some (.tup [.ref d,.ref a'])→H' d=some (.dK kvs)→aU K H' a' ki →pE H' kvs nd→nY H' ki lv→Red os L m (bb b (min m os.length)) nd lv→Q (.ref p) H'):jX K vs H Q E_
theorem kj:aG ["lines","many","needed","left","column","at","lead","place"] ["lines","many"] (ag ym):=sq
theorem PD (D:Def K mg "reduced" ym ["lines","many"])(bu:mg "range"=none)(bN:mg "list"=none)(Xi:Fn P w K mg base (a9 P w) 1 "first_not_nought" ["lines","column"] (qG K))(PH:Fn P w K mg base (a9 P w) 34 "cleared" ["line","lead","column"] jU):Fn P w K mg base (a9 P w) 35 "reduced" ["lines","many"] (jX K):=by
 refine D.ok kj (fun vs H Q E h=> ?_) (fun f bF A outer s H vs Q E hr h=> ?_)
 ·obtain ⟨a,us,os,L,m,b,rfl,_⟩:=h
  rfl
 obtain ⟨a,us,os,L,m,b,rfl,hS,hL,hlen,hm,FA,ho,hB,hb,q⟩:=h
 refine ⟨_,(ae (aC (i:=2) kj.nd rfl (ab_ rfl) d6)
  (ae (aC (i:=3) kj.nd rfl (ab_ rfl) (pv 0))
  (ae (bw PassesOwn.never rfl (bM rfl bu (aq (pv 1) aa)) (aw (i:=4) kj.nd rfl (aff rfl)) (ae (aC (i:=5) kj.nd rfl (ab_ rfl) (aA Xi hr.mo pX (aq (pv 3) (aq (pv 4) aa))))
   (ae (bg (aQ AA (pv 5) lM (aT _)) (ah rT) aL)
   (ae (aC (i:=6) kj.nd rfl (aff rfl) (aY aX (pv 3) (pv 5) (fun _ _=>rfl)))
   (ae (g6 (i:=3) kj.nd rfl (ab_ rfl) (tn:=["line"]) (fr:=["lead","column"]) (caps:=[6,4]) rfl ⟨rfl,by decide+kernel,rfl,by decide+kernel,by decide+kernel,rfl,⟨(by first | exact ab_ rfl | exact aff rfl),⟨(by first | exact ab_ rfl | exact aff rfl),trivial⟩⟩,⟨(by first | exact ab_ rfl | exact aff rfl),⟨(by first | exact ab_ rfl | exact aff rfl),trivial⟩⟩⟩ (bh (aI iF (dj eG (pv 3) eE (dD (pv 5))) (dj eG (pv 3) (dD (aI bH (pv 5) af)) eE))) (fun _ _ _ _=>(aw (i:=0) (show (["line","lead","column"]:List Str).Nodup from by decide+kernel) rfl (ab_ rfl))) (fun _ _ _ _=>cj) (fun _ _ _ _=>(aA PH hr.mo (mj (by first | assumption | exact a9.mh) rfl) (aq (pv 0) (aq (pv 1) (aq (pv 2) aa))))))
   (ae (bw PassesOwn.never rfl (bh (ck (dP rfl) rfl bN gk (aq (pv 2) aa))) (aw (i:=7) kj.nd rfl (ab_ rfl)) (ah (eO (bU hr) (pv 2) (pv 7) (aA PH hr.mo pX (aq (bX (bU hr) (pv 2) (pv 7) (fun _ _=>rfl)) (aq (pv 6) (aq (pv 4) aa)))) rfl)))
   (ah (eO (bU hr) (pv 2) (pv 4) (pv 6) rfl))))))))
  (ah (aF (aZ (aq (pv 2) (aq (pv 3) aa)))))))),?_⟩
 refine fun d NH=> ?_
 have s0:av H (upd H d (.dK [])):=aK NH _
 refine ⟨_,rfl,_,rfl,_,rfl,by omega,by omega,?_⟩
 refine bQ (lo:=0) (n:=m) (fun i σ H' =>∃(al:Addr) (lC:List V) (kvs:List (Key×V)) (nd:List (Nat×List Int)) (lv:List (List Int)) (o4 o5 o6 o7:Option V),σ=[some (.ref a),some (.int (m:Int)),some (.ref d),some (.ref al),o4,o5,o6,o7]∧av H H' ∧H' d=some (.dK kvs)∧aU K H' al lC∧nY H' lC lv∧pE H' kvs nd∧nd.length≤i∧Red os L i (bb b (min m os.length)) nd lv∧(∃ps qs,zF os nd lv ps qs)∧(∀x∈nd,Pr os x.2)∧∀l∈lv,Pr os l)
  ⟨a,us,[],[],os,none,none,none,none,rfl,s0,ak,s0.seq hS,hL.same s0,⟨rfl,by simp⟩,aeG _,(Red.start hlen hB).up (qI _ _),⟨[],os,zF.start os⟩,(by simp),fun l hl=>.inl hl⟩ ?_ ?_
 ·rintro i σ H1 hi ⟨al,lC,kvs,nd,lv,o4,o5,o6,o7,rfl,s1,hd,Kw,y9,hN,hni,R,⟨ps,qs,O⟩,pN,pL⟩
  refine ⟨_,rfl,_,rfl,al,lC,lv,i,by rw [afa];rfl,Kw,y9,fun l hl=>by rw [R.iK l hl];omega,fun j lead H2 s2 ej hj=> ?_,fun hz H2 s2=> ?_⟩
  ·have hjl:j < lv.length:=(be.mp ej).1
   have hul:=y9.1
   have cnt:=R.cnt
   have VH:=hb
   have hd2:=s2 _ _ hd
   have Kv:=s2.seq Kw
   have Kx:=y9.same s2
   have Xj:=hN.same s2
   obtain ⟨u,eu,hu⟩:=Kx.at' ej
   have fw:lead∈lv:=ir ej
   refine ⟨_,rfl,rfl,_,rfl,?_⟩
   refine bf (fun z=>by simp at z) (fun _=> ?_)
   refine ⟨_,rfl,_,rfl,al,_,_,_,rfl,rfl,Kv,bG eu,?_⟩
   refine ⟨_,rfl,_,rfl,_,rfl,al,lC,rfl,Kv,fun p1 n1=> ?_⟩
   have t1:=aK n1 (.lst (fW lC none (some (j:Int))))
   refine ⟨_,rfl,_,rfl,_,_,rfl,rfl,_,rfl,al,lC,rfl,t1.seq Kv,fun p2 n2=> ?_⟩
   have t2:=aK n2 (.lst (fW lC (some ((j:Int)+1)) none))
   have PJ:fW lC none (some (j:Int))++fW lC (some ((j:Int)+1)) none=lC.eraseIdx j:=by
    rw [lj (by omega),show ((j:Int)+1)=((j+1:Nat):Int) from by omega,jV (by omega),List.eraseIdx_eq_take_drop_succ]
   have Xk:(fW lC none (some (j:Int))).length+(fW lC (some ((j:Int)+1)) none).length≤sizeLine:=by
    rw [← aeO,PJ]
    exact ad_ (ad_ (an_ ..) (show lC.length≤1000 by omega)) (by decide)
   refine ⟨p1,p2,_,_,rfl,rfl,t2 _ _ ak,ak,Xk,fun p3 n3=> ?_⟩
   have t3:=aK n3 (.lst (fW lC none (some (j:Int))++fW lC (some ((j:Int)+1)) none))
   refine ⟨p3,rfl,⟨_,aU.of ak⟩,fun D nD=> ?_⟩
   have tt:=(t1.trans t2).trans t3
   have hE:=(Kx.same tt).erase j
   have VI:=hu.same tt
   have er:(lC.eraseIdx j).length≤1000:=ad_ (an_ ..) (show lC.length≤1000 by omega)
   refine mz (cap:=[some u,some (.int ((0:Int)+i))]) (K:=K) (a:=p3) (xs:=lC.eraseIdx j) (fun k v H=>∃x y p,(lv.eraseIdx j)[k]? =some x∧v=.ref p∧p≠D∧H p=some (.lst (y.map V.int))∧nX x lead y i∧Bd (2*bb b (min m os.length)+1) y∧(y=x∨Md y)) nD (aeJ er (by decide)) (fun H3 s3=>aU.of (s3 _ _ (by rw [ak,PJ]))) ?_ ?_ ?_
   ·rintro k v H3 H4 ys hD3 ks ⟨x,y,p,e1,e2,e3,e4,e5⟩
    exact ⟨x,y,p,e1,e2,e3,ks _ _ e3 e4,e5⟩
   ·rintro k x H3 RR ex s3 ⟨ys0,Xl⟩ kk
    obtain ⟨l,el,hl⟩:=hE.at ex
    have xO:l∈lv:=afR (ir el)
    have hll:=R.iK l xO
    have Xm:=R.iK lead fw
    refine ⟨_,rfl,_,rfl,_,rfl,x,u,l,lead,i,bb b (min m os.length),bb b (min m os.length),by rw [afa];rfl,hl.same s3,VI.same s3,by rw [hll,Xm],by omega,by omega,hj,R.CL l xO,R.CL lead fw,VH,VH,fun v' l' H4 s4 L4 cl bd pz fr=> ?_⟩
    obtain ⟨p,e1,e2⟩:=L4
    refine kk v' H4 s4 ⟨l,l',p,el,e1,?_,e2,cl,by rw [Nat.two_mul];exact bd,pz⟩
    rcases fr with z | ⟨p',z,n⟩
    ·obtain ⟨Ky,z1,z2⟩:=hl
     rw [z1,e1] at z
     cases z
     exact au z2 nD
    ·rw [e1] at z
     cases z
     exact fun y=>by rw [y,Xl] at n;cases n
   ·intro ys H3 hy dR s3 hD
    obtain ⟨vc,Xg,hp⟩:=jW (P:=fun k v y=>∃x p,(lv.eraseIdx j)[k]? =some x∧v=.ref p∧p≠D∧H3 p=some (.lst (y.map V.int))∧nX x lead y i∧Bd (2*bb b (min m os.length)+1) y∧(y=x∨Md y)) ys (fun k v e=>by
     obtain ⟨x,y,p,r⟩:=dR k v e
     exact ⟨y,x,p,r⟩)
    have hLn:nY H3 ys vc :=⟨Xg.symm,fun k v y e1 e2=>by
     obtain ⟨x,p,_,e,_,r,_⟩:=hp k v y e1 e2
     exact ⟨p,e,r⟩⟩
    have les:(lC.eraseIdx j).length=(lv.eraseIdx j).length:=hE.1
    have ML:Made os lead i (2*bb b (min m os.length)+1) (lv.eraseIdx j) vc :=⟨by omega,fun k x e=>by
     have hk:k < (lv.eraseIdx j).length:=(be.mp e).1
     have e1:ys[k]? =some (ys[k]'(by omega)):=gE (by omega)
     have e2:vc[k]? =some (vc[k]'(by omega)):=gE (by omega)
     obtain ⟨x',p,r1,_,_,_,r2,r3,_⟩:=hp k _ _ e1 e2
     rw [e] at r1
     cases r1
     exact ⟨_,e2,r2,r3⟩⟩
    have PL:∀l∈vc,Pr os l:=fun l hl=>by
     obtain ⟨k,ek⟩:=aeK hl
     have hk:k < vc.length:=(be.mp ek).1
     have e1:ys[k]? =some (ys[k]'(by omega)):=gE (by omega)
     obtain ⟨x',p,r1,_,_,_,_,_,r4⟩:=hp k _ _ e1 ek
     rcases r4 with z | z
     ·rw [z]
      exact pL x' (afR (ir r1))
     ·exact .inr z
    have CB:=tt.trans s3
    have Xn:=CB _ _ hd2
    have hN3:=Xj.same CB
    have hu4:=VI.same s3
    refine ⟨_,rfl,d,kvs,rfl,Rd.of Xn,fun l3 n3=> ?_⟩
    have t4:=aK n3 (.lst (kvs.map fun kv=>kV kv.1))
    refine ⟨l3,rfl,⟨_,aU.of ak⟩,?_⟩
    have dl:d≠l3:=au Xn n3
    refine bP (K:=K) (a:=l3) (xs:=kvs.map fun kv=>kV kv.1) (fun t σ H' =>∃(o7:Option V) (qJ :List (Key×V)) (ik :List (Nat×List Int)),σ=[some (.ref a),some (.int (m:Int)),some (.ref d),some (.ref D),some (.int ((0:Int)+i)),some (.int (j:Int)),some u,o7]∧av H H' ∧H' d=some (.dK qJ)∧H' l3=some (.lst (kvs.map fun kv=>kV kv.1))∧H' D=some (.lst ys)∧nY H' ys vc ∧Ln H' u lead∧pE H' qJ ik ∧ik.map (·.1)=nd.map (·.1)∧
      ∀(k:Nat) (x:Nat×List Int),nd[k]? =some x→∃y,ik[k]? =some (x.1,y)∧(t≤k→y=x.2)∧(k < t→(nX x.2 lead y i∧Bd (2*bb b (min m os.length)+1) y)∧(y=x.2∨Md y)))
     ⟨_,kvs,nd,rfl,((s1.trans s2).trans CB).trans t4,t4 _ _ Xn,ak,t4 _ _ hD,hLn.same t4,hu4.same t4,hN3.same t4,rfl,fun k x e=>⟨x.2,e,fun _=>rfl,fun z=>absurd z (afC _)⟩⟩ (fun t σ H' _ h=>by
      obtain ⟨_,_,_,_,_,_,h,_⟩:=h
      exact aU.of h) ?_ ?_
    ·rintro t u7 σ H4 hu7 ⟨o7,qJ,ik,rfl,s4,y_,hl4,PK,NI,VJ,FC,Me,NJ⟩
     rw [Wp] at hu7
     obtain ⟨kv,za,rfl⟩:=aeN.mp hu7
     have htl:t < kvs.length:=(be.mp za).1
     have hnl:=hN.1
     have ex:nd[t]? =some (nd[t]'(by omega)):=gE (by omega)
     obtain ⟨x,hx⟩:∃x,nd[t]? =some x:=⟨_,ex⟩
     obtain ⟨kx,hxm⟩:kv.1=.inl (x.1:Int)∧x∈nd:=⟨(hN3.2 t kv x za hx).1,ir hx⟩
     obtain ⟨y,ey,y1,_⟩:=NJ t x hx
     have y2:=y1 (aeG _)
     subst y2
     obtain ⟨v,ev,hv⟩:=FC.at ey
     have nk:(qJ.map (·.1)).Nodup:=by
      rw [FC.keys]
      exact keys_nodup (by rw [Me];exact R.asc)
     have vat:=h7 nk ev
     have hxl:=R.ow x hxm
     have Xm:=R.iK lead fw
     have dg:cQ H4 d (kV kv.1) (some v):=by
      rw [kx, ← vat]
      exact cQ.k y_
     refine ⟨_,rfl,_,rfl,d,v,rfl,dg,_,rfl,_,rfl,v,u,x.2,lead,i,bb b (min m os.length),bb b (min m os.length),by rw [afa];rfl,hv,VJ,by rw [hxl,Xm],by omega,by omega,hj,R.EZ x hxm,R.CL lead fw,VH,VH,fun v' l' H5 s5 L5 cl bd pz fr=> ?_⟩
     have Mf:=s5 _ _ y_
     have l4' :=FC.1
     have Xo :ik.length=nd.length:=by simpa using congrArg afJ Me
     refine ⟨_,rfl,_,rfl,d,_,rfl,je.k Mf (aeJ (show qJ.length≤1000 by omega) (by decide)),?_⟩
     rw [kx,II nk ev]
     have dn:d≠D:=fun z=>by rw [z,PK] at y_;cases y_
     refine ⟨_,qJ.set t (.inl (x.1:Int),v'),ik.set t (x.1,l'),rfl,ji (s4.trans s5) NH,ak,by rw [aj (ae8 dl)];exact s5 _ _ hl4,by rw [aj (ae8 dn)];exact s5 _ _ PK,(NI.same s5).put Mf,(VJ.same s5).put Mf,((FC.same s5).set L5).put Mf,?_,fun k x' ek=> ?_⟩
     ·rw [List.map_set,Me]
      refine afg fun k=> ?_
      rw [aft]
      by_cases z:t=k
      ·subst z
       rw [if_pos rfl,if_pos (by simp;omega),Wp,hx]
       rfl
      ·rw [if_neg z]
     ·obtain ⟨y',EY,a1,a2⟩:=NJ k x' ek
      by_cases z:t=k
      ·subst z
       rw [hx] at ek
       cases ek
       refine ⟨l',by rw [aft,if_pos rfl,if_pos (by omega)],fun w=>by omega,fun _=>⟨⟨cl,by rw [Nat.two_mul];exact bd⟩,pz⟩⟩
      ·exact ⟨y',by rw [aft,if_neg z];exact EY,fun w=>a1 (by omega),fun w=>a2 (by omega)⟩
    ·rintro σ H4 ⟨o7,qJ,ik,rfl,s4,y_,hl4,PK,NI,VJ,FC,Me,NJ⟩
     have l4' :=FC.1
     have Xo :ik.length=nd.length:=by simpa using congrArg afJ Me
     have hnl:=hN.1
     rw [aa_] at NJ
     have MN:Made os lead i (2*bb b (min m os.length)+1) (nd.map (·.2)) (ik.map (·.2)):=⟨by simp [Xo],fun k x e=>by
      rw [Wp] at e
      obtain ⟨x0,e0,rfl⟩:=aeN.mp e
      have hk:k < nd.length:=(be.mp e0).1
      obtain ⟨y,ey,_,a2⟩:=NJ k x0 e0
      exact ⟨y,by rw [Wp,ey];rfl,(a2 (by omega)).1⟩⟩
     have hno:bS qJ (.inl ((0:Int)+i))=none:=wI (fun z=>by
      rw [FC.keys] at z
      obtain ⟨x',xk,e⟩:=abt.mp z
      have e1:(x'.1:Int)=0+i:=apr e
      have:x'.1∈nd.map (·.1):=by rw [← Me];exact abt.mpr ⟨x',xk,rfl⟩
      obtain ⟨x,hx,e2⟩:=abt.mp this
      have:=R.cols x hx
      omega)
     refine ⟨_,rfl,_,rfl,_,rfl,d,_,rfl,je.k (k:=.inl ((0:Int)+i)) y_ (aeJ (show qJ.length≤1000 by omega) (by decide)),?_⟩
     rw [dm u hno]
     have dn:d≠D:=fun z=>by rw [z,PK] at y_;cases y_
     have Xp:∀l∈lv.eraseIdx j,l∈lv:=fun l h=>afR h
     have Xq:∀l∈lv,l=lead∨l∈lv.eraseIdx j:=fun l h=>by
      obtain ⟨k,ek⟩:=aeK h
      rcases Nat.lt_trichotomy k j with z | z | z
      ·exact .inr (ir (i:=k) (by rw [afY,if_pos z];exact ek))
      ·subst z
       rw [ej] at ek
       cases ek
       exact .inl rfl
      ·exact .inr (ir (i:=k - 1) (by rw [afY,if_neg (by omega),show k - 1+1=k by omega];exact ek))
     have Xr:(lv.eraseIdx j).length+1=lv.length:=by rw [afO,if_pos hjl];omega
     have R2:=R.step fw Xp Xq Xr hj ML Me MN
     obtain ⟨Xd,VD,O2⟩:=O.step R.Xh ej (fun x hx=>R.zero lead fw x.1 (R.cols x hx)) hj ML.len (fun k x e=>by
      obtain ⟨y,ey,k1,_⟩:=ML.to k x e
      exact ⟨y,ey,k1⟩) Xo fun k x e=>by
      obtain ⟨y,ey,k1,_⟩:=MN.to k x e
      exact ⟨y,ey,k1⟩
     have PN:∀x∈ik ++[(i,lead)],Pr os x.2:=fun x hx=>by
      rcases aeM.mp hx with z | z
      ·obtain ⟨k,ek⟩:=aeK z
       have hk:k < ik.length:=(be.mp ek).1
       obtain ⟨x0,e0⟩:∃x0,nd[k]? =some x0:=⟨_,gE (by omega)⟩
       obtain ⟨y,ey,_,a2⟩:=NJ k x0 e0
       rw [ek] at ey
       cases ey
       rcases (a2 (by omega)).2 with u | u
       ·show Pr os y
        rw [u]
        exact pN x0 (ir e0)
       ·exact .inr u
      ·rw [aeH.mp z]
       exact pL lead fw
     have PM:=R2.cnt
     have R3:=R2.small O2 hB (k:=min m os.length) (by rw [aeO] at PM ⊢;simp at PM ⊢;omega) (by omega) PN PL
     refine ⟨D,ys,_,ik ++[(i,lead)],vc,_,_,_,_,rfl,ji s4 NH,ak,aU.of (by rw [aj (ae8 dn)];exact PK),NI.put y_,(by rw [afa];exact (FC.snoc VJ).put y_),by simp;omega,R3,⟨Xd,VD,O2⟩,PN,PL⟩
  ·refine ⟨_,rfl,rfl,_,rfl,?_⟩
   refine bf (fun _=> ?_) (fun z=>by simp at z)
   exact ⟨al,lC,kvs,nd,lv,_,_,_,_,rfl,s1.trans s2,s2 _ _ hd,s2.seq Kw,y9.same s2,hN.same s2,by omega,R.skip hz,⟨ps,qs,O⟩,pN,pL⟩
 ·rintro σ H1 ⟨al,lC,kvs,nd,lv,o4,o5,o6,o7,rfl,s1,hd,Kw,y9,hN,hni,R,⟨ps,qs,O⟩,pN,pL⟩
  refine ⟨_,rfl,_,rfl,(by show 2≤sizeLine;decide),fun p np=> ?_⟩
  have sp:=aK np (.tup [.ref d,.ref al])
  have cnt:=R.cnt
  exact q p d al kvs lC nd lv _ (s1.trans sp) NH (s1.free np) ak (sp _ _ hd) (sp.seq Kw) (hN.same sp) (y9.same sp) R
theorem wJ {t b:Int}{T B:Nat}(hb:b≠0)(h1:t.natAbs≤2^T)(h2:b.natAbs≤2^B):Sm T B (low t b):=⟨i_ hb,kY hb,ad_ (lY hb) h1,ad_ (lZ hb) h2⟩
theorem jk {l:List Int}{j:Nat}(h:l.length≤j):l.getD j 0=0:=by
 rw [aeV,aeE h]
 rfl
def tQ (m t:Nat)(nd:List (Nat×List Int))(qs:List (Int×Int)):Prop:=qs.length=m∧(∀i,i < t→∀x,nd[i]? =some x→qs[x.1]? =some (low (x.2.getD m 0) (x.2.getD x.1 0)))∧∀j,j < m→(∀i,i < t→∀x,nd[i]? =some x→x.1≠j)→qs[j]? =some (0,1)
theorem tQ.sm {os:List (List Int)}{m b:Nat}{nd:List (Nat×List Int)}{lv:List (List Int)}{qs:List (Int×Int)}(R:Red os (m+1) m b nd lv)(F:tQ m nd.length nd qs):∀q∈qs,Sm b b q:=by
 intro q hq
 obtain ⟨j,hj⟩:=aeK hq
 have hjm:j < m:=by have:=(be.mp hj).1;rw [← F.1];exact this
 by_cases c:∃(i:Nat) (x:Nat×List Int),nd[i]? =some x∧x.1=j
 ·obtain ⟨i,x,e,rfl⟩:=c
  have hi:i < nd.length:=(be.mp e).1
  have h1:=F.2.1 i hi x e
  rw [hj] at h1
  cases h1
  have hm:=ir e
  exact wJ (R.here x hm) (R.EZ x hm m) (R.EZ x hm x.1)
 ·have h1:=F.2.2 j hjm (fun i _ x e z=>c ⟨i,x,e,z⟩)
  rw [hj] at h1
  cases h1
  exact ⟨by decide,by decide,ae' _,agb⟩
theorem tQ.sol {os:List (List Int)}{m b:Nat}{nd:List (Nat×List Int)}{lv:List (List Int)}{qs:List (Int×Int)}(R:Red os (m+1) m b nd lv)(F:tQ m nd.length nd qs)(hz:∀l∈lv,l.getD m 0=0):∀o∈os,ev o (j9 (qs.map vl))=0:=by
 have ql:=F.1
 have zl:∀j q,qs[j]? =some q→j9 (qs.map vl) j=vl q:=fun j q e=>by
  have hj:j < qs.length:=(be.mp e).1
  unfold j9
  rw [if_pos (by rw [aa_];exact hj),aeV,Wp,e]
  rfl
 have zm:j9 (qs.map vl) m= -1:=by
  unfold j9
  rw [if_neg (by rw [aa_];omega)]
 refine (R.sol _).mp ⟨fun x hx=> ?_,fun l hl=> ?_⟩
 ·obtain ⟨i,e⟩:=aeK hx
  have hi:i < nd.length:=(be.mp e).1
  have hc:=R.cols x hx
  have hh:=R.here x hx
  have h1:=F.2.1 i hi x e
  have zc:=zl _ _ h1
  rw [qp hh] at zc
  have other:∀j,j≠x.1→j≠m→((x.2.getD j 0:Int):Rat)*j9 (qs.map vl) j=0:=by
   intro j n1 n2
   by_cases hj:j < m
   ·by_cases c:∃(i:Nat) (x:Nat×List Int),nd[i]? =some x∧x.1=j
    ·obtain ⟨i',y,e',rfl⟩:=c
     rw [R.off x hx y (ir e') (ae8 n1)]
     simp
    ·have h2:=F.2.2 j hj (fun i _ x e z=>c ⟨i,x,e,z⟩)
     rw [zl _ _ h2]
     unfold vl
     simp
     grind
   ·rw [jk (by rw [R.ow x hx];omega)]
    simp
  have sp:j9 (qs.map vl)=fun i=>(if i=m then 0 else j9 (qs.map vl) i)+(if i=m then -1 else 0):=by
   funext i
   by_cases z:i=m
   ·rw [if_pos z,if_pos z,z,zm]
    grind
   ·rw [if_neg z,if_neg z]
    grind
  rw [sp,BF]
  have a1:=qw x.2 (fun i=>if i=m then 0 else j9 (qs.map vl) i) x.1 (fun j hj=>by
   by_cases z:j=m
   ·simp [z]
   ·rw [if_neg z]
    exact other j hj z)
  have a2:=qw x.2 (fun i=>if i=m then (-1:Rat) else 0) m (fun j hj=>by rw [if_neg hj];simp)
  rw [a1,a2]
  rw [if_neg (by omega),if_pos rfl,zc]
  have hh' :=cG hh
  grind
 ·refine qv l _ (fun j=> ?_)
  have:l.getD j 0=0:=by
   by_cases h1:j < m
   ·exact R.zero l hl j h1
   ·by_cases h2:j=m
    ·rw [h2]
     exact hz l hl
    ·exact jk (by rw [R.iK l hl];omega)
  rw [this]
  simp
theorem tQ.put {m t b:Nat}{os:List (List Int)}{nd:List (Nat×List Int)}{lv:List (List Int)}{qs:List (Int×Int)}{x:Nat×List Int}(R:Red os (m+1) m b nd lv)(F:tQ m t nd qs)(e:nd[t]? =some x):tQ m (t+1) nd (qs.set x.1 (low (x.2.getD m 0) (x.2.getD x.1 0))):=by
 have ql:=F.1
 have hx:=R.cols x (ir e)
 have dis:∀i y,i < t→nd[i]? =some y→y.1≠x.1:=fun i y hi ey=>by
  have a:=List.pairwise_iff_getElem.mp R.asc i t (by rw [aa_];exact (be.mp ey).1) (by rw [aa_];exact (be.mp e).1) hi
  simp only [List.getElem_map] at a
  have e1:=(be.mp ey).2
  have e2:=(be.mp e).2
  rw [e1,e2] at a
  omega
 refine ⟨by simp [ql],fun i hi y ey=> ?_,fun j hj h=> ?_⟩
 ·rcases afo.mp hi with z | z
  ·rw [aft,if_neg (ae8 (dis i y z ey))]
   exact F.2.1 i z y ey
  ·subst z
   rw [e] at ey
   cases ey
   rw [aft,if_pos rfl,if_pos (by omega)]
 ·rw [aft,if_neg (h t (afe _) x e)]
  exact F.2.2 j hj (fun i hi y ey=>h i (af7 hi) y ey)
theorem Mg {n j:Nat}(h:j < n):EU n (j:Int)=some j:=by
 unfold EU
 simp
 omega
theorem bL.putL {K:Frag}{H:Hp}{a d:Addr}{xs ys:List V}{o:HO}(h:bL K H a xs)(e:H d=some (.lst ys)):bL K (upd H d o) a xs:=by
 rcases h with (h | ⟨o',h⟩) | h
 ·exact .inl (.inl (by rw [aj (fun z=>by rw [z,e] at h;cases h)];exact h))
 ·exact .inl (.inr ⟨o',by rw [aj (fun z=>by rw [z,e] at h;cases h)];exact h⟩)
 ·exact .inr h
inductive iL (K:Frag)(vs:List V)(H:Hp)(Q:VK)(E_:XK):Prop where
 | mk (a:Addr) (us:List V) (os:List (List Int:_)) (m b:Nat) (_:vs=[.ref a,.int (m:Int)]) (_:aU K H a us) (_:nY H us os) (_:(∀o∈os,o.length=m+1)) (_:m≤900) (_:os.length≤900) (_:(∀o∈os,Bd b o)) (_:bb b (min m os.length)≤29000000) (_:(∀(l:List Int) (H' :Hp),av H H' →l.length=m+1→jN os l→(∀j,j < m→l.getD j 0=0)→l.getD m 0≠0→Q .cE H')) (_:(∀(x:Addr) (ki :List V) (qs:List (Int×Int)) (H' :Hp),av H H' →H x=none→H' x=some (.lst ki)→cX K H' ki qs→qs.length=m→(∀q∈qs,Sm (bb b (min m os.length)) (bb b (min m os.length)) q)→(∀o∈os,ev o (j9 (qs.map vl))=0)→Q (.ref x) H')):iL K vs H Q E_
theorem tR:aG ["lines","many","told","x","column","line"] ["lines","many"] (ag yk):=sq
theorem PQ {aN:Addr}(hN:∀H:Hp,bL K H aN [.int 0,.int 1])(ze:mg "NOUGHT"=some (.ref aN))(D:Def K mg "solution_of" yk ["lines","many"])(CN:mg "any"=none)(Xs:Fn P w K mg base (a9 P w) 35 "reduced" ["lines","many"] (jX K))(CO:Fn P w K mg base (a9 P w) 33 "lowest_terms" ["top","bottom"] gd):Fn P w K mg base (a9 P w) 36 "solution_of" ["lines","many"] (iL K):=by
 refine D.ok tR (fun vs H Q E h=> ?_) (fun f bF A outer s H vs Q E hr h=> ?_)
 ·obtain ⟨a,us,os,m,b,rfl,_⟩:=h
  rfl
 obtain ⟨a,us,os,m,b,rfl,hS,hL,hlen,hm,ho,hB,hb,q1,q2⟩:=h
 refine ⟨_,(ae (aC (i:=2) tR.nd rfl (ab_ rfl) (aA Xs hr.mo pX (aq (pv 0) (aq (pv 1) aa))))
  (ae (bg (cx (aR (xQ rfl) rfl CN O4 (aq (cD (tn:=["line"]) (fr:=["many"]) (caps:=[1]) rfl ⟨rfl,by decide+kernel,rfl,by decide+kernel,by decide+kernel,rfl,⟨(by first | exact ab_ rfl | exact aff rfl),trivial⟩,⟨(by first | exact ab_ rfl | exact aff rfl),trivial⟩⟩ (bh (aS (pv 2))) (fun _ _ _ _=>(aw (i:=0) (show (["line","many"]:List Str).Nodup from by decide+kernel) rfl (ab_ rfl))) (fun _ _ _ _=>cj) (fun _ _ _ _=>(iZ fG (aY (sL (K:=K) rfl) (pv 0) (pv 1) (fun _ _=>rfl)) af (aT _)))) aa))) (ah (aF lM)) aL)
  (ae (aC (i:=3) tR.nd rfl (ab_ rfl) (aI AO (bR (aq (gZ (v:=.ref aN) rfl ze rfl) aa)) (pv 1)))
  (ae (bw PassesOwn.never rfl (mH (aS (pv 2))) (dB rfl (aV (aw (i:=4) tR.nd rfl (ab_ rfl)) (aV (aw (i:=5) tR.nd rfl (ab_ rfl)) cC))) (ah (zW (aA CO hr.mo pX (aq (aY aX (pv 5) (pv 1) (fun _ _=>rfl)) (aq (aY aX (pv 5) (pv 4) (fun _ _=>rfl)) aa))) (zV (pv 3) (pv 4) set_list))))
  (ah (aF (pv 3))))))),?_⟩
 refine ⟨_,rfl,_,rfl,a,us,os,m+1,m,b,rfl,hS,hL,hlen,by omega,by omega,by omega,hB,hb,fun p d a' kvs ki nd lv H1 s1 NH np hp hd Kw hN1 FA R=> ?_⟩
 have lu:=FA.1
 have cnt:=R.cnt
 refine ⟨_,rfl,p,_,_,_,rfl,rfl,bL.of hp,iJ,a',rfl,⟨_,Kw⟩,fun D1 n1=> ?_⟩
 refine b_ (cap:=[some (.int (m:Int))]) (K:=K) (a:=a') (xs:=ki) (fun k v _=>∃l,lv[k]? =some l∧v=.bl (decide (l.getD m 0≠0))) n1 (aeJ (show ki.length≤1000 by omega) (by decide)) (fun H2 s2=>s2.seq Kw) (fun _ _ _ _ _ _ _ h=>h) ?_ ?_
 ·intro k x H2 RR ex s2 kk
  obtain ⟨l,el,b',rfl,gF⟩:=FA.at ex
  have hll:=R.iK l (ir el)
  refine ⟨_,rfl,_,rfl,b',_,_,_,rfl,rfl,aU.of (s2 _ _ gF),pC (by omega),rfl,?_⟩
  refine kk _ _ (av.refl _) ⟨l,el,?_⟩
  simp
 ·intro ys H2 hy dR s2 hD
  have ey:ys=(lv.map fun l=>decide (l.getD m 0≠0)).map V.bl:=by
   refine afg fun i=> ?_
   by_cases hi:i < ys.length
   ·have e1:ys[i]? =some ys[i]:=gE hi
    obtain ⟨l,el,e⟩:=dR i _ e1
    rw [e1,e,Wp,Wp,el]
    rfl
   ·rw [aeE (by omega),aeE (by simp;omega)]
  subst ey
  refine ⟨D1,_,rfl,aU.of hD,_,rfl,?_⟩
  have zG:=s1.trans s2
  refine bf (fun c=> ?_) (fun c=> ?_)
  ·obtain ⟨b',gF,hb1⟩:=afU.mp c
   obtain ⟨l,hl,rfl⟩:=abt.mp gF
   have hn:l.getD m 0≠0:=of_decide_eq_true hb1
   exact q1 l H2 zG (R.iK l hl) (R.jh l hl) (R.zero l hl) hn
  ·have hz:∀l∈lv,l.getD m 0=0:=fun l hl=>by
    by_cases z:l.getD m 0=0
    ·exact z
    ·exact absurd (afU.mpr ⟨true,abt.mpr ⟨l,hl,decide_eq_true z⟩,rfl⟩) c
   refine ⟨(by show 1≤sizeLine;decide),fun p3 n3=> ?_⟩
   have s3:=aK n3 (.lst [V.ref aN])
   refine ⟨_,rfl,p3,_,_,rfl,rfl,ak,by omega,by omega,ad_ (show 1*(m:Int).toNat≤1000 by omega) (by decide),fun x n4=> ?_⟩
   have s4:=aK n4 (.lst (aeW (m:Int).toNat [V.ref aN]).flatten)
   have s14:=(zG.trans s3).trans s4
   have nx:H x=none:=(zG.trans s3).free n4
   have er:(aeW (m:Int).toNat [V.ref aN]).flatten=aeW m (V.ref aN):=by simp
   have hp4:=s4 _ _ (s3 _ _ (s2 _ _ hp))
   have y_:=s4 _ _ (s3 _ _ (s2 _ _ hd))
   have FC:=((hN1.same s2).same s3).same s4
   have dx:d≠x:=au (s3 _ _ (s2 _ _ hd)) n4
   refine ⟨_,rfl,p,_,_,_,rfl,rfl,bL.of hp4,iI,d,kvs,rfl,y_,fun o=> ?_⟩
   refine jO (d:=d) (o:=o) (kvs:=kvs) (fun t σ H' =>∃(o4 o5:Option V) (zH:List V) (qs:List (Int×Int)),σ=[some (.ref a),some (.int (m:Int)),some (.ref p),some (.ref x),o4,o5]∧av H H' ∧H' d=some (.fU o (.dK kvs))∧H' x=some (.lst zH)∧cX K H' zH qs∧pE H' kvs nd∧tQ m t nd qs)
    ⟨none,none,aeW m (V.ref aN),aeW m (0,1),rfl,ji s14 NH,ak,by rw [aj (ae8 dx),ak,er],⟨by simp,fun i u q' e1 e2=> ?_⟩,FC.put y_,⟨by simp,fun i hi=>absurd hi (afC _),fun j hj _=>by rw [afr,if_pos hj]⟩⟩ (fun t σ H' _ h=>by
     obtain ⟨_,_,_,_,_,_,h,_⟩:=h
     exact h) ?_ ?_
   ·rw [afr] at e1 e2
    by_cases z:i < m
    ·rw [if_pos z] at e1 e2
     cases e1
     cases e2
     exact ⟨aN,rfl,hN _⟩
    ·rw [if_neg z] at e1
     cases e1
   ·rintro t k v σ H5 p7 za ⟨o4,o5,zH,qs,rfl,s5,Mf,Xt,IJ,PU,F⟩ n7
    have ht:t < kvs.length:=(be.mp za).1
    have hl5:=PU.1
    obtain ⟨c,ec⟩:∃c,nd[t]? =some c:=⟨_,gE (by omega)⟩
    obtain ⟨k1,k2⟩:=PU.2 t _ c za ec
    have k1' :k=.inl (c.1:Int):=k1
    subst k1'
    obtain ⟨b',eb,gF⟩:=k2
    have Mh :v=.ref b' :=eb
    subst Mh
    have Xu:=ir ec
    have hcl:=R.ow c Xu
    have Vq:=R.cols c Xu
    have s7:=aK n7 (.tup [kV (.inl (c.1:Int)),.ref b'])
    have hb7:=s7 _ _ gF
    refine ⟨p7,_,rfl,bL.of ak,rfl,_,_,rfl,_,_,rfl,rfl,?_⟩
    refine ⟨_,rfl,_,rfl,b',_,_,_,rfl,rfl,aU.of hb7,pC (by omega),_,rfl,_,rfl,b',_,_,_,rfl,rfl,aU.of hb7,pC (by omega),?_⟩
    refine ⟨_,_,rfl,R.here c Xu,fun p8 H8 s8 e8=> ?_⟩
    have IK:=s7.trans s8
    have hx8:=IK _ _ Xt
    have l2:=IJ.1
    have xn:∀{b0:Addr} {o0:HO},H b0=some o0→b0≠x:=fun e=>au e nx
    have dx8:=IK _ _ Mf
    refine ⟨_,rfl,_,rfl,x,zH,_,c.1,rfl,rfl,hx8,Mg (by rw [l2,F.1];exact Vq),?_⟩
    refine ⟨_,_,zH.set c.1 (.ref p8),qs.set c.1 (low (c.2.getD m 0) (c.2.getD c.1 0)),rfl,ji (s5.trans IK) nx,by rw [aj dx];exact dx8,ak,?_,?_,F.put R ec⟩
    ·have base:cX K H8 (zH.set c.1 (.ref p8)) (qs.set c.1 (low (c.2.getD m 0) (c.2.getD c.1 0))):=(IJ.same IK).set ⟨p8,rfl,bL.of e8⟩
     refine ⟨base.1,fun i u q' e1 e2=> ?_⟩
     obtain ⟨p9,e9,h9⟩:=base.2 i u q' e1 e2
     exact ⟨p9,e9,bL.putL h9 hx8⟩
    ·have base:=PU.same IK
     refine ⟨base.1,fun i kv y e1 e2=>⟨(base.2 i kv y e1 e2).1,?_⟩⟩
     obtain ⟨p9,e9,h9⟩:=hN1.2 i kv y e1 e2 |>.2
     refine ⟨p9,e9,?_⟩
     have px9:p9≠x:=fun z=>by
      have:=(s3 _ _ (s2 _ _ h9))
      rw [z,n4] at this
      cases this
     rw [aj px9]
     obtain ⟨p10,e10,h10⟩:=(base.2 i kv y e1 e2).2
     rw [e9] at e10
     cases e10
     exact h10
   ·rintro σ H5 ⟨o4,o5,zH,qs,rfl,s5,Mf,Xt,IJ,PU,F⟩
    have hl5:=PU.1
    rw [hl5] at F
    exact ⟨_,rfl,q2 x zH qs H5 s5 nx Xt IJ F.1 (F.sm R) (F.sol R hz)⟩
def jm (H:Hp)(r:Addr)(ls:List Addr)(cw:List (List V)):Prop:=H r=some (.lst (ls.map V.ref))∧ls.length=cw.length∧∀(i:Nat) (l:Addr) (vs:List V),ls[i]? =some l→cw[i]? =some vs→H l=some (.lst vs)
theorem jm.same {H H' :Hp}{r:Addr}{ls:List Addr}{cw:List (List V)}(h:jm H r ls cw)(s:av H H'):jm H' r ls cw:=⟨s _ _ h.1,h.2.1,fun i l vs e1 e2=>s _ _ (h.2.2 i l vs e1 e2)⟩
def Shape (T B m:Nat)(fD:List (List (Int×Int))):Prop:=∀qs∈fD,qs.length=m∧∀q∈qs,Sm T B q
def iM (K:Frag)(H:Hp)(cw:List (List V))(fD:List (List (Int×Int))):Prop:=cw.length=fD.length∧∀(i:Nat) (vs:List V) (qs:List (Int×Int)),cw[i]? =some vs→fD[i]? =some qs→cX K H vs qs
theorem iM.same {H H' :Hp}{cw:List (List V)}{fD:List (List (Int×Int))}(h:iM K H cw fD)(s:av H H'):iM K H' cw fD:=⟨h.1,fun i vs qs e1 e2=>(h.2 i vs qs e1 e2).same s⟩
theorem CP {α:Type}{xs:List α}{x y:α}{j:Nat}(e:(xs++[x])[j]? =some y):(j < xs.length∧xs[j]? =some y)∨(j=xs.length∧x=y):=by
 by_cases c:j < xs.length
 ·rw [aeL c] at e
  exact .inl ⟨c,e⟩
 ·rw [aeP (by omega)] at e
  by_cases z:j - xs.length=0
  ·rw [z] at e
   exact .inr ⟨by omega,aeY e⟩
  ·rw [aeE (by simp;omega)] at e
   cases e
theorem jm.snoc {H:Hp}{r D:Addr}{ls:List Addr}{cw:List (List V)}{us:List V}(h:jm H r ls cw)(nr:r∉ls)(hD:H D=some (.lst us))(nD:D≠r):jm (upd H r (.lst (ls.map V.ref++[.ref D]))) r (ls++[D]) (cw++[us]):=by
 obtain ⟨m1,m2,m3⟩:=h
 refine ⟨by rw [ak,aeR];rfl,by simp [m2],fun j l vs e1 e2=> ?_⟩
 rcases CP e1 with ⟨c1,d1⟩ | ⟨c1,d1⟩ <;> rcases CP e2 with ⟨c2,d2⟩ | ⟨c2,d2⟩
 ·have ne:l≠r:=fun z=>nr (by rw [← z];exact ir d1)
  rw [aj ne]
  exact m3 j l vs d1 d2
 ·omega
 ·omega
 ·subst d1 d2
  rw [aj nD]
  exact hD
theorem jm.row {H:Hp}{r:Addr}{ls:List Addr}{cw:List (List V)}(h:jm H r ls cw){i:Nat}{vs:List V}(e:cw[i]? =some vs):∃l,ls[i]? =some l∧H l=some (.lst vs):=by
 have hi:i < cw.length:=(be.mp e).1
 have l1:=h.2.1
 have e1:ls[i]? =some (ls[i]'(by omega)):=gE (by omega)
 exact ⟨_,e1,h.2.2 i _ _ e1 e⟩
def zf (cw:List (List V))(j:Nat):List V:=cw.map fun vs=>vs.getD j .cE
def jn (cw:List (List V))(m:Nat):List (List V):=(afV m).map fun j=>zf cw j
inductive mP (vs:List V)(H:Hp)(Q:VK)(E_:XK):Prop where
 | mk (r:Addr) (ls:List Addr) (cw:List (List V:_)) (m:Int) (_:vs=[.ref r,.int m]) (_:jm H r ls cw) (_:0≤m) (_:m≤1000) (_:ls.length≤1000) (_:(∀vs∈cw,m≤(vs.length:Int))) (_:∀c cs H',av H H' →jm H' c cs (jn cw m.toNat)→Q (.ref c) H'):mP vs H Q E_
theorem CQ:aG ["rows","many","columns","column"] ["rows","many"] (ag yi):=sq
theorem PV (D:Def K mg "turned" yi ["rows","many"])(bu:mg "range"=none):Fn P w K mg base (a9 P w) 1 "turned" ["rows","many"] mP:=by
 refine D.ok CQ (fun vs H Q E h=> ?_) (fun f bF A outer s H vs Q E hr h=> ?_)
 ·obtain ⟨r,ls,cw,m,rfl,_⟩:=h
  rfl
 obtain ⟨r,ls,cw,m,rfl,M,m0,m1,hn,hv,q⟩:=h
 refine ⟨_,(ae (aC (i:=2) CQ.nd rfl (ab_ rfl) (bR aa))
  (ae (bw PassesOwn.never rfl (bM rfl bu (aq (pv 1) aa)) (aw (i:=3) CQ.nd rfl (aff rfl)) (ah (bO (i7 PySem.F.plainAttrs_list PySem.F.slot_list_append PySem.F.type_list_append cW (pv 2) (aq (cD (tn:=["row"]) (fr:=["column"]) (caps:=[3]) rfl ⟨rfl,by decide+kernel,rfl,by decide+kernel,by decide+kernel,rfl,⟨(by first | exact ab_ rfl | exact aff rfl),trivial⟩,⟨(by first | exact ab_ rfl | exact aff rfl),trivial⟩⟩ (bh (pv 0)) (fun _ _ _ _=>(aw (i:=0) (show (["row","column"]:List Str).Nodup from by decide+kernel) rfl (ab_ rfl))) (fun _ _ _ _=>cj) (fun _ _ _ _=>(aY (sL (K:=K) rfl) (pv 0) (pv 1) (fun _ _=>rfl)))) aa)))))
  (ah (aF (pv 2))))),?_⟩
 have l1:=M.2.1
 refine ⟨(by show 0≤sizeLine;decide),fun c nc=> ?_⟩
 refine ⟨_,rfl,_,rfl,by omega,by omega,?_⟩
 refine bQ (lo:=0) (n:=m.toNat) (fun i σ H' =>∃(o:Option V) (cs:List Addr),σ=[some (.ref r),some (.int m),some (.ref c),o]∧av H H' ∧jm H' c cs (jn cw i)∧c∉cs) ⟨none,[],rfl,aK nc _,⟨ak,rfl,fun i l vs e=>by simp at e⟩,by simp⟩ ?_ ?_
 ·rintro i σ H' hi ⟨o,cs,rfl,s1,C,Xv⟩
  have M' :=M.same s1
  refine ⟨_,rfl,.inl ⟨rfl,_,aU.of C.1⟩,?_⟩
  refine ⟨_,rfl,r,rfl,⟨_,aU.of M'.1⟩,fun D nD=> ?_⟩
  refine b_ (cap:=[some (.int ((0:Int)+i))]) (K:=K) (a:=r) (xs:=ls.map V.ref) (fun k v _=>∃vs,cw[k]? =some vs∧v=vs.getD i .cE) nD (by rw [aa_];exact aeJ hn (by decide)) (fun H2 s2=>aU.of (s2 _ _ M'.1)) (fun _ _ _ _ _ _ _ h=>h) ?_ ?_
  ·intro k u H2 R hu s2 kk
   rw [Wp] at hu
   obtain ⟨l,el,rfl⟩:=aeN.mp hu
   have hk:k < ls.length:=(be.mp el).1
   have ev:cw[k]? =some (cw[k]'(by omega)):=gE (by omega)
   have hl:=M'.2.2 k l _ el ev
   have O1 :i < (cw[k]'(by omega)).length:=by
    have:=hv _ (ir ev)
    omega
   have ea:fN (cw[k]'(by omega)) ((0:Int)+(i:Int))=some ((cw[k]'(by omega)).getD i .cE):=by
    rw [afa]
    exact bG (by rw [gE O1,aeV,gE O1];rfl)
   exact ⟨_,rfl,_,rfl,l,_,_,_,rfl,rfl,aU.of (s2 _ _ hl),ea,kk _ _ (av.refl _) ⟨_,ev,rfl⟩⟩
  ·intro ys H2 hy dR s2 hD
   rw [aa_] at hy
   have ey:ys=zf cw i:=by
    refine afg fun k=> ?_
    unfold zf
    by_cases hk:k < ys.length
    ·have e1:ys[k]? =some ys[k]:=gE hk
     obtain ⟨vs,ev,e2⟩:=dR k _ e1
     rw [e1,e2,Wp,ev]
     rfl
    ·rw [aeE (by omega),aeE (by simp;omega)]
   subst ey
   have lc:cs.length=i:=by have:=C.2.1;simpa [jn] using this
   have nDc:D≠c:=fun z=>by rw [z,C.1] at nD;cases nD
   have fc:∀b o,H b=some o→b≠c:=fun b o e=>au e nc
   refine ⟨c,_,_,rfl,rfl,s2 _ _ C.1,by rw [aa_,lc];exact aeJ (show i≤1000 by omega) (by decide),?_⟩
   refine ⟨_,cs++[D],rfl,fun b o e=> ?_,?_,fun z=> ?_⟩
   ·rw [aj (fc b o e)]
    exact s2 _ _ (s1 _ _ e)
   ·have e:jn cw (i+1)=jn cw i++[zf cw i]:=by simp [jn,List.range_succ]
    rw [e]
    exact (C.same s2).snoc Xv hD nDc
   ·rcases aeM.mp z with y | y
    ·exact Xv y
    ·exact nDc (aeH.mp y).symm
 ·rintro σ H' ⟨o,cs,rfl,s1,C,Xv⟩
  exact ⟨_,rfl,q c cs H' s1 C⟩
def CS (fD:List (List (Int×Int)))(j:Nat):List (Int×Int):=fD.map fun qs=>qs.getD j (0,1)
theorem Bd.of {b:Nat}{l:List Int}(h:∀t∈l,t.natAbs≤2^b):Bd b l:=fun j=>by
 by_cases hj:j < l.length
 ·have e:l[j]? =some l[j]:=gE hj
  rw [getD_mem e]
  exact h _ (afz hj)
 ·rw [jk (by omega)]
  exact ae' _
abbrev Wl:=List Int×Int×Addr×Addr
def VL (T B m:Nat)(qs:List (Int×Int))(d:Int×Int)(w:Wl):Prop:=j8 w.1 (qs++[d]) w.2.1∧0 < w.2.1∧w.2.1.natAbs≤2^(B*(m+1))∧∀t∈w.1,t.natAbs≤2^(T+B*(m+1))
theorem CT {zI:List (List Int)}{j n:Nat}(h:∀l∈zI,l.length=n)(hj:j < n):zf (zI.map fun l=>l.map V.int) j=(zI.map fun l=>l.getD j 0).map V.int:=by
 unfold zf
 rw [aeS,aeS]
 refine ae3 fun l hl=> ?_
 have hlen:=h l hl
 have e:l[j]? =some (l[j]'(by omega)):=gE (by omega)
 show (l.map V.int).getD j .cE=.int (l.getD j 0)
 rw [getD_mem e,aeV,Wp,e]
 rfl
theorem mQ (j:Nat):∀{ws:List Wl} {ss ys:List (Int×Int)} {cs:List (Int×Int)},ss.length=ws.length→ys.length=ws.length→cs.length=ws.length→
  (∀(i:Nat) (w:Wl) (s y:Int×Int),ws[i]? =some w→ss[i]? =some s→ys[i]? =some y→vl y=vl s*w.2.1)→(∀(i:Nat) (w:Wl) (c:Int×Int),ws[i]? =some w→cs[i]? =some c→((w.1.getD j 0:Int):Rat)=vl c*w.2.1)→gm ys cs=dG (ss.map vl) (ws.map (·.1)) j
 | [],[],[],[],_,_,_,_,_=>by simp [gm,dG]
 | w::ws,s::ss,y::ys,c::cs,h1,h2,h3,h4,h5=>by
  have ih:=mQ j (ws:=ws) (ss:=ss) (ys:=ys) (cs:=cs) (by simpa using h1) (by simpa using h2) (by simpa using h3) (fun i w s y e1 e2 e3=>h4 (i+1) w s y (by simpa using e1) (by simpa using e2) (by simpa using e3)) (fun i w c e1 e2=>h5 (i+1) w c (by simpa using e1) (by simpa using e2))
  have a:=h4 0 w s y rfl rfl rfl
  have b:=h5 0 w c rfl rfl
  have ed:gm (y::ys) (c::cs)=vl y*vl c+gm ys cs:=by simp [gm]
  simp only [ac_,dG]
  rw [ed,ih,a,b]
  grind
 | [],_::_,_,_,h,_,_,_,_=>by simp at h
 | [],[],_::_,_,_,h,_,_,_=>by simp at h
 | [],[],[],_::_,_,_,h,_,_=>by simp at h
 | _::_,[],_,_,h,_,_,_,_=>by simp at h
 | _::_,_::_,[],_,_,h,_,_,_=>by simp at h
 | _::_,_::_,_::_,[],_,_,h,_,_=>by simp at h
def uB (m:Nat)(zI:List (List Int)):List (List Int):=(afV m).map (fun j=>(zI.map fun l=>l.getD j 0)++[0])++[(zI.map fun l=>l.getD m 0)++[1]]
theorem qK {m:Nat}{zI:List (List Int)}{o:List Int}(h:o∈uB m zI):∃k,k < m+1∧o=(zI.map fun l=>l.getD k 0)++[if k=m then 1 else 0]∧True:=by
 unfold uB at h
 rcases aeM.mp h with z | z
 ·obtain ⟨j,hj,rfl⟩:=abt.mp z
  have Pc :j < m:=afS.mp hj
  exact ⟨j,by omega,by rw [if_neg (by omega)],trivial⟩
 ·exact ⟨m,by omega,by rw [if_pos rfl];exact aeH.mp z,trivial⟩
theorem Mi {m k:Nat}{zI:List (List Int)}(h:k < m+1):(zI.map fun l=>l.getD k 0)++[if k=m then 1 else 0]∈uB m zI:=by
 unfold uB
 by_cases z:k=m
 ·subst z
  rw [if_pos rfl]
  simp
 ·rw [if_neg z]
  exact aeM.mpr (.inl (abt.mpr ⟨k,afS.mpr (by omega),rfl⟩))
theorem vj {m n:Nat}{l0 l1:List Int}{ws:List Wl}(hlen:∀l∈ws.map (·.1),l.length=m+1)(hn:ws.length=n)(c0:jN (ws.map (·.1)) l0)(h0:∀j,j < m→l0.getD j 0=0)(h0m:l0.getD m 0≠0)(c1:jN (uB m (ws.map (·.1))) l1)(l1l:l1.length=n+1)(h1:∀j,j < n→l1.getD j 0=0)(hp:∀o∈uB m (ws.map (·.1)),o.length=n+1):l1.getD n 0=0:=by
 obtain ⟨y0,ly,ey⟩:=c0
 have ap' :=cG h0m
 have ly' :(y0.map fun a=>a*(1 / ((l0.getD m 0:Int):Rat))).length=(ws.map (·.1)).length:=by simp [ly]
 have all:∀o∈uB m (ws.map (·.1)),ev o (j9 (y0.map fun a=>a*(1 / ((l0.getD m 0:Int):Rat))))=0:=by
  intro o ho
  obtain ⟨k,hk,rfl,_⟩:=qK ho
  rw [uY k _ (ws.map (·.1)) _ ly',mI, ← ey k]
  by_cases z:k=m
  ·subst z
   rw [if_pos rfl]
   have e' :((1:Int):Rat)=1:=by simp
   rw [e']
   grind
  ·rw [if_neg z,h0 k (by omega)]
   simp
   grind
 have e:=HR (n:=n+1) c1 (by omega) (fun o ho=>by rw [hp o ho];exact aeG _) all
 rw [qw l1 _ n (fun j hj=>by
  by_cases z:j < n
  ·rw [h1 j z]
   simp
  ·rw [jk (by omega)]
   simp)] at e
 have zn:j9 (y0.map fun a=>a*(1 / ((l0.getD m 0:Int):Rat))) n= -1:=by
  unfold j9
  rw [if_neg (by rw [ly',aa_];omega)]
 rw [zn] at e
 have:((l1.getD n 0:Int):Rat)=0:=by grind
 exact_mod_cast this
theorem zg {ts:List Int}{qs:List (Int×Int)}{d:Int×Int}{b:Int}{j:Nat}(h:j8 ts (qs++[d]) b)(hj:j < qs.length):((ts.getD j 0:Int):Rat)=vl (qs.getD j (0,1))*b:=by
 have l:=h.1
 rw [aeO] at l
 simp at l
 have e1:ts[j]? =some (ts[j]'(by omega)):=gE (by omega)
 have e2:qs[j]? =some qs[j]:=gE hj
 have:=h.2 j _ _ e1 (by rw [aeL hj];exact e2)
 rw [getD_mem e1,aeV,e2]
 exact this
theorem vm {ts:List Int}{qs:List (Int×Int)}{d:Int×Int}{b:Int}{m:Nat}(h:j8 ts (qs++[d]) b)(hm:qs.length=m):((ts.getD m 0:Int):Rat)=vl d*b:=by
 have l:=h.1
 rw [aeO] at l
 simp at l
 have e1:ts[m]? =some (ts[m]'(by omega)):=gE (by omega)
 have:=h.2 m _ d e1 (by rw [aeP (by omega),hm];simp)
 rw [getD_mem e1]
 exact this
inductive qL (K:Frag)(vs:List V)(H:Hp)(Q:VK)(E_:XK):Prop where
 | mk (r dl:Addr) (m:Nat) (ls:List Addr) (cw:List (List V:_)) (fD:List (List (Int×Int))) (PX:List V) (ds:List (Int×Int)) (T B Z:Nat) (_:vs=[.ref r,.ref dl,.int (m:Int)]) (_:jm H r ls cw) (_:iM K H cw fD) (_:H dl=some (.lst PX)) (_:cX K H PX ds) (_:ds.length=fD.length) (_:Shape T B m fD) (_:(∀d∈ds,Sm T B d)) (_:m≤100) (_:fD.length≤100) (_:T≤20000) (_:B*(m+1)≤100000) (_:B≤8000) (_:bb (T+B*(m+1)) (min (m+1) fD.length)≤Z) (_:Z≤29000000) (_:(∀(p x:Addr) (us:List V) (xs:List (Int×Int)) (H' :Hp),av H H' →H' p=some (.tup [.str "solved",.ref x])→H' x=some (.lst us)→cX K H' us xs→xs.length=m→(∀q∈xs,Sm Z Z q)→(∀(i:Nat) (qs:List (Int×Int)) (d:Int×Int),fD[i]? =some qs→ds[i]? =some d→gm qs xs=vl d)→Q (.ref p) H')) (_:(∀(p y:Addr) (us:List V) (ys:List (Int×Int)) (H' :Hp),av H H' →H' p=some (.tup [.str "paper",.ref y])→H' y=some (.lst us)→cX K H' us ys→ys.length=fD.length→(∀q∈ys,Sm (Z+B*(m+1)) Z q)→(∀j,j < m→gm ys (CS fD j)=0)→gm ys ds=1→Q (.ref p) H')):qL K vs H Q E_
theorem mR:aG ["rows","due","many","wholes","lines","x","columns","papers","shares"] ["rows","due","many"] (ag yh):=sq
theorem PY (D:Def K mg "solve_rows" yh ["rows","due","many"])(iy:mg "zip"=none)(a_:mg "len"=none)(Xw:Fn P w K mg base (a9 P w) 2 "whole_row" ["row"] (Mc K))(PZ:Fn P w K mg base (a9 P w) 36 "solution_of" ["lines","many"] (iL K))(Xx:Fn P w K mg base (a9 P w) 1 "turned" ["rows","many"] mP)(CO:Fn P w K mg base (a9 P w) 33 "lowest_terms" ["top","bottom"] gd):
  Fn P w K mg base (a9 P w) 37 "solve_rows" ["rows","due","many"] (qL K):=by
 refine D.ok mR (fun vs H Q E h=> ?_) (fun f bF A outer s H vs Q E hr h=> ?_)
 ·obtain ⟨r,dl,m,ls,cw,fD,PX,ds,T,B,Z,rfl,_⟩:=h
  rfl
 obtain ⟨r,dl,m,ls,cw,fD,PX,ds,T,B,Z,rfl,M,NN,hdl,ND,hds,sh,sd,hm,hn,hT,hB,hB1,hZ,hZ1,q1,q2⟩:=h
 refine ⟨_,(ae (g6 (i:=3) mR.nd rfl (ab_ rfl) (tn:=["row","number"]) (fr:=[]) (caps:=[]) rfl ⟨rfl,by decide+kernel,rfl,by decide+kernel,by decide+kernel,rfl,trivial,trivial⟩ (uT rfl iy (aq (pv 0) (aq (pv 1) aa))) (fun _ _ _ _=>(qm (K:=K) (n:=2) rfl rfl (aV (aw (i:=0) (show (["row","number"]:List Str).Nodup from by decide+kernel) rfl (ab_ rfl)) (aV (aw (i:=1) (show (["row","number"]:List Str).Nodup from by decide+kernel) rfl (ab_ rfl)) cC)))) (fun _ _ _ _=>cj) (fun _ _ _ _=>(aA Xw hr.mo (mj (by first | assumption | exact a9.mh) rfl) (aq (aI iF (pv 0) (bR (aq (pv 1) aa))) aa))))
  (ae (g6 (i:=4) mR.nd rfl (ab_ rfl) (tn:=["whole"]) (fr:=[]) (caps:=[]) rfl ⟨rfl,by decide+kernel,rfl,by decide+kernel,by decide+kernel,rfl,trivial,trivial⟩ (bh (pv 3)) (fun _ _ _ _=>(aw (i:=0) (show (["whole"]:List Str).Nodup from by decide+kernel) rfl (ab_ rfl))) (fun _ _ _ _=>cj) (fun _ _ _ _=>(aY (cp (K:=K) rfl) (pv 0) af (fun _ _=>rfl))))
  (ae (aC (i:=5) mR.nd rfl (ab_ rfl) (aA PZ hr.mo pX (aq (pv 4) (aq (pv 2) aa))))
  (ae (bg (aQ GL (pv 5) lM (aT _)) (ah (aF (aZ (aq dz (aq (pv 5) aa))))) aL)
  (ae (aC (i:=6) mR.nd rfl (ab_ rfl) (aA Xx hr.mo pX (aq (pv 4) (aq (aI bH (pv 2) af) aa))))
  (ae (aC (i:=7) mR.nd rfl (ab_ rfl) (aI iF (cD (tn:=["column"]) (fr:=[]) (caps:=[]) rfl ⟨rfl,by decide+kernel,rfl,by decide+kernel,by decide+kernel,rfl,trivial,trivial⟩ (bh (dj eG (pv 6) eE (dD (pv 2)))) (fun _ _ _ _=>(aw (i:=0) (show (["column"]:List Str).Nodup from by decide+kernel) rfl (ab_ rfl))) (fun _ _ _ _=>cj) (fun _ _ _ _=>(aI iF (pv 0) (bR (aq af aa))))) (bR (aq (aI iF (aY aX (pv 6) (pv 2) (fun _ _=>rfl)) (bR (aq af aa))) aa))))
  (ae (aC (i:=8) mR.nd rfl (ab_ rfl) (aA PZ hr.mo pX (aq (pv 7) (aq (aR aJ rfl a_ bW (aq (pv 4) aa)) aa))))
  (ah (aF (aZ (aq dz (aq (cD (tn:=["share","whole"]) (fr:=[]) (caps:=[]) rfl ⟨rfl,by decide+kernel,rfl,by decide+kernel,by decide+kernel,rfl,trivial,trivial⟩ (uT rfl iy (aq (pv 8) (aq (pv 3) aa))) (fun _ _ _ _=>(qm (K:=K) (n:=2) rfl rfl (aV (aw (i:=0) (show (["share","whole"]:List Str).Nodup from by decide+kernel) rfl (ab_ rfl)) (aV (aw (i:=1) (show (["share","whole"]:List Str).Nodup from by decide+kernel) rfl (ab_ rfl)) cC)))) (fun _ _ _ _=>cj) (fun _ _ _ _=>(aA CO hr.mo (mj (by first | assumption | exact a9.mh) rfl) (aq (aI g_ (aY (cp (K:=K) rfl) (pv 0) af (fun _ _=>rfl)) (aY (cp (K:=K) rfl) (pv 1) af (fun _ _=>rfl))) (aq (aY (cp (K:=K) rfl) (pv 0) af (fun _ _=>rfl)) aa))))) aa)))))))))))),?_⟩
 have l1:=M.2.1
 have l2:=NN.1
 have l3:=ND.1
 refine ⟨_,rfl,_,rfl,r,dl,rfl,⟨_,aU.of M.1⟩,⟨_,aU.of hdl⟩,fun D1 n1=> ?_⟩
 refine xS (cap:=[]) (K:=K) (xs:=ls.map V.ref) (ys:=PX) (fun i v H=>∃w:Wl,v=.ref w.2.2.2∧w.2.2.1≠D1∧H w.2.2.2=some (.tup [.ref w.2.2.1,.int w.2.1])∧H w.2.2.1=some (.lst (w.1.map V.int))∧∀qs d,fD[i]? =some qs→ds[i]? =some d→VL T B m qs d w) n1 (by rw [aa_];exact aeJ (show ls.length≤1000 by omega) (by decide)) (by rw [aa_];omega) (fun H2 s2=>aU.of (s2 _ _ M.1)) (fun H2 s2=>aU.of (s2 _ _ hdl)) ?_ ?_ ?_
 ·rintro i v H2 H3 ys hD ks ⟨w,e1,e2,e3,e4,e5⟩
  exact ⟨w,e1,e2,ks _ _ (fun z=>by rw [z,hD] at e3;cases e3) e3,ks _ _ e2 e4,e5⟩
 ·rintro i x y H2 RR ex ey s2 ⟨ys0,hD0⟩ kk
  rw [Wp] at ex
  obtain ⟨l,el,rfl⟩:=aeN.mp ex
  have hi:i < ls.length:=(be.mp el).1
  obtain ⟨qs,eq⟩:∃qs,fD[i]? =some qs:=⟨_,gE (by omega)⟩
  obtain ⟨vs,ev⟩:∃vs,cw[i]? =some vs:=⟨_,gE (by omega)⟩
  have hl:=M.2.2 i l vs el ev
  have hq:=NN.2 i vs qs ev eq
  obtain ⟨d,ed,nd⟩:=ND.at ey
  obtain ⟨lq,sq⟩:=sh qs (ir eq)
  have lvs:=hq.1
  refine ⟨_,rfl,_,rfl,(by show 1≤sizeLine;decide),fun p1 np1=> ?_⟩
  have t1:=aK np1 (.lst [y])
  refine ⟨l,p1,vs,_,rfl,rfl,t1 _ _ (s2 _ _ hl),ak,ad_ (show vs.length+1≤1000 by omega) (by decide),fun p2 np2=> ?_⟩
  have t2:=aK np2 (.lst (vs++[y]))
  have VM:=t1.trans t2
  refine ⟨p2,qs++[d],T,B,rfl,⟨_,aU.of ak,(cX.snoc ((hq.same s2).same VM) ((nd.same s2).same VM))⟩,fun q' kG => ?_,hT,by rw [aeO,lq];exact hB,hB1,by rw [aeO,lq];show m+1≤1000;omega,fun p3 l3' ts b H3 s3 nl hp3 hl3 hb hbs wh hts=> ?_⟩
  ·rcases aeM.mp kG with z | z
   ·exact sq q' z
   ·rw [aeH.mp z]
    exact sd d (ir ed)
  ·refine kk _ _ (VM.trans s3) ⟨(ts,b,l3',p3),rfl,fun z=> ?_,hp3,hl3,fun VD d' e1 e2=> ?_⟩
   ·have:=VM _ _ hD0
    rw [show l3' =D1 from z,this] at nl
    cases nl
   ·rw [eq] at e1
    rw [ed] at e2
    cases e1
    cases e2
    rw [aeO,lq] at hbs hts
    exact ⟨wh,hb,hbs,hts⟩
 ·intro zs H2 hz dR s2 Xy
  rw [aa_] at hz
  obtain ⟨ws,lw,hw⟩:=jW (P:=fun i v (w:Wl)=>v=.ref w.2.2.2∧w.2.2.1≠D1∧H2 w.2.2.2=some (.tup [.ref w.2.2.1,.int w.2.1])∧H2 w.2.2.1=some (.lst (w.1.map V.int))∧∀qs d,fD[i]? =some qs→ds[i]? =some d→VL T B m qs d w) zs dR
  have ez:zs=ws.map (fun w=>V.ref w.2.2.2):=by
   refine afg fun i=> ?_
   rw [Wp]
   by_cases hi:i < zs.length
   ·have e1:zs[i]? =some zs[i]:=gE hi
    have e2:ws[i]? =some (ws[i]'(by omega)):=gE (by omega)
    have h:=(hw i _ _ e1 e2).1
    rw [e1,e2,h]
    rfl
   ·rw [aeE (by omega),aeE (by omega)]
    rfl
  subst ez
  have IL:ws.length=fD.length:=by omega
  have NK:∀(i:Nat) (w:Wl),ws[i]? =some w→H2 w.2.2.2=some (.tup [.ref w.2.2.1,.int w.2.1])∧H2 w.2.2.1=some (.lst (w.1.map V.int))∧∀qs d,fD[i]? =some qs→ds[i]? =some d→VL T B m qs d w:=fun i w e=>(hw i _ w (by rw [Wp,e];rfl) e).2.2
  have wp:∀(i:Nat) (w:Wl),ws[i]? =some w→∃qs d,fD[i]? =some qs∧ds[i]? =some d∧VL T B m qs d w:=fun i w e=>by
   have hi:i < ws.length:=(be.mp e).1
   obtain ⟨qs,eq⟩:∃qs,fD[i]? =some qs:=⟨_,gE (by omega)⟩
   obtain ⟨d,ed⟩:∃d,ds[i]? =some d:=⟨_,gE (by omega)⟩
   exact ⟨qs,d,eq,ed,(NK i w e).2.2 qs d eq ed⟩
  have IM:∀l∈ws.map (·.1),l.length=m+1:=fun l hl=>by
   obtain ⟨w,P0,rfl⟩:=abt.mp hl
   obtain ⟨i,e⟩:=aeK P0
   obtain ⟨qs,d,eq,_,wh,_⟩:=wp i w e
   have:=wh.1
   rw [aeO,(sh qs (ir eq)).1] at this
   exact this
  have wbd:∀l∈ws.map (·.1),Bd (T+B*(m+1)) l:=fun l hl=>by
   obtain ⟨w,P0,rfl⟩:=abt.mp hl
   obtain ⟨i,e⟩:=aeK P0
   obtain ⟨qs,d,eq,_,_,_,_,h⟩:=wp i w e
   exact Bd.of h
  have hlm:(ws.map (·.1)).length=fD.length:=by rw [aa_];exact IL
  refine ⟨_,rfl,D1,rfl,⟨_,aU.of Xy⟩,fun D2 n2=> ?_⟩
  refine b_ (cap:=[]) (K:=K) (a:=D1) (xs:=ws.map (fun w=>V.ref w.2.2.2)) (fun k v _=>∃w,ws[k]? =some w∧v=.ref w.2.2.1) n2 (by rw [aa_];exact aeJ (show ws.length≤1000 by omega) (by decide)) (fun H3 s3=>aU.of (s3 _ _ Xy)) (fun _ _ _ _ _ _ _ h=>h) ?_ ?_
  ·intro k x H3 RR ex s3 kk
   rw [Wp] at ex
   obtain ⟨w,ew,rfl⟩:=aeN.mp ex
   exact ⟨_,rfl,w.2.2.2,_,_,_,rfl,rfl,bL.of (s3 _ _ (NK k w ew).1),iI,kk _ _ (av.refl _) ⟨w,ew,rfl⟩⟩
  intro ys H3 hy P1 s3 NL
  have ey:ys=(ws.map (fun w=>w.2.2.1)).map V.ref:=by
   refine afg fun i=> ?_
   rw [aa_] at hy
   by_cases hi:i < ys.length
   ·have e1:ys[i]? =some ys[i]:=gE hi
    obtain ⟨w,e2,e3⟩:=P1 i _ e1
    rw [e1,e3,Wp,Wp,e2]
    rfl
   ·rw [aeE (by omega),aeE (by simp;omega)]
  subst ey
  have hLl:nY H3 ((ws.map (fun w=>w.2.2.1)).map V.ref) (ws.map (·.1)):=⟨by simp,fun i u l e1 e2=>by
   rw [Wp,Wp] at e1
   rw [Wp] at e2
   cases e:ws[i]? with
   | none=>rw [e] at e2;cases e2
   | some w=>
    rw [e] at e1 e2
    cases e1
    cases e2
    exact ⟨w.2.2.1,rfl,s3 _ _ (NK i w e).2.1⟩⟩
  have hMm:jm H3 D2 (ws.map (fun w=>w.2.2.1)) ((ws.map (·.1)).map fun l=>l.map V.int):=⟨NL,by simp,fun i l vs e1 e2=>by
   rw [Wp] at e1
   rw [Wp,Wp] at e2
   cases e:ws[i]? with
   | none=>rw [e] at e2;cases e2
   | some w=>
    rw [e] at e1 e2
    cases e1
    cases e2
    exact s3 _ _ (NK i w e).2.1⟩
  have mn:bb (T+B*(m+1)) (min m (ws.map (·.1)).length)≤Z:=ad_ (qH _ (by rw [hlm];omega)) hZ
  have Xz:=s2.trans s3
  refine ⟨_,rfl,_,rfl,D2,_,ws.map (·.1),m,T+B*(m+1),rfl,aU.of NL,hLl,IM,by omega,by omega,wbd,ad_ mn hZ1,fun l0 H4 s4 l0l cm l00 l0m=> ?_,fun x ki xs H4 s4 nx hx nxs lxs sxs sol=> ?_⟩
  ·refine ⟨_,rfl,rfl,_,rfl,?_⟩
   refine bf (fun z=>by simp at z) (fun _=> ?_)
   have M4:=hMm.same s4
   refine ⟨_,rfl,_,rfl,_,_,rfl,rfl,D2,ws.map (fun w=>w.2.2.1),_,(m:Int)+1,rfl,M4,by omega,by omega,by rw [aa_];omega,fun vs hvs=> ?_,fun c cs H5 s5 M5=> ?_⟩
   ·obtain ⟨l,hl,rfl⟩:=abt.mp hvs
    rw [aa_,IM l hl]
    omega
   have lcs:cs.length=m+1:=by
    have:=M5.2.1
    unfold jn at this
    simp at this
    omega
   have col:∀k,k < m+1→∃l,cs[k]? =some l∧H5 l=some (.lst (((ws.map (·.1)).map fun l=>l.getD k 0).map V.int)):=fun k hk=>by
    have e:(jn ((ws.map (·.1)).map fun l=>l.map V.int) ((m:Int)+1).toNat)[k]? =some (((ws.map (·.1)).map fun l=>l.getD k 0).map V.int):=by
     rw [← CT IM hk]
     unfold jn
     rw [Wp,ao0 (by omega)]
     rfl
    exact M5.row e
   refine ⟨_,rfl,_,rfl,_,rfl,c,_,rfl,aU.of M5.1,fun p6 n6=> ?_⟩
   have t6:=aK n6 (.lst (fW (cs.map V.ref) none (some (m:Int))))
   refine ⟨p6,rfl,⟨_,aU.of ak⟩,fun D6 nD6=> ?_⟩
   have lcl:((ws.map (·.1)).map fun l=>l.getD 0 0).length≤100:=by simp;omega
   refine mz (cap:=[]) (K:=K) (a:=p6) (xs:=(cs.map V.ref).take m) (fun k v H=>∃p,v=.ref p∧p≠D6∧H p=some (.lst ((List.map (fun l:List Int=>l.getD k 0) (ws.map (fun w:Wl=>w.1))++[(0:Int)]).map V.int))) nD6 (aeJ (show ((cs.map V.ref).take m).length≤1000 by simp;omega) (by decide)) (fun H7 s7=>aU.of (s7 _ _ (by rw [ak,lj (by simp;omega)]))) ?_ ?_ ?_
   ·rintro k v H7 H8 ys hD ks ⟨p,e1,e2,e3⟩
    exact ⟨p,e1,e2,ks _ _ e2 e3⟩
   ·rintro k x H7 RR ex s7 ⟨ys0,y8⟩ kk
    have hk:k < m:=by have:=(be.mp ex).1;simp at this;omega
    obtain ⟨l,el,hl⟩:=col k (by omega)
    rw [List.getElem?_take,if_pos hk,Wp,el] at ex
    cases ex
    refine ⟨_,rfl,(by show 1≤sizeLine;decide),fun pz nz=> ?_⟩
    have tz:=aK nz (.lst [.int 0])
    refine ⟨l,pz,_,_,rfl,rfl,tz _ _ (s7 _ _ (t6 _ _ hl)),ak,ad_ (show _≤1000 by simp;omega) (by decide),fun pn nn=> ?_⟩
    have tn:=aK nn (.lst (((ws.map (·.1)).map fun l=>l.getD k 0).map V.int++[.int 0]))
    refine kk _ _ (tz.trans tn) ⟨pn,rfl,fun z=> ?_,by rw [ak,aeR];rfl⟩
    have:=tz _ _ y8
    rw [z,this] at nn
    cases nn
   intro FD H7 hy6 P2 s7 hD6
   have ly6:FD.length=m:=by rw [hy6];simp;omega
   have XA:=t6.trans s7
   obtain ⟨lm,elm,XB⟩:=col m (by omega)
   refine ⟨_,rfl,_,rfl,c,_,_,_,rfl,rfl,aU.of (XA _ _ M5.1),bG (by rw [Wp,elm];rfl),(by show 1≤sizeLine;decide),fun pz nz=> ?_⟩
   have tz:=aK nz (.lst [.int 1])
   refine ⟨lm,pz,_,_,rfl,rfl,tz _ _ (XA _ _ XB),ak,ad_ (show _≤1000 by simp;omega) (by decide),fun pn nn=> ?_⟩
   have tn:=aK nn (.lst (((ws.map (·.1)).map fun l=>l.getD m 0).map V.int++[.int 1]))
   refine ⟨(by show 1≤sizeLine;decide),fun pL nL=> ?_⟩
   have tL:=aK nL (.lst [V.ref pn])
   have tzL:=(tz.trans tn).trans tL
   refine ⟨D6,pL,FD,_,rfl,rfl,tzL _ _ hD6,ak,ad_ (show FD.length+1≤1000 by omega) (by decide),fun pP nP=> ?_⟩
   have tP:=aK nP (.lst (FD++[V.ref pn]))
   have s7P:=tzL.trans tP
   have hpn:=tP _ _ (tL _ _ (ak (H:=upd H7 pz (.lst [.int 1])) (a:=pn) (o:=.lst (((ws.map (·.1)).map fun l=>l.getD m 0).map V.int++[.int 1]))))
   have eP:upd (upd (upd (upd H7 pz (.lst [.int 1])) pn (.lst (((ws.map (·.1)).map fun l=>l.getD m 0).map V.int++[.int 1]))) pL (.lst [V.ref pn])) pP (.lst (FD++[V.ref pn])) pP=some (.lst (FD++[V.ref pn])):=ak
   have XC:∀(k:Nat) (v:V),FD[k]? =some v→Ln H7 v (((ws.map (·.1)).map fun l=>l.getD k 0)++[0]):=fun k v e=>by
    obtain ⟨p,e1,_,e3⟩:=P2 k v e
    exact ⟨p,e1,e3⟩
   have s5P:=XA.trans s7P
   generalize upd (upd (upd (upd H7 pz (.lst [.int 1])) pn (.lst (((ws.map (·.1)).map fun l=>l.getD m 0).map V.int++[.int 1]))) pL (.lst [V.ref pn])) pP (.lst (FD++[V.ref pn]))=H9 at*
   have XD:nY H9 (FD++[V.ref pn]) (uB m (ws.map (·.1))):=by
    refine ⟨by simp [uB,ly6],fun k u l e1 e2=> ?_⟩
    unfold uB at e2
    by_cases hk:k < m
    ·rw [aeL (by omega)] at e1
     rw [aeL (by simpa using hk),Wp,ao0 hk] at e2
     cases e2
     exact (XC k u e1).same s7P
    ·rw [aeP (by omega)] at e1
     rw [aeP (by simp;omega)] at e2
     by_cases hkm:k=m
     ·subst hkm
      rw [show k - FD.length=0 by omega] at e1
      rw [show k - ((afV k).map fun j=>((ws.map (·.1)).map fun l=>l.getD j 0)++[0]).length=0 by simp] at e2
      cases e1
      cases e2
      exact ⟨pn,rfl,by rw [hpn,aeR];rfl⟩
     ·rw [aeE (by simp;omega)] at e1
      cases e1
   have ppl:∀o∈uB m (ws.map (·.1)),o.length=fD.length+1:=fun o ho=>by
    rcases qK ho with ⟨k,hk,e⟩
    rw [e.1]
    simp [IL]
   have ppb:∀o∈uB m (ws.map (·.1)),Bd (T+B*(m+1)) o:=fun o ho=>by
    rcases qK ho with ⟨k,hk,e,hc⟩
    rw [e]
    refine Bd.of fun t ht=> ?_
    rcases aeM.mp ht with z | z
    ·obtain ⟨l,hl,rfl⟩:=abt.mp z
     exact wbd l hl k
    ·rw [aeH.mp z]
     refine ad_ ?_ (agb (n:=T+B*(m+1)))
     split <;> decide
   have XE:(uB m (ws.map (·.1))).length=m+1:=by simp [uB]
   have VN:bb (T+B*(m+1)) (min fD.length (uB m (ws.map (·.1))).length)≤Z:=ad_ (qH _ (by rw [XE];omega)) hZ
   have s39:=(s4.trans s5).trans s5P
   refine ⟨_,rfl,_,rfl,D2,_,rfl,.inl (aU.of (s39 _ _ NL)),pP,_,uB m (ws.map (·.1)),fD.length,T+B*(m+1),by simp [IL],aU.of eP,XD,ppl,by omega,by omega,ppb,ad_ VN hZ1,fun l1 HF qi l1l cm1 l10 l1m=> ?_,fun x2 zH ss HF qi nx2 hx2 nss VO XF XG=> ?_⟩
   ·exact absurd (vj IM IL cm l00 l0m cm1 l1l l10 ppl) l1m
   have csm:∀k,k < m+1→dG (ss.map vl) (ws.map (·.1)) k=if k=m then 1 else 0:=fun k hk=>by
    have e:=XG _ (Mi hk)
    rw [uY k _ (ws.map (·.1)) (ss.map vl) (by simp [IL,VO])] at e
    by_cases z:k=m
    ·rw [if_pos z] at e ⊢
     have e' :((1:Int):Rat)=1:=by simp
     rw [e'] at e
     grind
    ·rw [if_neg z] at e ⊢
     have e' :((0:Int):Rat)=0:=by simp
     rw [e'] at e
     grind
   have Mj:=s39.trans qi
   have P4:=Mj _ _ (s3 _ _ Xy)
   have aqz:=nss.1
   refine ⟨_,rfl,_,rfl,x2,D1,rfl,⟨_,aU.of hx2⟩,⟨_,aU.of P4⟩,fun D9 n9=> ?_⟩
   refine sM (cap:=[]) (K:=K) (xs:=zH) (ys:=ws.map (fun w=>V.ref w.2.2.2)) (fun k v H=>∃w q,ws[k]? =some w∧ss[k]? =some q∧Nm H v (low (q.1*w.2.1) q.2)) n9 (aeJ (show zH.length≤1000 by omega) (by decide)) (by rw [aa_];omega) (fun LK vZ=>aU.of (vZ _ _ hx2)) (fun LK vZ=>aU.of (vZ _ _ P4)) ?_ ?_ ?_
   ·rintro k v LK H12 ys hD ks ⟨w,q,e1,e2,e3⟩
    exact ⟨w,q,e1,e2,e3.kept hD ks⟩
   ·intro k x y LK RR ex ey vZ kk
    obtain ⟨q,Ml,ps,rfl,hps⟩:=nss.at ex
    rw [Wp] at ey
    obtain ⟨w,ew,rfl⟩:=aeN.mp ey
    obtain ⟨qs,d,eqs,P5,wh,wb,XH,_⟩:=wp k w ew
    have sq:=XF q (ir Ml)
    have XI:=vZ _ _ (Mj _ _ (s3 _ _ (NK k w ew).1))
    have P6:=Ty.av.cR vZ hps
    refine ⟨_,rfl,ps,_,_,_,rfl,rfl,P6,iI,_,rfl,w.2.2.2,_,_,_,rfl,rfl,bL.of XI,iJ,_,_,rfl,rfl,f_ (my sq.top VN) XH (by omega),_,rfl,ps,_,_,_,rfl,rfl,P6,iJ,?_⟩
    exact ⟨_,_,rfl,by have:=sq.pos;omega,fun p8 H8 s8 e8=>kk _ _ s8 ⟨w,q,ew,Ml,p8,rfl,e8⟩⟩
   intro us9 LK h9 P7 vZ hD9
   refine ⟨(by show 2≤sizeLine;decide),fun XJ NM=> ?_⟩
   have zG:=aK NM (.tup [.str "paper",.ref D9])
   have XM:∀(k:Nat) (w:Wl) (q:Int×Int),ws[k]? =some w→ss[k]? =some q→(afm (fun (w:Wl) (q:Int×Int)=>low (q.1*w.2.1) q.2) ws ss)[k]? =some (low (q.1*w.2.1) q.2):=fun k w q e1 e2=>by rw [afG,e1,e2]
   have CU:(afm (fun (w:Wl) (q:Int×Int)=>low (q.1*w.2.1) q.2) ws ss).length=fD.length:=by simp [IL,VO]
   have vly:∀(k:Nat) (w:Wl) (q y:Int×Int),ws[k]? =some w→ss[k]? =some q→(afm (fun (w:Wl) (q:Int×Int)=>low (q.1*w.2.1) q.2) ws ss)[k]? =some y→vl y=vl q*w.2.1:=fun k w q y e1 e2 e3=>by
    rw [XM k w q e1 e2] at e3
    cases e3
    have sq:=XF q (ir e2)
    rw [qp (by have:=sq.pos;omega)]
    unfold vl
    push_cast
    grind
   refine q2 XJ D9 us9 (afm (fun (w:Wl) (q:Int×Int)=>low (q.1*w.2.1) q.2) ws ss) _ (((Xz.trans Mj).trans vZ).trans zG) ak (zG _ _ hD9) ⟨by rw [h9,CU];omega,fun k u y e1 e2=> ?_⟩ CU (fun y hy=> ?_) (fun j hj=> ?_) ?_
   ·obtain ⟨w,q,ew,Ml,p,e,hp⟩:=P7 k u e1
    rw [XM k w q ew Ml] at e2
    cases e2
    exact ⟨p,e,bL.of (zG _ _ hp)⟩
   ·obtain ⟨k,hk⟩:=aeK hy
    have Vz:k < fD.length:=by rw [← CU];exact (be.mp hk).1
    obtain ⟨w,ew⟩:∃w,ws[k]? =some w:=⟨_,gE (by omega)⟩
    obtain ⟨q,Ml⟩:∃q,ss[k]? =some q:=⟨_,gE (by omega)⟩
    rw [XM k w q ew Ml] at hk
    cases hk
    obtain ⟨qs,d,eqs,P5,wh,wb,XH,_⟩:=wp k w ew
    have sq:=XF q (ir Ml)
    exact wJ (by have:=sq.pos;omega) (qt (my sq.top VN) XH) (my sq.bot VN)
   ·rw [mQ j (ws:=ws) (ss:=ss) (by omega) (by rw [CU,IL]) (by simp [CS,IL]) vly ?_,csm j (by omega),if_neg (by omega)]
    intro k w cq ew ec
    obtain ⟨qs,d,eqs,P5,wh,_⟩:=wp k w ew
    unfold CS at ec
    rw [Wp,eqs] at ec
    cases ec
    exact zg wh (by rw [(sh qs (ir eqs)).1];exact hj)
   ·rw [mQ m (ws:=ws) (ss:=ss) (by omega) (by rw [CU,IL]) (by omega) vly ?_,csm m (by omega),if_pos rfl]
    intro k w cq ew ec
    obtain ⟨qs,d,eqs,P5,wh,_⟩:=wp k w ew
    rw [ec] at P5
    cases P5
    exact vm wh (sh qs (ir eqs)).1
  ·refine ⟨_,rfl,rfl,_,rfl,?_⟩
   refine bf (fun _=> ?_) (fun z=>by simp at z)
   refine ⟨_,rfl,(by show 2≤sizeLine;decide),fun p5 n5=> ?_⟩
   have s5:=aK n5 (.tup [.str "solved",.ref x])
   refine q1 p5 x ki xs _ ((Xz.trans s4).trans s5) ak (s5 _ _ hx) (nxs.same s5) lxs (fun q hq=>(sxs q hq).up mn mn) (fun i qs d eq ed=> ?_)
   have hi:i < fD.length:=(be.mp eq).1
   obtain ⟨w,ew⟩:∃w,ws[i]? =some w:=⟨_,gE (by omega)⟩
   obtain ⟨wh,wb,_⟩:=(NK i w ew).2.2 qs d eq ed
   have e0:=sol w.1 (abt.mpr ⟨w,ir ew,rfl⟩)
   rw [sY wh (by rw [lxs,(sh qs (ir eq)).1])] at e0
   have wb' :=cG (b:=w.2.1) (by omega)
   grind
inductive vn (K:Frag)(f:Int×Int→Int×Int→Int×Int)(vs:List V)(H:Hp)(Q:VK)(E_:XK):Prop where
 | mk (u v:V) (x y:Int×Int) (_:vs=[u,v]) (_:j_ K H u x) (_:j_ K H v y) (_:Po 100000 x) (_:Po 100000 y) (_:gives H Q (f x y)):vn K f vs H Q E_
theorem P8:aG ["one","other"] ["one","other"] (ag vf):=sq
theorem P9 (hM:sy CX)(D:Def K mg "difference_of" vf ["one","other"])(CO:Fn P w K mg base CX 33 "lowest_terms" ["top","bottom"] gd):Fn P w K mg base CX 34 "difference_of" ["one","other"] (vn K subQ):=by
 refine D.ok P8 (fun vs H Q E h=> ?_) (fun f bF A outer s H vs Q E hr h=> ?_)
 ·obtain ⟨u,v,x,y,rfl,_⟩:=h
  rfl
 obtain ⟨u,v,x,y,rfl,⟨p1,rfl,h1⟩,⟨p2,rfl,h2⟩,k1,k2,q⟩:=h
 have px:=sE (X:=kH CX P w K mg base ["one","other"] "difference_of" (ag vf) f bF A outer s H E) hM
 refine ⟨_,(ah (aF (aA CO hr.mo px (aq (aI cL (aI cf (aS (pv 0)) (aS (pv 1))) (aI cf (aS (pv 1)) (aS (pv 0)))) (aq (aI cf (aS (pv 0)) (aS (pv 1))) aa))))),?_⟩
 have b1:=k1.top
 have b2:=k1.bot
 have b3:=k2.top
 have b4:=k2.bot
 have c:∀{i j:Int},intBits i≤100000→intBits j≤100000→sj i j:=fun a b=>⟨ad_ a (by decide),ad_ b (by decide)⟩
 refine ⟨_,rfl,p1,_,_,_,rfl,rfl,h1,iI,_,rfl,p2,_,_,_,rfl,rfl,h2,iJ,_,_,rfl,rfl,c b1 b4,?_⟩
 refine ⟨_,rfl,p2,_,_,_,rfl,rfl,h2,iI,_,rfl,p1,_,_,_,rfl,rfl,h1,iJ,_,_,rfl,rfl,c b3 b2,?_⟩
 refine ⟨_,_,rfl,rfl,?_⟩
 refine ⟨_,rfl,p1,_,_,_,rfl,rfl,h1,iJ,_,rfl,p2,_,_,_,rfl,rfl,h2,iJ,_,_,rfl,rfl,c b2 b4,?_⟩
 exact ⟨_,_,rfl,ID k1 k2,q⟩
inductive vo (K:Frag)(f:Rat→Rat→Rat)(vs:List V)(H:Hp)(Q:VK)(E_:XK):Prop where
 | mk (u v:V) (x y:Rat) (_:vs=[u,v]) (_:eQ K H u x) (_:eQ K H v y) (_:Sz 100000 x) (_:Sz 100000 y) (_:gives H Q (qr (f x y))):vo K f vs H Q E_
theorem CV {k:Nat}{r:Rat}(h:Sz k r):Po k (qr r):=⟨cz r,h.top,h.bot⟩
theorem Mm {k:Nat}{x:Str}{ps:List Str}(F:Fn P w K mg base CX k x ps (vn K subQ)):Fn P w K mg base CX k x ps (vo K fun a b=>a - b):=by
 obtain ⟨f,fd,G,r⟩:=F.ex
 refine ⟨f,fd,G.imp fun vs H Q E h=> ?_,r⟩
 obtain ⟨u,v,a,b,e,h1,h2,k1,k2,q⟩:=h
 refine ⟨u,v,qr a,qr b,e,h1,h2,CV k1,CV k2,?_⟩
 unfold subQ
 rw [BV]
 exact q
def CW (K:Frag)(H:Hp)(Q:VK)(p:Rat×Rat):Prop:=∀(v:V) (H' :Hp),av H H' →d7 K H' v p→Q v H'
inductive vp (K:Frag)(f:Rat→Rat→Rat)(vs:List V)(H:Hp)(Q:VK)(E_:XK):Prop where
 | mk (u v:V) (x y:Rat×Rat) (_:vs=[u,v]) (_:d7 K H u x) (_:d7 K H v y) (_:Sz 100000 x.1) (_:Sz 100000 x.2) (_:Sz 100000 y.1) (_:Sz 100000 y.2) (_:CW K H Q (f x.1 y.1,f x.2 y.2)):vp K f vs H Q E_
theorem P_:aG ["one","other"] ["one","other"] (ag vg):=sq
theorem Qa (hM:sy CX)(D:Def K mg "pair_difference" vg ["one","other"])(Qb:Fn P w K mg base CX 34 "difference_of" ["one","other"] (vo K fun a b=>a - b)):Fn P w K mg base CX 35 "pair_difference" ["one","other"] (vp K fun a b=>a - b):=by
 refine D.ok P_ (fun vs H Q E h=> ?_) (fun f bF A outer s H vs Q E hr h=> ?_)
 ·obtain ⟨u,v,x,y,rfl,_⟩:=h
  rfl
 obtain ⟨u,v,x,y,rfl,⟨p1,a1,a2,rfl,h1,n1,n2⟩,⟨p2,b1,b2,rfl,h2,m1,m2⟩,k1,k2,l1,l2,q⟩:=h
 have px:=sE (X:=(kH (a9 P w) P w K mg base ["one","other"] "pair_difference" (ag vg) f bF A outer s H E)) hM
 refine ⟨_,(ah (aF (aZ (aq (aA Qb hr.mo px (aq (aS (pv 0)) (aq (aS (pv 1)) aa))) (aq (aA Qb hr.mo px (aq (aS (pv 0)) (aq (aS (pv 1)) aa))) aa))))),?_⟩
 refine ⟨_,rfl,p1,_,_,_,rfl,rfl,h1,iI,_,rfl,p2,_,_,_,rfl,rfl,h2,iI,a1,b1,_,_,rfl,n1,m1,k1,l1,fun c1 H1 s1 e1=> ?_⟩
 refine ⟨_,rfl,p1,_,_,_,rfl,rfl,Ty.av.cR s1 h1,iJ,_,rfl,p2,_,_,_,rfl,rfl,Ty.av.cR s1 h2,iJ,a2,b2,_,_,rfl,n2.same s1,m2.same s1,k2,l2,fun c2 H2 s2 e2=> ?_⟩
 refine ⟨(by show 2≤sizeLine;decide),fun c3 n3=> ?_⟩
 have s3:=aK n3 (.tup [.ref c1,.ref c2])
 exact q (.ref c3) _ (fun b o z=>s3 _ _ (s2 _ _ (s1 _ _ z))) ⟨c3,_,_,rfl,bL.of ak,⟨c1,rfl,bL.of (s3 _ _ (s2 _ _ e1))⟩,⟨c2,rfl,bL.of (s3 _ _ e2)⟩⟩
inductive qM (K:Frag)(C:Addr)(vs:List V)(H:Hp)(Q:VK)(E_:XK):Prop where
 | mk (a dx:Addr) (_:vs=[.ref a]) (_:H a=some (.ins C dx [])) (_:∀(pP pW pB:Addr) (H' :Hp),bT a H H' →H pP=none→H pW=none→H pB=none→fE K H' C a dx pP pW pB [] [] [] [] []→Q .cE H'):qM K C vs H Q E_
theorem IP {x:V}:dC "pin_places" x []=([("pin_places",x)]:List (Str×V)):=rfl
theorem IQ {x y:V}:dC "pin_ways" y [("pin_places",x)]=([("pin_places",x),("pin_ways",y)]:List (Str×V)):=by
 simp only [dC]
 rw [if_neg (by decide)]
theorem IS {x y z:V}:dC "bar_ends" z [("pin_places",x),("pin_ways",y)]=([("pin_places",x),("pin_ways",y),("bar_ends",z)]:List (Str×V)):=by
 simp only [dC]
 rw [if_neg (by decide),if_neg (by decide)]
theorem Qc:aG ["self"] ["self"] (ag yQ):=sq
theorem Qd {f:Addr}{fd:FuncData}{C:Addr}(F:nV K "__init__" "Frame.__init__" yQ f fd)(fc:BR K C):cM P w K mg base (a9 P w) 1 f fd ["self"] (qM K C):=by
 refine dq F Qc (fun vs H Q E h=> ?_) (fun bF A outer s H vs Q E hr h=> ?_)
 ·obtain ⟨a,dx,rfl,_⟩:=h
  rfl
 obtain ⟨a,dx,rfl,ha,q⟩:=h
 refine ⟨_,(ae (pV (pv 0) d6 rfl)
  (ae (pV (pv 0) d6 rfl)
  (ah (pV (pv 0) d6 rfl)))),?_⟩
 intro pP nP
 have aP:a≠pP:=au ha nP
 refine ⟨_,rfl,a,C,dx,_,rfl,(by rw [aj aP];exact ha),fc.cls,fc.pl,(by show 0 < 1000;decide),?_⟩
 rw [IP]
 generalize e1:upd (upd H pP (.dK [])) a (.ins C dx [("pin_places",.ref pP)])=H1
 have o1:H1 a=some (.ins C dx [("pin_places",.ref pP)]):=by rw [← e1,ak]
 have p1:H1 pP=some (.dK []):=by rw [← e1,aj (ae8 aP),ak]
 have k1:∀b o,b≠a→H b=some o→H1 b=some o:=fun b o n e=>by rw [← e1,aj n,aj (au e nP)];exact e
 intro pW nW
 have aW:a≠pW:=au o1 nW
 refine ⟨_,rfl,a,C,dx,_,rfl,(by rw [aj aW];exact o1),fc.cls,fc.wy,(by show 1 < 1000;decide),?_⟩
 rw [IQ]
 generalize e2:upd (upd H1 pW (.dK [])) a (.ins C dx [("pin_places",.ref pP),("pin_ways",.ref pW)])=H2
 have PW:pP≠pW:=au p1 nW
 have o2:H2 a=some (.ins C dx [("pin_places",.ref pP),("pin_ways",.ref pW)]):=by rw [← e2,ak]
 have w2:H2 pW=some (.dK []):=by rw [← e2,aj (ae8 aW),ak]
 have k2:∀b o,b≠a→H1 b=some o→H2 b=some o:=fun b o n e=>by rw [← e2,aj n,aj (au e nW)];exact e
 intro pB nB
 have aB:a≠pB:=au o2 nB
 have p2:=k2 _ _ (ae8 aP) p1
 refine ⟨_,rfl,a,C,dx,_,rfl,(by rw [aj aB];exact o2),fc.cls,fc.br,(by show 2 < 1000;decide),?_⟩
 rw [IS]
 have PB:pP≠pB:=au p2 nB
 have WB:pW≠pB:=au w2 nB
 have k3:∀b o,b≠a→H2 b=some o→(upd (upd H2 pB (.dK [])) a (.ins C dx [("pin_places",.ref pP),("pin_ways",.ref pW),("bar_ends",.ref pB)])) b=some o:=fun b o n e=>by rw [aj n,aj (au e nB)];exact e
 have f1:∀b,b≠a→H1 b=none→H b=none:=fun b n e=>by
  cases z:H b with
  | none=>rfl
  | some o=>rw [k1 b o n z] at e;cases e
 have f2:∀b,b≠a→H2 b=none→H b=none:=fun b n e=>by
  cases z:H b with
  | none=>rfl
  | some o=>rw [k2 b o n (k1 b o n z)] at e;cases e
 refine q pP pW pB _ (fun b o n e=>k3 b o n (k2 b o n (k1 b o n e))) nP (f1 _ (ae8 aW) nW) (f2 _ (ae8 aB) nB) ⟨ak,k3 _ _ (ae8 aP) p2,k3 _ _ (ae8 aW) w2,?_,PW,PB,WB,.nil,.nil⟩
 rw [aj (ae8 aB),ak]
inductive jY (K:Frag)(C:Addr)(vs:List V)(H:Hp)(Q:VK)(E_:XK):Prop where
 | mk (a dx pP pW pB:Addr) (ps:List (Str×Pt)) (bs:List (Str×Str×Str)) (kP kW kB:List (Key×V)) (_:vs=[.ref a]) (_:fE K H C a dx pP pW pB ps bs kP kW kB) (_:∀(l:Addr) (H' :Hp),av H H' →H l=none→H' l=some (.lst ((bs.map (·.1)).map V.str))→Q (.ref l) H'):jY K C vs H Q E_
theorem Qe:aG ["self"] ["self"] (ag yV):=sq
theorem Qf {f:Addr}{fd:FuncData}{C:Addr}(F:nV K "bars" "Frame.bars" yV f fd)(fc:BR K C)(bN:mg "list"=none):cM P w K mg base (a9 P w) 1 f fd ["self"] (jY K C):=by
 refine dq F Qe (fun vs H Q E h=> ?_) (fun bF A outer s H vs Q E hr h=> ?_)
 ·obtain ⟨a,dx,pP,pW,pB,ps,bs,kP,kW,kB,rfl,_⟩:=h
  rfl
 obtain ⟨a,dx,pP,pW,pB,ps,bs,kP,kW,kB,rfl,R,q⟩:=h
 refine ⟨_,(ah (aF (ck (dP rfl) rfl bN gk (aq (c7 (pv 0) rfl) aa)))),?_⟩
 refine ⟨_,rfl,a,C,dx,_,_,rfl,R.obj,fc.cls,fc.br,rfl,pB,kB,rfl,.inl R.br,fun l nl=> ?_⟩
 refine q l _ (aK nl _) nl ?_
 rw [ak]
 have e:kB.map (fun kv=>kV kv.1)=(bs.map (·.1)).map V.str:=by
  have z:kB.map (fun kv=>kV kv.1)=(kB.map (·.1)).map kV:=by rw [aeS];rfl
  rw [z,R.kd,aeS]
  rfl
 rw [e]
inductive fO (K:Frag)(C:Addr)(vs:List V)(H:Hp)(Q:VK)(E_:XK):Prop where
 | mk (a dx pP pW pB:Addr) (ps:List (Str×Pt)) (bs:List (Str×Str×Str)) (kP kW kB:List (Key×V)) (_:vs=[.ref a]) (_:fE K H C a dx pP pW pB ps bs kP kW kB) (_:∀(l:Addr) (H' :Hp),av H H' →H l=none→H' l=some (.lst ((ps.map (·.1)).map V.str))→Q (.ref l) H'):fO K C vs H Q E_
theorem Qg:aG ["self"] ["self"] (ag yU):=sq
theorem Qh {f:Addr}{fd:FuncData}{C:Addr}(F:nV K "pins" "Frame.pins" yU f fd)(fc:BR K C)(bN:mg "list"=none):cM P w K mg base (a9 P w) 1 f fd ["self"] (fO K C):=by
 refine dq F Qg (fun vs H Q E h=> ?_) (fun bF A outer s H vs Q E hr h=> ?_)
 ·obtain ⟨a,dx,pP,pW,pB,ps,bs,kP,kW,kB,rfl,_⟩:=h
  rfl
 obtain ⟨a,dx,pP,pW,pB,ps,bs,kP,kW,kB,rfl,R,q⟩:=h
 refine ⟨_,(ah (aF (ck (dP rfl) rfl bN gk (aq (c7 (pv 0) rfl) aa)))),?_⟩
 refine ⟨_,rfl,a,C,dx,_,_,rfl,R.obj,fc.cls,fc.pl,rfl,pP,kP,rfl,.inl R.pl,fun l nl=> ?_⟩
 refine q l _ (aK nl _) nl ?_
 rw [ak]
 have e:kP.map (fun kv=>kV kv.1)=(ps.map (·.1)).map V.str:=by
  have z:kP.map (fun kv=>kV kv.1)=(kP.map (·.1)).map kV:=by rw [aeS];rfl
  rw [z,R.wd,aeS]
  rfl
 rw [e]
inductive dS (K:Frag)(C:Addr)(vs:List V)(H:Hp)(Q:VK)(E_:XK):Prop where
 | mk (a dx pP pW pB:Addr) (ps:List (Str×Pt)) (bs:List (Str×Str×Str)) (kP kW kB:List (Key×V)) (x:Str) (_:vs=[.ref a,.str x]) (_:fE K H C a dx pP pW pB ps bs kP kW kB) (_:x∈ps.map (·.1)) (_:Q .cE H):dS K C vs H Q E_
theorem Qi:aG ["self","pin"] ["self","pin"] (ag yT):=sq
theorem Qj {f:Addr}{fd:FuncData}{C:Addr}(F:nV K "check_pin" "Frame.check_pin" yT f fd)(fc:BR K C):cM P w K mg base (a9 P w) 1 f fd ["self","pin"] (dS K C):=by
 refine dq F Qi (fun vs H Q E h=> ?_) (fun bF A outer s H vs Q E hr h=> ?_)
 ·obtain ⟨a,dx,pP,pW,pB,ps,bs,kP,kW,kB,x,rfl,_⟩:=h
  rfl
 obtain ⟨a,dx,pP,pW,pB,ps,bs,kP,kW,kB,x,rfl,R,hx,q⟩:=h
 refine ⟨_,(ah (bg (pR (oU (bU hr) (pv 1) (c7 (pv 0) rfl))) (ah (df)) aL)),?_⟩
 refine ⟨_,rfl,_,rfl,a,C,dx,_,_,rfl,R.obj,fc.cls,fc.pl,rfl,pP,_,rfl,cQ.k (k:=.inr x) R.pl,_,rfl,?_⟩
 rw [R.pin x,decide_eq_true hx]
 exact q
inductive jo (K:Frag)(C:Addr)(vs:List V)(H:Hp)(Q:VK)(E_:XK):Prop where
 | mk (a dx pP pW pB:Addr) (ps:List (Str×Pt)) (bs:List (Str×Str×Str)) (kP kW kB:List (Key×V)) (x:Str) (p:Pt) (_:vs=[.ref a,.str x]) (_:fE K H C a dx pP pW pB ps bs kP kW kB) (_:(ps.map (·.1)).Nodup) (_:(x,p)∈ps) (_:∀v,Spot K H v p→Q v H):jo K C vs H Q E_
theorem Qk:aG ["self","pin"] ["self","pin"] (ag yW):=sq
theorem Ql {f:Addr}{fd:FuncData}{C:Addr}(F:nV K "place" "Frame.place" yW f fd)(fc:BR K C)(MC:bJ P w K mg base (a9 P w) 1 C "check_pin" ["self","pin"] (dS K C)):cM P w K mg base (a9 P w) 2 f fd ["self","pin"] (jo K C):=by
 refine dq F Qk (fun vs H Q E h=> ?_) (fun bF A outer s H vs Q E hr h=> ?_)
 ·obtain ⟨a,dx,pP,pW,pB,ps,bs,kP,kW,kB,x,p,rfl,_⟩:=h
  rfl
 obtain ⟨a,dx,pP,pW,pB,ps,bs,kP,kW,kB,x,p,rfl,R,nd,hx,q⟩:=h
 refine ⟨_,(ae (bO (c_ (k:=1) (pv 0) hr.mo (pY P w) (aq (pv 1) aa)))
  (ah (aF (bX (bU hr) (c7 (pv 0) rfl) (pv 1) (fun _ _=>rfl))))),?_⟩
 refine ⟨_,rfl,a,C,dx,_,_,_,rfl,R.obj,rfl,MC,_,rfl,a,dx,pP,pW,pB,ps,bs,kP,kW,kB,x,rfl,R,abt.mpr ⟨_,hx,rfl⟩,?_⟩
 obtain ⟨v,ev,hv⟩:=R.place nd hx
 exact ⟨_,rfl,a,C,dx,_,_,rfl,R.obj,fc.cls,fc.pl,rfl,_,rfl,pP,v,rfl,(by rw [← ev];exact cQ.k (k:=.inr x) R.pl),q v hv⟩
inductive mS (K:Frag)(C:Addr)(vs:List V)(H:Hp)(Q:VK)(E_:XK):Prop where
 | mk (a dx pP pW pB:Addr) (ps:List (Str×Pt)) (bs:List (Str×Str×Str)) (kP kW kB:List (Key×V)) (x one other:Str) (_:vs=[.ref a,.str x]) (_:fE K H C a dx pP pW pB ps bs kP kW kB) (_:(bs.map (·.1)).Nodup) (_:(x,one,other)∈bs) (_:∀p,Rd H p (.tup [.str one,.str other])→Q (.ref p) H):mS K C vs H Q E_
theorem Qm:aG ["self","bar"] ["self","bar"] (ag yY):=sq
theorem Qn {f:Addr}{fd:FuncData}{C:Addr}(F:nV K "ends" "Frame.ends" yY f fd)(fc:BR K C):cM P w K mg base (a9 P w) 1 f fd ["self","bar"] (mS K C):=by
 refine dq F Qm (fun vs H Q E h=> ?_) (fun bF A outer s H vs Q E hr h=> ?_)
 ·obtain ⟨a,dx,pP,pW,pB,ps,bs,kP,kW,kB,x,one,other,rfl,_⟩:=h
  rfl
 obtain ⟨a,dx,pP,pW,pB,ps,bs,kP,kW,kB,x,one,other,rfl,R,nd,hx,q⟩:=h
 refine ⟨_,(ae (bg (pR (oU (bU hr) (pv 1) (c7 (pv 0) rfl))) (ah (df)) aL)
  (ah (aF (bX (bU hr) (c7 (pv 0) rfl) (pv 1) (fun _ _=>rfl))))),?_⟩
 have hm:x∈bs.map (·.1):=abt.mpr ⟨_,hx,rfl⟩
 refine ⟨_,rfl,_,rfl,a,C,dx,_,_,rfl,R.obj,fc.cls,fc.br,rfl,pB,_,rfl,cQ.k (k:=.inr x) R.br,_,rfl,?_⟩
 rw [R.bar x,decide_eq_true hm]
 obtain ⟨p,ev,hv⟩:=R.ends nd hx
 exact ⟨_,rfl,a,C,dx,_,_,rfl,R.obj,fc.cls,fc.br,rfl,_,rfl,pB,.ref p,rfl,(by rw [← ev];exact cQ.k (k:=.inr x) R.br),q p hv⟩
inductive jZ (K:Frag)(C:Addr)(vs:List V)(H:Hp)(Q:VK)(E_:XK):Prop where
 | mk (a dx pP pW pB:Addr) (ps:List (Str×Pt)) (bs:List (Str×Str×Str)) (kP kW kB:List (Key×V)) (pw:List (Str×List (Rat×Rat))) (x:Str) (ws:List (Rat×Rat)) (_:vs=[.ref a,.str x]) (_:fE K H C a dx pP pW pB ps bs kP kW kB) (_:uw K H pw kW) (_:(pw.map (·.1)).Nodup) (_:(x,ws)∈pw) (_:x∈ps.map (·.1)) (_:∀(l:Addr) (us:List V) (H' :Hp),av H H' →H l=none→H' l=some (.lst us)→gR K H' us ws→Q (.ref l) H'):jZ K C vs H Q E_
theorem Qo:aG ["self","pin"] ["self","pin"] (ag yX):=sq
theorem Qp {f:Addr}{fd:FuncData}{C:Addr}(F:nV K "ways" "Frame.ways" yX f fd)(fc:BR K C)(bN:mg "list"=none)(MC:bJ P w K mg base (a9 P w) 1 C "check_pin" ["self","pin"] (dS K C)):cM P w K mg base (a9 P w) 2 f fd ["self","pin"] (jZ K C):=by
 refine dq F Qo (fun vs H Q E h=> ?_) (fun bF A outer s H vs Q E hr h=> ?_)
 ·obtain ⟨a,dx,pP,pW,pB,ps,bs,kP,kW,kB,pw,x,ws,rfl,_⟩:=h
  rfl
 obtain ⟨a,dx,pP,pW,pB,ps,bs,kP,kW,kB,pw,x,ws,rfl,R,W,nd,hx,hp,q⟩:=h
 refine ⟨_,(ae (bO (c_ (k:=1) (pv 0) hr.mo (pY P w) (aq (pv 1) aa)))
  (ah (aF (ck mq rfl bN gk (aq (bX (bU hr) (c7 (pv 0) rfl) (pv 1) (fun _ _=>rfl)) aa))))),?_⟩
 refine ⟨_,rfl,a,C,dx,_,_,_,rfl,R.obj,rfl,MC,_,rfl,a,dx,pP,pW,pB,ps,bs,kP,kW,kB,x,rfl,R,hp,?_⟩
 obtain ⟨v,ev,l,us,el,hl,pt⟩:=gu W nd hx
 have el' :v=.ref l:=el
 subst el'
 refine ⟨_,rfl,a,C,dx,_,_,rfl,R.obj,fc.cls,fc.wy,rfl,_,rfl,pW,.ref l,rfl,(by rw [← ev];exact cQ.k (k:=.inr x) R.wy),?_⟩
 exact ⟨l,us,rfl,aU.of hl,fun l2 n2=>q l2 us _ (aK n2 _) n2 ak (pt.same (aK n2 _))⟩
def Mn (K:Frag)(H:Hp)(Q:VK)(ws:List (Rat×Rat)):Prop:=∀(l:Addr) (us:List V) (H' :Hp),av H H' →H l=none→H' l=some (.lst us)→gR K H' us ws→Q (.ref l) H'
theorem qN {x:Rat}(h:(qr x).1=0):x=0:=by
 have:=eA x
 unfold vl at this
 rw [h] at this
 have z:=tj (r:=x)
 have e:((0:Int):Rat)=0:=by rfl
 rw [e] at this
 grind
inductive qO (K:Frag)(C:Addr)(vs:List V)(H:Hp)(Q:VK)(E_:XK):Prop where
 | mk (a dx:Addr) (ux uy:V) (x y:Rat) (_:vs=[.ref a,ux,uy]) (_:H a=some (.ins C dx [])) (_:eQ K H ux x) (_:eQ K H uy y) (_:¬ (x=0∧y=0)) (_:∀p,H p=none→Q .cE (upd (upd H p (.tup [ux,uy])) a (.ins C dx [("way",.ref p)]))):qO K C vs H Q E_
theorem Qq:aG ["self","x","y"] ["self","x","y"] (ag yZ):=sq
theorem Qr {f:Addr}{fd:FuncData}{C:Addr}(F:nV K "__init__" "Roller.__init__" yZ f fd)(cl:rY K C)(nw:fg K C "way"):cM P w K mg base (a9 P w) 1 f fd ["self","x","y"] (qO K C):=by
 refine dq F Qq (fun vs H Q E h=> ?_) (fun bF A outer s H vs Q E hr h=> ?_)
 ·obtain ⟨a,dx,ux,uy,x,y,rfl,_⟩:=h
  rfl
 obtain ⟨a,dx,ux,uy,x,y,rfl,ha,⟨p1,rfl,h1⟩,⟨p2,rfl,h2⟩,nz,q⟩:=h
 have sz:(2:Nat)≤sizeLine:=by decide
 refine ⟨_,(ae (bg (PW.pt (pS (aQ cN (aS (pv 1)) af (aT _)) (kO (aQ cN (aS (pv 2)) af (aT _))))) (ah (df)) aL)
  (ah (pV (pv 0) (aZ (aq (pv 1) (aq (pv 2) aa))) rfl))),?_⟩
 refine ⟨_,rfl,p1,_,_,_,rfl,rfl,h1,iI,rfl,_,rfl,?_⟩
 refine bf (fun c1=> ?_) (fun c1=> ?_)
 ·have e1:(qr x).1=0:=by simpa using of_decide_eq_true c1
  refine ⟨_,rfl,p2,_,_,_,rfl,rfl,h2,iI,rfl,_,rfl,?_⟩
  refine bf (fun c2=> ?_) (fun c2=> ?_)
  ·have e2:(qr y).1=0:=by simpa using of_decide_eq_true c2
   exact absurd ⟨qN e1,qN e2⟩ nz
  ·exact ⟨_,rfl,_,rfl,sz,fun p hp=>⟨_,rfl,a,C,dx,[],rfl,(by rw [aj (au ha hp)];exact ha),cl,nw,(by show 0 < 1000;decide),q p hp⟩⟩
 ·refine LA ?_
  exact ⟨_,rfl,_,rfl,sz,fun p hp=>⟨_,rfl,a,C,dx,[],rfl,(by rw [aj (au ha hp)];exact ha),cl,nw,(by show 0 < 1000;decide),q p hp⟩⟩
inductive jq (K:Frag)(C:Addr)(vs:List V)(H:Hp)(Q:VK)(E_:XK):Prop where
 | mk (a dx p:Addr) (w:Rat×Rat) (_:vs=[.ref a]) (_:H a=some (.ins C dx [("way",.ref p)])) (_:d7 K H (.ref p) w) (_:Mn K H Q [w]):jq K C vs H Q E_
theorem Qs:aG ["self"] ["self"] (ag y4):=sq
theorem Qt {f:Addr}{fd:FuncData}{C:Addr}(F:nV K "ways" "Roller.ways" y4 f fd)(cl:rY K C)(nw:fg K C "way"):cM P w K mg base (a9 P w) 1 f fd ["self"] (jq K C):=by
 refine dq F Qs (fun vs H Q E h=> ?_) (fun bF A outer s H vs Q E hr h=> ?_)
 ·obtain ⟨a,dx,p,w,rfl,_⟩:=h
  rfl
 obtain ⟨a,dx,p,w,rfl,ha,hw,q⟩:=h
 refine ⟨_,(ah (aF (bR (aq (c7 (pv 0) rfl) aa)))),?_⟩
 refine ⟨_,rfl,a,C,dx,_,.ref p,rfl,ha,cl,nw,(by simp),(by show 1≤sizeLine;decide),fun l hl=> ?_⟩
 exact q l [.ref p] _ (aK hl _) hl ak (.cons (hw.same (aK hl _)) .nil)
inductive jr (K:Frag)(vs:List V)(H:Hp)(Q:VK)(E_:XK):Prop where
 | mk (a:Addr) (_:vs=[.ref a]) (_:Mn K H Q [(1,0),(0,1)]):jr K vs H Q E_
theorem qP:qr 1=(1,1):=by
 have:=mL 1
 simpa using this
theorem cK:qr 0=(0,1):=by
 have:=mL 0
 simpa using this
theorem tS {H:Hp}{p p1 p2:Addr}{a b:Rat}{x y:Int×Int}(ea:qr a=x)(eb:qr b=y)(h:H p=some (.tup [.ref p1,.ref p2]))(h1:H p1=some (.tup [.int x.1,.int x.2]))(h2:H p2=some (.tup [.int y.1,.int y.2])):d7 K H (.ref p) (a,b):=
 ⟨p,.ref p1,.ref p2,rfl,bL.of h,⟨p1,rfl,by rw [ea];exact bL.of h1⟩,⟨p2,rfl,by rw [eb];exact bL.of h2⟩⟩
theorem Qu:aG ["self"] ["self"] (ag y6):=sq
theorem Qv {f:Addr}{fd:FuncData}(F:nV K "ways" "Fixed.ways" y6 f fd):cM P w K mg base (a9 P w) 1 f fd ["self"] (jr K):=by
 refine dq F Qu (fun vs H Q E h=> ?_) (fun bF A outer s H vs Q E hr h=> ?_)
 ·obtain ⟨a,rfl,_⟩:=h
  rfl
 obtain ⟨a,rfl,q⟩:=h
 have sz:(2:Nat)≤sizeLine:=by decide
 refine ⟨_,(ah (aF (bR (aq (aZ (aq (aZ (aq af (aq af aa))) (aq (aZ (aq af (aq af aa))) aa))) (aq (aZ (aq (aZ (aq af (aq af aa))) (aq (aZ (aq af (aq af aa))) aa))) aa))))),?_⟩
 refine ⟨sz,fun p1 n1=> ?_⟩
 have s1:=aK n1 (.tup [.int 1,.int 1])
 have e1:upd H p1 (.tup [.int 1,.int 1]) p1=some (.tup [.int 1,.int 1]):=ak
 generalize upd H p1 (.tup [.int 1,.int 1])=H1 at s1 e1 ⊢
 refine ⟨sz,fun p2 n2=> ?_⟩
 have s2:=aK n2 (.tup [.int 0,.int 1])
 have e2:upd H1 p2 (.tup [.int 0,.int 1]) p2=some (.tup [.int 0,.int 1]):=ak
 generalize upd H1 p2 (.tup [.int 0,.int 1])=H2 at s2 e2 ⊢
 refine ⟨sz,fun p3 n3=> ?_⟩
 have s3:=aK n3 (.tup [.ref p1,.ref p2])
 have e3:upd H2 p3 (.tup [.ref p1,.ref p2]) p3=some (.tup [.ref p1,.ref p2]):=ak
 generalize upd H2 p3 (.tup [.ref p1,.ref p2])=H3 at s3 e3 ⊢
 refine ⟨sz,fun p4 n4=> ?_⟩
 have s4:=aK n4 (.tup [.int 0,.int 1])
 have e4:upd H3 p4 (.tup [.int 0,.int 1]) p4=some (.tup [.int 0,.int 1]):=ak
 generalize upd H3 p4 (.tup [.int 0,.int 1])=H4 at s4 e4 ⊢
 refine ⟨sz,fun p5 n5=> ?_⟩
 have s5:=aK n5 (.tup [.int 1,.int 1])
 have e5:upd H4 p5 (.tup [.int 1,.int 1]) p5=some (.tup [.int 1,.int 1]):=ak
 generalize upd H4 p5 (.tup [.int 1,.int 1])=H5 at s5 e5 ⊢
 refine ⟨sz,fun p6 n6=> ?_⟩
 have s6:=aK n6 (.tup [.ref p4,.ref p5])
 have e6:upd H5 p6 (.tup [.ref p4,.ref p5]) p6=some (.tup [.ref p4,.ref p5]):=ak
 generalize upd H5 p6 (.tup [.ref p4,.ref p5])=H6 at s6 e6 ⊢
 refine ⟨sz,fun l nl=> ?_⟩
 have s7:=aK nl (.lst [.ref p3,.ref p6])
 have e7:upd H6 l (.lst [.ref p3,.ref p6]) l=some (.lst [.ref p3,.ref p6]):=ak
 generalize upd H6 l (.lst [.ref p3,.ref p6])=H7 at s7 e7 ⊢
 have s16:=s1.trans (s2.trans (s3.trans (s4.trans (s5.trans s6))))
 have w1:d7 K H7 (.ref p3) (1,0):=tS qP cK (s7 _ _ (s6 _ _ (s5 _ _ (s4 _ _ e3)))) (s7 _ _ (s6 _ _ (s5 _ _ (s4 _ _ (s3 _ _ (s2 _ _ e1)))))) (s7 _ _ (s6 _ _ (s5 _ _ (s4 _ _ (s3 _ _ e2)))))
 have w2:d7 K H7 (.ref p6) (0,1):=tS cK qP (s7 _ _ e6) (s7 _ _ (s6 _ _ (s5 _ _ e4))) (s7 _ _ (s6 _ _ e5))
 exact q l [.ref p3,.ref p6] H7 (s16.trans s7) (s16.free nl) e7 (.cons w1 (.cons w2 .nil))
def Kz (P:Program)(w:World)(K:Frag)(mg:Str→Option Value)(base:Heap)(H:Hp)(hv:V)(ws:List (Rat×Rat)):Prop:=(hv=.cE∧ws=[])∨∃(h Ch Qw:Addr) (NO:List (Str×V)) (XN:List Str) (VP:Sp),hv=.ref h∧H h=some (.ins Ch Qw NO)∧NO.lookup ("ways":Str)=none∧bJ P w K mg base (a9 P w) 2 Ch "ways" XN VP∧(∀H1,H1 h=some (.ins Ch Qw NO)→bE H H1→∀Q',Mn K H1 Q' ws→VP [.ref h] H1 Q' E0)
inductive dW (P:Program)(w:World)(K:Frag)(mg:Str→Option Value)(base:Heap)(C:Addr)(vs:List V)(H:Hp)(Q:VK)(E_:XK):Prop where
 | mk (a dx pP pW pB:Addr) (ps:List (Str×Pt)) (bs:List (Str×Str×Str)) (kP kW kB:List (Key×V)) (pw:List (Str×List (Rat×Rat))) (x:Str) (u v hv:V) (p:Pt) (ws:List (Rat×Rat)) (_:vs=[.ref a,.str x,u,v,hv]) (_:fE K H C a dx pP pW pB ps bs kP kW kB) (_:uw K H pw kW) (_:pw.map (·.1)=ps.map (·.1)) (_:j_ K H u p.1) (_:j_ K H v p.2) (_:x∉ps.map (·.1)) (_:(∀z∈ps,z.2≠p)) (_:ps.length < 24) (_:Kz P w K mg base H hv ws) (_:∀(H' :Hp) (CY s_ :List (Key×V)),(∀b o,b≠pP→b≠pW→H b=some o→H' b=some o)→fE K H' C a dx pP pW pB (ps++[(x,p)]) bs CY s_ kB→uw K H' (pw++[(x,ws)]) s_ →Q .cE H'):dW P w K mg base C vs H Q E_
theorem CZ:aG ["self","name","x","y","hold","pin","spot"] ["self","name","x","y","hold"] (ag kK):=sq
theorem Qx {f:Addr}{fd:FuncData}{C:Addr}(F:LW K "put_pin" "Frame.put_pin" kK f fd)(fc:BR K C){tkP:Tok}(Mo:mg "MOST_PINS"=some (.int 24 tkP))(a_:mg "len"=none)(bN:mg "list"=none):cM P w K mg base (a9 P w) 3 f fd ["self","name","x","y","hold"] (dW P w K mg base C):=by
 refine BP F CZ (fun vs H Q E h=> ?_) (fun bF A outer s H vs Q E hr h=> ?_)
 ·obtain ⟨a,dx,pP,pW,pB,ps,bs,kP,kW,kB,pw,x,u,v,hv,p,ws,rfl,_⟩:=h
  rfl
 obtain ⟨a,dx,pP,pW,pB,ps,bs,kP,kW,kB,pw,x,u,v,hvv,p,ws,rfl,R,W,ew,hu,hv,hx,hs,hl,hH,q⟩:=h
 refine ⟨_,(ae (bg (pR (BD (bU hr) (pv 1) (c7 (pv 0) rfl))) (ah (df)) aL)
  (ae (qz (bw PassesOwn.never rfl (mH (c7 (pv 0) rfl)) (dB rfl (aV (aw (i:=5) CZ.nd rfl (ab_ rfl)) (aV (aw (i:=6) CZ.nd rfl (ab_ rfl)) cC))) (ah (bg (aQ (vX hr.units) (pv 6) (aZ (aq (pv 2) (aq (pv 3) aa))) (aT _)) (ah (df)) aL))))
  (ae (bg (aQ JV (aR oY rfl a_ bW (aq (c7 (pv 0) rfl) aa)) (gZ (v:=.int 24) rfl Mo ⟨_,rfl⟩) (aT _)) (ah (df)) aL)
  (ae (eO (bU hr) (c7 (pv 0) rfl) (pv 1) (aZ (aq (pv 2) (aq (pv 3) aa))) rfl)
  (ah (eO (bU hr) (c7 (pv 0) rfl) (pv 1) (rS (aQ AA (pv 4) lM (aT _)) (bR aa) (ck mq rfl bN gk (aq (dF (k:=2) (pv 4) hr.mo (pY P w)) aa))) rfl)))))),?_⟩
 refine ⟨_,rfl,_,rfl,a,C,dx,_,_,rfl,R.obj,fc.cls,fc.pl,rfl,pP,_,rfl,cQ.k (k:=.inr x) R.pl,_,rfl,?_⟩
 rw [R.pin x,decide_eq_false hx]
 have lk:kP.length=ps.length:=(Paired.length R.rp).symm
 refine ⟨_,rfl,a,C,dx,_,_,rfl,R.obj,fc.cls,fc.pl,rfl,pP,kP,rfl,R.pl,fun o=> ?_⟩
 have k0:bT pP H (upd H pP (.fU o (.dK kP))):=fun b o' n e=>by rw [aj n];exact e
 refine jO (d:=pP) (o:=o) (kvs:=kP) (fun t σ H' =>∃(o2 o3:Option V),σ=[some (.ref a),some (.str x),some u,some v,some hvv,o2,o3]∧bT pP H H' ∧H' pP=some (.fU o (.dK kP))) ⟨none,none,rfl,k0,ak⟩ (fun t σ H' _ h=>by
   obtain ⟨_,_,_,_,h⟩:=h
   exact h) ?_ ?_
 ·rintro t k y σ H6 p7 za ⟨o2,o3,rfl,k6,Mp⟩ n7
  obtain ⟨z,ez,hz1,HZ⟩:=aE (cu R.rp) za
  have XO :k=.inr z.1:=hz1
  subst XO
  have s6:bE H H6:=fun b xs r=>by
   rcases r with r | ⟨o',r⟩
   ·exact .inl (k6 _ _ (fun e=>by rw [e,R.pl] at r;cases r) r)
   ·exact .inr ⟨o',k6 _ _ (fun e=>by rw [e,R.pl] at r;cases r) r⟩
  have s7:=aK n7 (.tup [kV (.inr z.1),y])
  have s67:bE H (upd H6 p7 (.tup [kV (.inr z.1),y])):=s6.trans (.of s7)
  refine ⟨p7,_,rfl,bL.of ak,rfl,_,_,rfl,_,_,rfl,rfl,?_⟩
  refine ⟨_,rfl,_,rfl,_,rfl,(by show 2≤sizeLine;decide),fun t8 n8=> ?_⟩
  have s8:=aK n8 (.tup [u,v])
  have IK:bE H (upd (upd H6 p7 (.tup [kV (.inr z.1),y])) t8 (.tup [u,v])):=s67.trans (.of s8)
  refine ⟨c6 z.2,c6 p,.inl ⟨(Spot.a8 HZ IK).is,(Spot.is (p:=p) ⟨t8,u,v,rfl,bL.of ak,hu.a8 IK,hv.a8 IK⟩)⟩,kc _ _,jP _,?_⟩
  rw [sZ]
  refine ⟨_,rfl,?_⟩
  refine bf (fun c=>absurd (of_decide_eq_true c) (hs z (ir ez))) (fun _=> ?_)
  exact ⟨_,_,rfl,fun b o' n e=>s8 _ _ (s7 _ _ (k6 b o' n e)),s8 _ _ (s7 _ _ Mp)⟩
 ·rintro σ H1 ⟨o2,o3,rfl,k1,KA⟩
  refine ⟨pP,o,kP,KA,fun o' u' z=>(by have z' :H pP=some (.fU o' u'):=z;rw [R.pl] at z';cases z'),?_⟩
  have s2:av H (upd H1 pP (.dK kP)):=fun b o' e=>by
   by_cases n:b=pP
   ·subst n
    rw [R.pl] at e
    rw [ak]
    exact e
   ·rw [aj n]
    exact k1 b o' n e
  generalize upd H1 pP (.dK kP)=H2 at s2 ⊢
  have R2:=R.same s2
  refine ⟨_,rfl,a,C,dx,_,_,rfl,R2.obj,fc.cls,fc.pl,rfl,pP,kP,rfl,.inl R2.pl,_,_,rfl,rfl,_,rfl,?_⟩
  refine bf (fun c=> ?_) (fun _=> ?_)
  ·have c' :(24:Int)≤(kP.length:Int):=of_decide_eq_true c
   omega
  refine ⟨_,rfl,_,rfl,(by show 2≤sizeLine;decide),fun t nt=> ?_⟩
  have s3:=aK nt (.tup [u,v])
  have R3:=R2.same s3
  have VI:=(hu.same s2).same s3
  have hv3:=(hv.same s2).same s3
  refine ⟨_,rfl,a,C,dx,_,_,rfl,R3.obj,fc.cls,fc.pl,rfl,_,rfl,pP,_,rfl,je.k (k:=.inr x) R3.pl (aeJ (show kP.length≤1000 by omega) (by decide)),?_⟩
  have e:putK kP (.inr x) (.ref t)=kP++[(.inr x,.ref t)]:=dm _ (bY (by rw [R.wd];exact fun z=>hx (fK.mp z)))
  rw [e]
  have R4:=R3.LY (x:=x) (p:=p) (t:=t) ⟨t,u,v,rfl,bL.of ak,VI,hv3⟩
  have k4:∀b o,b≠pP→H b=some o→(upd (upd H2 t (.tup [u,v])) pP (.dK (kP++[(.inr x,.ref t)]))) b=some o:=fun b o n e=>by rw [aj n];exact s3 _ _ (s2 _ _ e)
  generalize upd (upd H2 t (.tup [u,v])) pP (.dK (kP++[(.inr x,.ref t)]))=H4 at R4 k4 ⊢
  have lw:kW.length=ps.length:=by
   have e1:kW.length=pw.length:=(Paired.length W).symm
   have e2:=congrArg afJ ew
   rw [aa_,aa_] at e2
   omega
  have t4:bE H H4:=fun b xs r=>by
   rcases r with r | ⟨o',r⟩
   ·exact .inl (k4 _ _ (fun e=>by rw [e,R.pl] at r;cases r) r)
   ·exact .inr ⟨o',k4 _ _ (fun e=>by rw [e,R.pl] at r;cases r) r⟩
  have W4:uw K H4 pw kW:=Paired.bZ W fun _ _ z=>⟨z.1,by
   obtain ⟨l,us,e1,e2,e3⟩:=z.2
   exact ⟨l,us,e1,k4 _ _ (fun e=>by rw [e,R.pl] at e2;cases e2) e2,e3.a8 t4⟩⟩
  refine ⟨_,rfl,rfl,_,rfl,?_⟩
  rcases hH with ⟨rfl,rfl⟩ | ⟨h,Ch,Qw,NO,XN,VP,rfl,hh,hlk,MH,uv⟩
  ·refine bf (fun _=> ?_) (fun c=>absurd (by decide) c)
   refine ⟨by show 0≤sizeLine;decide,fun l2 n6=> ?_⟩
   have s6:=aK n6 (.lst [])
   have R6:=R4.same s6
   have W6:=W4.same s6
   refine ⟨_,rfl,a,C,dx,_,_,rfl,R6.obj,fc.cls,fc.wy,rfl,_,rfl,pW,_,rfl,je.k (k:=.inr x) R6.wy (aeJ (show kW.length≤1000 by omega) (by decide)),?_⟩
   have ek:putK kW (.inr x) (.ref l2)=kW++[(.inr x,.ref l2)]:=dm _ (bY (by rw [W.keys,ew];exact fun z=>hx (fK.mp z)))
   rw [ek]
   have XQ:l2≠pW:=fun z=>by have h:=R6.wy;rw [← z,ak] at h;cases h
   exact q _ _ _ (fun b o n1 n2 e=>by rw [aj n2];exact s6 _ _ (k4 b o n1 e)) (R6.we _) (Paired.snoc (W6.dict R6.wy) ⟨rfl,l2,[],rfl,by rw [aj XQ,ak],.nil⟩)
  have h4:H4 h=some (.ins Ch Qw NO):=k4 _ _ (fun e=>by rw [e,R.pl] at hh;cases hh) hh
  refine bf (fun c=>absurd (of_decide_eq_true c) (fun z=>nomatch z)) (fun _=> ?_)
  refine ⟨_,rfl,h,Ch,Qw,NO,XN,VP,rfl,h4,hlk,MH,uv H4 h4 t4 _ fun l1 us H5 s5 n5 e5 p5=> ?_⟩
  refine ⟨l1,us,rfl,aU.of e5,fun l2 n6=> ?_⟩
  have s6:=aK n6 (.lst us)
  have R6:=(R4.same s5).same s6
  have W6:=(W4.same s5).same s6
  refine ⟨_,rfl,a,C,dx,_,_,rfl,R6.obj,fc.cls,fc.wy,rfl,_,rfl,pW,_,rfl,je.k (k:=.inr x) R6.wy (aeJ (show kW.length≤1000 by omega) (by decide)),?_⟩
  have ek:putK kW (.inr x) (.ref l2)=kW++[(.inr x,.ref l2)]:=dm _ (bY (by rw [W.keys,ew];exact fun z=>hx (fK.mp z)))
  rw [ek]
  have C_:av H4 (upd H5 l2 (.lst us)):=fun b o z=>s6 _ _ (s5 _ _ z)
  refine q _ _ _ (fun b o n1 n2 e=>by rw [aj n2];exact C_ _ _ (k4 b o n1 e)) (R6.we _) ?_
  have XQ:l2≠pW:=fun z=>by have h:=R6.wy;rw [← z,ak] at h;cases h
  exact Paired.snoc (W6.dict R6.wy) ⟨rfl,l2,us,rfl,by rw [aj XQ,ak],(p5.same s6).a8 (.dict R6.wy)⟩
inductive gv (K:Frag)(C:Addr)(vs:List V)(H:Hp)(Q:VK)(E_:XK):Prop where
 | mk (a dx pP pW pB:Addr) (ps:List (Str×Pt)) (bs:List (Str×Str×Str)) (kP kW kB:List (Key×V)) (x one other:Str) (_:vs=[.ref a,.str x,.str one,.str other]) (_:fE K H C a dx pP pW pB ps bs kP kW kB) (_:x∉bs.map (·.1)) (_:one∈ps.map (·.1)) (_:other∈ps.map (·.1)) (_:one≠other) (_:bs.length < 60) (_:Q .cE H):gv K C vs H Q E_
theorem Qy:aG ["self","name","one","other"] ["self","name","one","other"] (ag yS):=sq
theorem Qz {f:Addr}{fd:FuncData}{C:Addr}(F:nV K "check_bar" "Frame.check_bar" yS f fd)(fc:BR K C){tkB:Tok}(Mq:mg "MOST_BARS"=some (.int 60 tkB))(a_:mg "len"=none)
  (MC:bJ P w K mg base (a9 P w) 1 C "check_pin" ["self","pin"] (dS K C)):cM P w K mg base (a9 P w) 2 f fd ["self","name","one","other"] (gv K C):=by
 refine dq F Qy (fun vs H Q E h=> ?_) (fun bF A outer s H vs Q E hr h=> ?_)
 ·obtain ⟨a,dx,pP,pW,pB,ps,bs,kP,kW,kB,x,one,other,rfl,_⟩:=h
  rfl
 obtain ⟨a,dx,pP,pW,pB,ps,bs,kP,kW,kB,x,one,other,rfl,R,hx,h1,h2,ne,hl,q⟩:=h
 refine ⟨_,(ae (bg (pR (BD (bU hr) (pv 1) (c7 (pv 0) rfl))) (ah (df)) aL)
  (ae (bO (c_ (k:=1) (pv 0) hr.mo (pY P w) (aq (pv 2) aa)))
  (ae (bO (c_ (k:=1) (pv 0) hr.mo (pY P w) (aq (pv 3) aa)))
  (ae (bg (aQ cN (pv 2) (pv 3) (aT _)) (ah (df)) aL)
  (ah (bg (aQ JV (aR oY rfl a_ bW (aq (c7 (pv 0) rfl) aa)) (gZ (v:=.int 60) rfl Mq ⟨_,rfl⟩) (aT _)) (ah (df)) aL)))))),?_⟩
 refine ⟨_,rfl,_,rfl,a,C,dx,_,_,rfl,R.obj,fc.cls,fc.br,rfl,pB,_,rfl,cQ.k (k:=.inr x) R.br,_,rfl,?_⟩
 rw [R.bar x,decide_eq_false hx]
 refine ⟨_,rfl,a,C,dx,_,_,_,rfl,R.obj,rfl,MC,_,rfl,a,dx,pP,pW,pB,ps,bs,kP,kW,kB,one,rfl,R,h1,?_⟩
 refine ⟨_,rfl,a,C,dx,_,_,_,rfl,R.obj,rfl,MC,_,rfl,a,dx,pP,pW,pB,ps,bs,kP,kW,kB,other,rfl,R,h2,?_⟩
 refine ⟨_,rfl,_,rfl,rfl,_,rfl,?_⟩
 refine bf (fun c=>absurd (by simpa [i5] using c) ne) (fun _=> ?_)
 have lk:kB.length=bs.length:=(Paired.length R.rb).symm
 refine ⟨_,rfl,a,C,dx,_,_,rfl,R.obj,fc.cls,fc.br,rfl,pB,kB,rfl,.inl R.br,_,_,rfl,rfl,_,rfl,?_⟩
 refine bf (fun c=> ?_) (fun _=>q)
 have c' :(60:Int)≤(kB.length:Int):=of_decide_eq_true c
 omega
inductive js (K:Frag)(C:Addr)(vs:List V)(H:Hp)(Q:VK)(E_:XK):Prop where
 | mk (a dx pP pW pB:Addr) (ps:List (Str×Pt)) (bs:List (Str×Str×Str)) (kP kW kB:List (Key×V)) (x one other:Str) (_:vs=[.ref a,.str x,.str one,.str other]) (_:fE K H C a dx pP pW pB ps bs kP kW kB) (_:x∉bs.map (·.1)) (_:one∈ps.map (·.1)) (_:other∈ps.map (·.1)) (_:one≠other) (_:bs.length < 60) (_:∀(H' :Hp) (XR :List (Key×V)),bT pB H H' →fE K H' C a dx pP pW pB ps (bs++[(x,one,other)]) kP kW XR →Q .cE H'):js K C vs H Q E_
theorem QC:aG ["self","name","one","other"] ["self","name","one","other"] (ag yR):=sq
theorem QD {f:Addr}{fd:FuncData}{C:Addr}(F:nV K "put_bar" "Frame.put_bar" yR f fd)(fc:BR K C)
  (MC:bJ P w K mg base (a9 P w) 2 C "check_bar" ["self","name","one","other"] (gv K C)):cM P w K mg base (a9 P w) 3 f fd ["self","name","one","other"] (js K C):=by
 refine dq F QC (fun vs H Q E h=> ?_) (fun bF A outer s H vs Q E hr h=> ?_)
 ·obtain ⟨a,dx,pP,pW,pB,ps,bs,kP,kW,kB,x,one,other,rfl,_⟩:=h
  rfl
 obtain ⟨a,dx,pP,pW,pB,ps,bs,kP,kW,kB,x,one,other,rfl,R,hx,h1,h2,ne,hl,q⟩:=h
 refine ⟨_,(ae (bO (c_ (k:=2) (pv 0) hr.mo (pY P w) (aq (pv 1) (aq (pv 2) (aq (pv 3) aa)))))
  (ah (eO (bU hr) (c7 (pv 0) rfl) (pv 1) (aZ (aq (pv 2) (aq (pv 3) aa))) rfl))),?_⟩
 refine ⟨_,rfl,a,C,dx,_,_,_,rfl,R.obj,rfl,MC,_,rfl,_,rfl,_,rfl,a,dx,pP,pW,pB,ps,bs,kP,kW,kB,x,one,other,rfl,R,hx,h1,h2,ne,hl,?_⟩
 refine ⟨_,rfl,_,rfl,(by show 2≤sizeLine;decide),fun t nt=> ?_⟩
 have s:=aK nt (.tup [.str one,.str other])
 have R' :=R.same s
 have lk:kB.length=bs.length:=(Paired.length R.rb).symm
 refine ⟨_,rfl,a,C,dx,_,_,rfl,R'.obj,fc.cls,fc.br,rfl,_,rfl,pB,_,rfl,je.k (k:=.inr x) R'.br (aeJ (show kB.length≤1000 by omega) (by decide)),?_⟩
 have e:putK kB (.inr x) (.ref t)=kB++[(.inr x,.ref t)]:=dm _ (bY (by rw [R.kd];exact fun z=>hx (fK.mp z)))
 rw [e]
 refine q _ _ (fun b o n z=> ?_) (R'.LX (.inl ak))
 rw [aj n]
 exact s _ _ z
def gS (p q:aH):Rat×Rat:=(q.sp.1 - p.sp.1,q.sp.2 - p.sp.2)
inductive C' (K:Frag)(C:Addr)(vs:List V)(H:Hp)(Q:VK)(E_:XK):Prop where
 | mk (a:Addr) (pins:List aH) (ao:List bq) (p q:aH) (_:vs=[.ref a,.str p.nm,.str q.nm]) (_:wj K H C a pins ao) (_:fq pins ao) (_:p∈pins) (_:q∈pins) (_:CW K H Q (gS p q)):C' K C vs H Q E_
theorem KC {pins:List aH}(h:(pins.map (·.nm)).Nodup):((pins.map fun p=>(p.nm,kg p.sp)).map (·.1)).Nodup:=by
 rw [aeS]
 exact h
theorem DA {pins:List aH}(h:(pins.map (·.nm)).Nodup):((pins.map fun p=>(p.nm,p.ws)).map (·.1)).Nodup:=by
 rw [aeS]
 exact h
theorem KD {ao:List bq}(h:(ao.map (·.nm)).Nodup):((ao.map fun b=>(b.nm,b.one.nm,b.other.nm)).map (·.1)).Nodup:=by
 rw [aeS]
 exact h
theorem QE:aG ["F","one","other"] ["F","one","other"] (ag ya):=sq
theorem QF {C:Addr}(D:Def K mg "arm_between" ya ["F","one","other"])(MP:bJ P w K mg base (a9 P w) 2 C "place" ["self","pin"] (jo K C))(XS:Fn P w K mg base (a9 P w) 35 "pair_difference" ["one","other"] (vp K fun a b=>a - b)):Fn P w K mg base (a9 P w) 36 "arm_between" ["F","one","other"] (C' K C):=by
 refine D.ok QE (fun vs H Q E h=> ?_) (fun f bF A outer s H vs Q E hr h=> ?_)
 ·obtain ⟨a,pins,ao,p,q,rfl,_⟩:=h
  rfl
 obtain ⟨a,pins,ao,p,q,rfl,R,g,hp,hq,k⟩:=h
 obtain ⟨dx,pP,pW,pB,kP,kW,kB,R,W⟩:=R.ex
 refine ⟨_,(ah (aF (aA XS hr.mo (pY P w) (aq (c_ (k:=2) (pv 0) hr.mo (pY P w) (aq (pv 2) aa)) (aq (c_ (k:=2) (pv 0) hr.mo (pY P w) (aq (pv 1) aa)) aa))))),?_⟩
 refine ⟨_,rfl,a,C,dx,_,_,_,rfl,R.obj,rfl,MP,_,rfl,a,dx,pP,pW,pB,_,_,kP,kW,kB,q.nm,kg q.sp,rfl,R,KC g.np,abt.mpr ⟨q,hq,rfl⟩,fun v1 h1=> ?_⟩
 refine ⟨_,rfl,a,C,dx,_,_,_,rfl,R.obj,rfl,MP,_,rfl,a,dx,pP,pW,pB,_,_,kP,kW,kB,p.nm,kg p.sp,rfl,R,KC g.np,abt.mpr ⟨p,hp,rfl⟩,fun v2 h2=> ?_⟩
 have z1:=g.sz q hq
 have z2:=g.sz p hp
 exact ⟨v1,v2,q.sp,p.sp,rfl,h1,h2,z1.1.up (by decide),z1.2.1.up (by decide),z2.1.up (by decide),z2.2.1.up (by decide),k⟩
def mv (M:Str→Option (Rat×Rat))(x:Str):Rat×Rat:=(M x).getD (0,0)
def dc (F:Str→Option (Rat×Rat))(pins:List aH):List (Int×Int):=pins.flatMap fun p=>[qr (mv F p.nm).1,qr (mv F p.nm).2]
theorem gT (F:Str→Option (Rat×Rat)):∀pins:List aH,(dc F pins).length=2*pins.length
 | []=>rfl
 | p::ps=>by
  have:=gT F ps
  unfold dc at this ⊢
  rw [aeZ,aeO,this]
  simp
  omega
theorem zh (F:Str→Option (Rat×Rat))(ps:List aH)(p:aH):dc F (ps++[p])=dc F ps++[qr (mv F p.nm).1,qr (mv F p.nm).2]:=by
 unfold dc
 rw [afw]
 simp
def fF (x:Str)(w:Rat×Rat):Str→Option (Rat×Rat):=fun y=>if y=x then some w else none
def du (b:bq):Str→Option (Rat×Rat):=fun y=>if y=b.one.nm then some (gS b.one b.other) else if y=b.other.nm then some (gS b.other b.one) else none
def mT (pins:List aH)(p:aH):List (List (Int×Int)):=p.ws.map fun w=>dc (fF p.nm w) pins
def dO (pins:List aH)(ao:List bq):List (List (Int×Int)):=(pins.flatMap fun p=>mT pins p)++ao.map fun b=>dc (du b) pins
structure gG (K:Frag)(H:Hp)(r:Addr)(ls:List Addr)(cw:List (List V))(fD:List (List (Int×Int))):Prop where
 km:jm H r ls cw
 num:iM K H cw fD
 nr:r∉ls
theorem gG.same {H H' :Hp}{r:Addr}{ls:List Addr}{cw:List (List V)}{fD:List (List (Int×Int))}(h:gG K H r ls cw fD)(s:av H H'):gG K H' r ls cw fD:=⟨h.km.same s,h.num.same s,h.nr⟩
theorem mU {H:Hp}{cw:List (List V)}{fD:List (List (Int×Int))}{us:List V}{qs:List (Int×Int)}(h:iM K H cw fD)(n:cX K H us qs):iM K H (cw++[us]) (fD++[qs]):=by
 refine ⟨by simp [h.1],fun i u q' e1 e2=> ?_⟩
 have l:=h.1
 by_cases c:i < cw.length
 ·rw [aeL c] at e1
  rw [aeL (by omega)] at e2
  exact h.2 i u q' e1 e2
 ·rw [aeP (by omega)] at e1 e2
  by_cases z:i - cw.length=0
  ·rw [z] at e1
   rw [show i - fD.length=0 by omega] at e2
   cases e1
   cases e2
   exact n
  ·rw [aeE (by simp;omega)] at e1
   cases e1
theorem wK {H:Hp}{ls:List Addr}{cw:List (List V)}{l:Addr}{us:List V}(hl:ls.length=cw.length)(h:∀(i:Nat) (l:Addr) (vs:List V),ls[i]? =some l→cw[i]? =some vs→H l=some (.lst vs))(e:H l=some (.lst us)):
  ∀(i:Nat) (l' :Addr) (vs:List V),(ls++[l])[i]? =some l' →(cw++[us])[i]? =some vs→H l' =some (.lst vs):=fun i l' vs e1 e2=>by
 by_cases c:i < ls.length
 ·rw [aeL c] at e1
  rw [aeL (by omega)] at e2
  exact h i l' vs e1 e2
 ·rw [aeP (by omega)] at e1 e2
  by_cases z:i - ls.length=0
  ·rw [z] at e1
   rw [show i - cw.length=0 by omega] at e2
   cases e1
   cases e2
   exact e
  ·rw [aeE (by simp;omega)] at e1
   cases e1
theorem gG.push {H:Hp}{r l:Addr}{ls:List Addr}{cw:List (List V)}{fD:List (List (Int×Int))}{us:List V}{qs:List (Int×Int)}(h:gG K H r ls cw fD)(e:H l=some (.lst us))(ne:l≠r)(n:cX K H us qs):
  gG K (upd H r (.lst (ls.map V.ref++[.ref l]))) r (ls++[l]) (cw++[us]) (fD++[qs]):=by
 have st:bE H (upd H r (.lst (ls.map V.ref++[.ref l]))):=.list h.km.1
 have hm:∀(i:Nat) (l' :Addr) (vs:List V),ls[i]? =some l' →cw[i]? =some vs→(upd H r (.lst (ls.map V.ref++[.ref l]))) l' =some (.lst vs):=fun i l' vs e1 e2=>by
  rw [aj (fun z:l' =r=>h.nr (by rw [← z];exact ir e1))]
  exact h.km.2.2 i l' vs e1 e2
 refine ⟨⟨by rw [ak,aeR];rfl,by simp [h.km.2.1],wK h.km.2.1 hm (by rw [aj ne];exact e)⟩,?_,?_⟩
 ·exact mU ⟨h.num.1,fun i vs qs e1 e2=>(h.num.2 i vs qs e1 e2).a8 st⟩ (n.a8 st)
 ·intro z
  rcases aeM.mp z with z | z
  ·exact h.nr z
  ·exact ne (aeH.mp z).symm
inductive gf (K:Frag)(C:Addr)(vs:List V)(H:Hp)(Q:VK)(E_:XK):Prop where
 | mk (a d:Addr) (pins:List aH) (ao:List bq) (kvs:List (Key×V)) (F:Str→Option (Rat×Rat)) (_:vs=[.ref a,.ref d]) (_:wj K H C a pins ao) (_:pins.length≤100) (_:H d=some (.dK kvs)) (_:uz K H kvs F) (_:∀(l:Addr) (us:List V) (H' :Hp),av H H' →H l=none→H' l=some (.lst us)→cX K H' us (dc F pins)→Q (.ref l) H'):gf K C vs H Q E_
theorem fM (pins:List aH):((pins.map fun p=>(p.nm,kg p.sp)).map (·.1))=pins.map (·.nm):=by rw [aeS];rfl
theorem DB:aG ["F","draws","row","pin"] ["F","draws"] (ag yb):=sq
theorem QG {C aM:Addr}(hM:∀H:Hp,d7 K H (.ref aM) (0,0))(Mr:mg "NO_MOVE"=some (.ref aM))(D:Def K mg "pair_row" yb ["F","draws"])(MP:bJ P w K mg base (a9 P w) 1 C "pins" ["self"] (fO K C)):Fn P w K mg base (a9 P w) 2 "pair_row" ["F","draws"] (gf K C):=by
 refine D.ok DB (fun vs H Q E h=> ?_) (fun f bF A outer s H vs Q E hr h=> ?_)
 ·obtain ⟨a,d,pins,ao,kvs,F,rfl,_⟩:=h
  rfl
 obtain ⟨a,d,pins,ao,kvs,F,rfl,R,lp,hd,hP,q⟩:=h
 refine ⟨_,(ae (aC (i:=2) DB.nd rfl (ab_ rfl) (bR aa))
  (ae (bw PassesOwn.never rfl (bh (dF (k:=1) (pv 0) hr.mo (pY P w))) (aw (i:=3) DB.nd rfl (ab_ rfl)) (ah (bO (i7 PySem.F.plainAttrs_list PySem.F.slot_list_extend PySem.F.type_list_extend HY (pv 2) (aq (sT (bU hr) (pv 1) (pv 3) (gZ (v:=.ref aM) rfl Mr rfl) ⟨rfl,rfl,rfl,rfl⟩) aa)))))
  (ah (aF (pv 2))))),?_⟩
 refine ⟨(by show 0≤sizeLine;decide),?_⟩
 intro l nl;generalize eX:upd _ l _=H1;have ⟨s1,el⟩:=nw nl eX;clear eX
 have R1:=R.same s1
 obtain ⟨dx,pP,pW,pB,kP,kW,kB,F1,W1⟩:=R1.ex
 refine ⟨_,rfl,a,C,dx,_,_,_,rfl,F1.obj,rfl,MP,a,dx,pP,pW,pB,_,_,kP,kW,kB,rfl,F1,fun lp H2 s2 vq rO=> ?_⟩
 rw [fM] at rO
 have jE:=s1.trans s2
 have FE:lp≠l:=fun z=>by rw [z,el] at vq;cases vq
 refine ⟨lp,rfl,⟨_,aU.of rO⟩,bP (K:=K) (a:=lp) (xs:=(pins.map (·.nm)).map V.str) (fun i σ H' =>∃(o3:Option V) (us:List V),σ=[some (.ref a),some (.ref d),some (.ref l),o3]∧av H H' ∧H' lp=some (.lst ((pins.map (·.nm)).map V.str))∧H' l=some (.lst us)∧cX K H' us (dc F (pins.take i))) ⟨none,[],rfl,jE,rO,s2 _ _ el,⟨rfl,fun i u q e=>by simp at e⟩⟩ (fun i σ H' _ h=>by
   obtain ⟨_,_,_,_,h,_⟩:=h
   exact aU.of h) ?_ ?_⟩
 ·rintro i z σ H4 hi ⟨o3,us,rfl,s4,l4,e4,n4⟩
  rw [Wp,Wp] at hi
  obtain ⟨x,hx,rfl⟩:=aeN.mp hi
  obtain ⟨p,hp,rfl⟩:=aeN.mp hx
  have il:i < pins.length:=(be.mp hp).1
  have d4:=s4 _ _ hd
  have g1:d7 K H4 ((bS kvs (.inr p.nm)).getD (.ref aM)) (mv F p.nm):=(hP.same s4).Pd (hM H4)
  obtain ⟨b,u1,u2,eb,hb,h1,h2⟩:=g1
  have lu:us.length≤200:=by
   have:=n4.1
   rw [gT,ae2] at this
   omega
  refine ⟨_,rfl,.inl ⟨rfl,_,aU.of e4⟩,_,rfl,d,rfl,.inl ⟨_,.inl d4⟩,_,rfl,_,cQ.k (k:=.inr p.nm) d4,l,b,us,[u1,u2],rfl,by rw [eb],e4,hb,by simp;omega,?_⟩
  have st:bE H4 (upd H4 l (.lst (us++[u1,u2]))):=.list e4
  refine ⟨_,us++[u1,u2],rfl,fun c o z=> ?_,?_,ak,?_⟩
  ·rw [aj (au z nl)]
   exact s4 _ _ z
  ·rw [aj FE]
   exact l4
  ·rw [take_snoc hp,zh]
   have a1:=cX.snoc (K:=K) (n4.a8 st) (eQ.a8 h1 st)
   have a2:=cX.snoc (K:=K) a1 (eQ.a8 h2 st)
   simpa using a2
 ·rintro σ H4 ⟨o3,us,rfl,s4,l4,e4,n4⟩
  rw [aa_,aa_,afc] at n4
  exact ⟨_,rfl,q l us H4 s4 nl e4 n4⟩
inductive j0 (K:Frag)(C:Addr)(vs:List V)(H:Hp)(Q:VK)(E_:XK):Prop where
 | mk (a d:Addr) (pins:List aH) (ao:List bq) (kvs:List (Key×V)) (F:Str→Option (Rat×Rat)) (_:vs=[.ref a,.ref d]) (_:wj K H C a pins ao) (_:pins.length≤100) (_:H d=some (.dK kvs)) (_:uz K H kvs F) (_:(∀kv∈kvs,∃x∈pins.map (·.nm),kv.1=.inr x)) (_:∀(l:Addr) (us:List V) (H' :Hp),av H H' →H l=none→H' l=some (.lst us)→cX K H' us (dc F pins)→Q (.ref l) H'):j0 K C vs H Q E_
theorem DC:aG ["F","load","pins","pin"] ["F","load"] (ag yc):=sq
theorem QH {C:Addr}(D:Def K mg "load_row" yc ["F","load"])(MP:bJ P w K mg base (a9 P w) 1 C "pins" ["self"] (fO K C))(DE:Fn P w K mg base (a9 P w) 2 "pair_row" ["F","draws"] (gf K C)):Fn P w K mg base (a9 P w) 3 "load_row" ["F","load"] (j0 K C):=by
 refine D.ok DC (fun vs H Q E h=> ?_) (fun f bF A outer s H vs Q E hr h=> ?_)
 ·obtain ⟨a,d,pins,ao,kvs,F,rfl,_⟩:=h
  rfl
 obtain ⟨a,d,pins,ao,kvs,F,rfl,R,lp,hd,hP,hk,q⟩:=h
 refine ⟨_,(ae (aC (i:=2) DC.nd rfl (ab_ rfl) (dF (k:=1) (pv 0) hr.mo (pY P w)))
  (ae (qz (bw PassesOwn.never rfl (HS (pv 1)) (aw (i:=3) DC.nd rfl (ab_ rfl)) (ah (bg (aQ i6 (pv 3) (pv 2) rfl) (ah (df)) aL))))
  (ah (aF (aA DE hr.mo (pY P w) (aq (pv 0) (aq (pv 1) aa))))))),?_⟩
 obtain ⟨dx,pP,pW,pB,kP,kW,kB,F1,W1⟩:=R.ex
 refine ⟨_,rfl,a,C,dx,_,_,_,rfl,F1.obj,rfl,MP,a,dx,pP,pW,pB,_,_,kP,kW,kB,rfl,F1,fun l H1 s1 nl el=> ?_⟩
 rw [fM] at el
 have KA:=s1 _ _ hd
 refine ⟨_,rfl,d,kvs,rfl,KA,fun o=> ?_⟩
 have ld:l≠d:=fun z=>by rw [z,KA] at el;cases el
 refine BN (d:=d) (o:=o) (kvs:=kvs) (fun t σ H' =>∃(o2:Option V),σ=[some (.ref a),some (.ref d),some (.ref l),o2]∧H' =upd H1 d (.fU o (.dK kvs))) ⟨none,rfl,rfl⟩ (fun t σ H' _ h=>by
   obtain ⟨_,_,rfl⟩:=h
   exact ak) ?_ ?_
 ·rintro t k y σ H6 za ⟨o2,rfl,rfl⟩
  obtain ⟨x,hx,ex⟩:=hk _ (ir za)
  have K' :k=.inr x:=ex
  subst K'
  refine ⟨_,rfl,_,rfl,l,_,rfl,.inl (aU.of (by rw [aj ld];exact el)),rfl,xV _,_,rfl,?_⟩
  refine bf (fun c=> ?_) (fun _=>⟨_,rfl,rfl⟩)
  have c' :(!Lw (.str x) ((pins.map (·.nm)).map V.str))=true:=c
  rw [tf,decide_eq_true hx] at c'
  cases c'
 ·rintro σ H6 ⟨o2,rfl,rfl⟩
  refine ⟨d,o,kvs,ak,fun o' u' z=>(by have z' :H d=some (.fU o' u'):=z;rw [hd] at z';cases z'),?_⟩
  have s2:av H (upd (upd H1 d (.fU o (.dK kvs))) d (.dK kvs)):=fun b o' e=>by
   by_cases n:b=d
   ·subst n
    rw [hd] at e
    rw [ak]
    exact e
   ·rw [aj n,aj n]
    exact s1 _ _ e
  generalize upd (upd H1 d (.fU o (.dK kvs))) d (.dK kvs)=H2 at s2 ⊢
  refine ⟨_,rfl,_,rfl,a,d,pins,ao,kvs,F,rfl,R.same s2,lp,s2 _ _ hd,hP.same s2,fun l' us H3 s3 n3 e3 nm=> ?_⟩
  exact q l' us H3 (s2.trans s3) (s2.free n3) e3 nm
inductive mV (K:Frag)(C:Addr)(vs:List V)(H:Hp)(Q:VK)(E_:XK):Prop where
 | mk (a:Addr) (pins:List aH) (ao:List bq) (b:bq) (_:vs=[.ref a,.str b.one.nm,.str b.other.nm]) (_:wj K H C a pins ao) (_:fq pins ao) (_:b.one∈pins) (_:b.other∈pins) (_:b.one.nm≠b.other.nm) (_:∀(l:Addr) (us:List V) (H' :Hp),av H H' →H l=none→H' l=some (.lst us)→cX K H' us (dc (du b) pins)→Q (.ref l) H'):mV K C vs H Q E_
theorem Ms (k:Key)(v:V):bD [] [(k,v)]=[(k,v)]:=rfl
theorem Mt {k j:Key}(v u:V)(h:k≠j):bD [] [(k,v),(j,u)]=[(k,v),(j,u)]:=by
 show putK [(k,v)] j u=_
 rw [dm]
 ·rfl
 ·rw [bB h]
  rfl
theorem QI:aG ["F","one","other"] ["F","one","other"] (ag yd):=sq
theorem QJ {C:Addr}(D:Def K mg "bar_row" yd ["F","one","other"])(QK:Fn P w K mg base (a9 P w) 36 "arm_between" ["F","one","other"] (C' K C))(DE:Fn P w K mg base (a9 P w) 2 "pair_row" ["F","draws"] (gf K C)):Fn P w K mg base (a9 P w) 37 "bar_row" ["F","one","other"] (mV K C):=by
 refine D.ok QI (fun vs H Q E h=> ?_) (fun f bF A outer s H vs Q E hr h=> ?_)
 ·obtain ⟨a,pins,ao,b,rfl,_⟩:=h
  rfl
 obtain ⟨a,pins,ao,b,rfl,R,g,m1,m2,ne,q⟩:=h
 refine ⟨_,(ah (aF (aA DE hr.mo pX (aq (pv 0) (aq (v7 (mD (pv 1) (aA QK hr.mo pX (aq (pv 0) (aq (pv 1) (aq (pv 2) aa)))) (mD (pv 2) (aA QK hr.mo pX (aq (pv 0) (aq (pv 2) (aq (pv 1) aa)))) v3)) rfl rfl (apo _ _) (by decide)) aa))))),?_⟩
 refine ⟨_,rfl,fun d nd=> ?_⟩
 have s1:=aK nd (.dK [])
 have e1:(upd H d (.dK [])) d=some (.dK []):=ak
 generalize upd H d (.dK [])=H1 at s1 e1 ⊢
 refine ⟨_,rfl,_,rfl,_,rfl,_,rfl,a,pins,ao,b.one,b.other,rfl,R.same s1,g,m1,m2,fun v1 H2 s2 h2=> ?_⟩
 refine ⟨_,rfl,_,rfl,_,rfl,_,rfl,a,pins,ao,b.other,b.one,rfl,(R.same s1).same s2,g,m2,m1,fun v2 H3 s3 h3=> ?_⟩
 have e3:=s3 _ _ (s2 _ _ e1)
 refine ⟨e3,[(.inr b.one.nm,v1),(.inr b.other.nm,v2)],rfl,(by show 2≤15;decide),?_⟩
 rw [Mt _ _ (fun z=>ne (afq z))]
 have st:bE H3 (upd H3 d (.dK [(.inr b.one.nm,v1),(.inr b.other.nm,v2)])):=.dict e3
 have e4:(upd H3 d (.dK [(.inr b.one.nm,v1),(.inr b.other.nm,v2)])) d=some (.dK [(.inr b.one.nm,v1),(.inr b.other.nm,v2)]):=ak
 have s4:av H (upd H3 d (.dK [(.inr b.one.nm,v1),(.inr b.other.nm,v2)])):=fun c o z=>by
  rw [aj (au z nd)]
  exact s3 _ _ (s2 _ _ (s1 _ _ z))
 generalize upd H3 d (.dK [(.inr b.one.nm,v1),(.inr b.other.nm,v2)])=H4 at st e4 s4 ⊢
 refine ⟨a,d,pins,ao,_,du b,rfl,R.same s4,ad_ g.lp (by decide),e4,fun x=> ?_,fun l us H5 s5 n5 e5 nm=>q l us H5 (s4.trans s5) (s4.free n5) e5 nm⟩
 by_cases c1:x=b.one.nm
 ·subst c1
  exact .inr ⟨v1,gS b.one b.other,bK rfl,by unfold du;rw [if_pos rfl],(h2.same s3).a8 st⟩
 ·by_cases c2:x=b.other.nm
  ·subst c2
   exact .inr ⟨v2,gS b.other b.one,by rw [bB (fun z=>c1 (afq z).symm),bK rfl],by unfold du;rw [if_neg c1,if_pos rfl],h3.a8 st⟩
  ·exact .inl ⟨by rw [bB (fun z=>c1 (afq z).symm),bB (fun z=>c2 (afq z).symm)];rfl,by unfold du;rw [if_neg c1,if_neg c2]⟩
inductive iN (K:Frag)(C:Addr)(vs:List V)(H:Hp)(Q:VK)(E_:XK):Prop where
 | mk (a:Addr) (pins:List aH) (ao:List bq) (_:vs=[.ref a]) (_:wj K H C a pins ao) (_:fq pins ao) (_:∀(r:Addr) (ls:List Addr) (cw:List (List V)) (H' :Hp),av H H' →H r=none→gG K H' r ls cw (dO pins ao)→Q (.ref r) H'):iN K C vs H Q E_
theorem wL (ao:List bq):((ao.map fun b=>(b.nm,b.one.nm,b.other.nm)).map (·.1))=ao.map (·.nm):=by rw [aeS];rfl
theorem mW (pins:List aH)(h:∀p∈pins,p.ws.length≤2):(pins.flatMap fun p=>p.ws).length≤2*pins.length:=by
 induction pins with
 | nil=>simp
 | cons p ps ih=>
  have h1:=h p aeI
  have h2:=ih fun q hq=>h q (aeF _ hq)
  rw [aeZ,aeO,ae6]
  omega
theorem mX (all pins:List aH):(pins.flatMap fun p=>mT all p).length=(pins.flatMap fun p=>p.ws).length:=by
 induction pins with
 | nil=>rfl
 | cons p ps ih=>
  rw [aeZ,aeZ,aeO,aeO,ih]
  unfold mT
  rw [aa_]
theorem zi (pins:List aH)(ao:List bq):(dO pins ao).length=(pins.flatMap fun p=>p.ws).length+ao.length:=by
 unfold dO
 rw [aeO,mX,aa_]
theorem pF:aG ["F","rows","pin","way","bar","two"] ["F"] (ag ye):=sq
theorem QL {C:Addr}(D:Def K mg "draw_rows" ye ["F"])(MP:bJ P w K mg base (a9 P w) 1 C "pins" ["self"] (fO K C))(MW:bJ P w K mg base (a9 P w) 2 C "ways" ["self","pin"] (jZ K C))(MB:bJ P w K mg base (a9 P w) 1 C "bars" ["self"] (jY K C))(ME:bJ P w K mg base (a9 P w) 1 C "ends" ["self","bar"] (mS K C))
  (DE:Fn P w K mg base (a9 P w) 2 "pair_row" ["F","draws"] (gf K C)) (XT:Fn P w K mg base (a9 P w) 37 "bar_row" ["F","one","other"] (mV K C)):Fn P w K mg base (a9 P w) 38 "draw_rows" ["F"] (iN K C):=by
 refine D.ok pF (fun vs H Q E h=> ?_) (fun f bF A outer s H vs Q E hr h=> ?_)
 ·obtain ⟨a,pins,ao,rfl,_⟩:=h
  rfl
 obtain ⟨a,pins,ao,rfl,R,g,q⟩:=h
 refine ⟨_,(ae (aC (i:=1) pF.nd rfl (ab_ rfl) (bR aa))
  (ae (bw PassesOwn.never rfl (bh (dF (k:=1) (pv 0) hr.mo (pY P w))) (aw (i:=2) pF.nd rfl (ab_ rfl)) (ah (bw PassesOwn.never rfl (bh (c_ (k:=2) (pv 0) hr.mo (pY P w) (aq (pv 2) aa))) (aw (i:=3) pF.nd rfl (ab_ rfl)) (ah (bO (i7 PySem.F.plainAttrs_list PySem.F.slot_list_append PySem.F.type_list_append cW (pv 1) (aq (aA DE hr.mo (pY P w) (aq (pv 0) (aq (v7 (mD (pv 2) (pv 3) v3) rfl rfl (apo _ _) (by decide)) aa))) aa)))))))
  (ae (bw PassesOwn.never rfl (bh (dF (k:=1) (pv 0) hr.mo (pY P w))) (aw (i:=4) pF.nd rfl (ab_ rfl)) (ae (aC (i:=5) pF.nd rfl (ab_ rfl) (c_ (k:=1) (pv 0) hr.mo (pY P w) (aq (pv 4) aa)))
   (ah (bO (i7 PySem.F.plainAttrs_list PySem.F.slot_list_append PySem.F.type_list_append cW (pv 1) (aq (aA XT hr.mo (pY P w) (aq (pv 0) (aq (aS (pv 5)) (aq (aS (pv 5)) aa)))) aa))))))
  (ah (aF (pv 1)))))),?_⟩
 refine ⟨(by show 0≤sizeLine;decide),?_⟩
 intro r nr;generalize eX:upd _ r _=H1;have ⟨s1,er⟩:=nw nr eX;clear eX
 have big:(40:Nat)≤sizeLine:=by decide
 have wl:=mW pins g.lw
 have gl:=g.lp
 have R0:gG K H1 r [] [] []:=⟨⟨er,rfl,fun i l vs e=>by simp at e⟩,⟨rfl,fun i vs qs e=>by simp at e⟩,by simp⟩
 have R1:=R.same s1
 obtain ⟨dx,pP,pW,pB,kP,kW,kB,F1,W1⟩:=R1.ex
 refine ⟨_,rfl,a,C,dx,_,_,_,rfl,F1.obj,rfl,MP,a,dx,pP,pW,pB,_,_,kP,kW,kB,rfl,F1,fun lp H2 s2 vq rO=> ?_⟩
 rw [fM] at rO
 have jE:=s1.trans s2
 have FE:lp≠r:=fun z=>by rw [z,er] at vq;cases vq
 refine ⟨lp,rfl,⟨_,aU.of rO⟩,bP (K:=K) (a:=lp) (xs:=(pins.map (·.nm)).map V.str) (fun i σ H' =>∃(o2 o3:Option V) (ls:List Addr) (cw:List (List V)),σ=[some (.ref a),some (.ref r),o2,o3,none,none]∧av H H' ∧H' lp=some (.lst ((pins.map (·.nm)).map V.str))∧gG K H' r ls cw ((pins.take i).flatMap fun p=>mT pins p)) ⟨none,none,[],[],rfl,jE,rO,R0.same s2⟩ (fun i σ H' _ h=>by
   obtain ⟨_,_,_,_,_,_,h,_⟩:=h
   exact aU.of h) ?_ ?_⟩
 ·rintro i z σ H4 hi ⟨o2,o3,ls,cw,rfl,s4,l4,RR⟩
  rw [Wp,Wp] at hi
  obtain ⟨x,hx,rfl⟩:=aeN.mp hi
  obtain ⟨p,hp,rfl⟩:=aeN.mp hx
  have mp:p∈pins:=ir hp
  have R4:=R.same s4
  obtain ⟨dx,pP,pW,pB,kP,kW,kB,F4,W4⟩:=R4.ex
  have XU:p.nm∈(pins.map fun p=>(p.nm,kg p.sp)).map (·.1):=by rw [fM];exact abt.mpr ⟨p,mp,rfl⟩
  refine ⟨_,rfl,a,C,dx,_,_,_,rfl,F4.obj,rfl,MW,_,rfl,a,dx,pP,pW,pB,_,_,kP,kW,kB,_,p.nm,p.ws,rfl,F4,W4,DA g.np,abt.mpr ⟨p,mp,rfl⟩,XU,fun m us H5 s5 n5 e5 p5=> ?_⟩
  have lu:us.length=p.ws.length:=Paired.length p5
  have pG:=s4.trans s5
  have mr:m≠r:=fun z=>by rw [z,RR.km.1] at n5;cases n5
  refine ⟨m,rfl,⟨_,aU.of e5⟩,bP (K:=K) (a:=m) (xs:=us) (fun j σ H' =>∃(o3:Option V) (ls:List Addr) (cw:List (List V)),σ=[some (.ref a),some (.ref r),some (.str p.nm),o3,none,none]∧av H H' ∧H' lp=some (.lst ((pins.map (·.nm)).map V.str))∧H' m=some (.lst us)∧gR K H' us p.ws∧gG K H' r ls cw (((pins.take i).flatMap fun p=>mT pins p)++(p.ws.take j).map fun w=>dc (fF p.nm w) pins)) ⟨o3,ls,cw,rfl,pG,s5 _ _ l4,e5,p5,by simpa using RR.same s5⟩ (fun j σ H' _ h=>by
    obtain ⟨_,_,_,_,_,_,h,_⟩:=h
    exact aU.of h) ?_ ?_⟩
  ·rintro j u σ H6 hu ⟨o3,ls,cw,rfl,s6,l6,e6,p6,tV⟩
   obtain ⟨w,ew,hw⟩:=aE p6 hu
   have jl:=(be.mp hu).1
   refine ⟨_,rfl,.inl ⟨rfl,_,aU.of tV.km.1⟩,_,rfl,fun d nd=> ?_⟩
   have t1:=aK nd (.dK [])
   have d1:(upd H6 d (.dK [])) d=some (.dK []):=ak
   generalize upd H6 d (.dK [])=H7 at t1 d1 ⊢
   refine ⟨_,rfl,_,rfl,d1,[(.inr p.nm,u)],rfl,(by show 1≤15;decide),?_⟩
   rw [Ms]
   have st:bE H7 (upd H7 d (.dK [(.inr p.nm,u)])):=.dict d1
   have d8:(upd H7 d (.dK [(.inr p.nm,u)])) d=some (.dK [(.inr p.nm,u)]):=ak
   have t8:av H6 (upd H7 d (.dK [(.inr p.nm,u)])):=fun c o z=>by
    rw [aj (au z nd)]
    exact t1 _ _ z
   have hw8:=(hw.same t1).a8 st
   generalize upd H7 d (.dK [(.inr p.nm,u)])=H8 at d8 t8 hw8 ⊢
   have s8:=s6.trans t8
   refine ⟨a,d,pins,ao,_,fF p.nm w,rfl,R.same s8,ad_ g.lp (by decide),d8,fun x=> ?_,fun l ki H9 t9 n9 e9 nm=> ?_⟩
   ·by_cases c1:x=p.nm
    ·subst c1
     exact .inr ⟨u,w,bK rfl,by unfold fF;rw [if_pos rfl],hw8⟩
    ·exact .inl ⟨by rw [bB (fun z=>c1 (afq z).symm)];rfl,by unfold fF;rw [if_neg c1]⟩
   have XW:=t8.trans t9
   have IT:=tV.same XW
   have lr:l≠r:=fun z=>by rw [z,t8 _ _ tV.km.1] at n9;cases n9
   have VO:ls.length≤18:=by
    have h1:=tV.km.2.1
    have h2:=tV.num.1
    rw [aeO,aa_,ae2,mX] at h2
    have h3:((pins.take i).flatMap fun p=>p.ws).length+p.ws.length≤(pins.flatMap fun p=>p.ws).length:=by
     have e:pins=pins.take i++p::pins.drop (i+1):=by
      have lt:=(be.mp hp).1
      have e2:=(be.mp hp).2
      rw [← e2,aoJ,agl]
     have e3:=congrArg (fun l:List aH=>(l.flatMap fun p=>p.ws).length) e
     simp only [afw,aeZ,aeO] at e3
     omega
    omega
   refine ⟨r,_,_,rfl,rfl,IT.km.1,(by rw [aa_];omega),?_⟩
   have RN:=IT.push e9 lr nm
   have tr:bE H9 (upd H9 r (.lst (ls.map V.ref++[.ref l]))):=.list IT.km.1
   have kk:∀b o,b≠r→H6 b=some o→(upd H9 r (.lst (ls.map V.ref++[.ref l]))) b=some o:=fun b o n e=>by rw [aj n];exact XW _ _ e
   refine ⟨_,ls++[l],cw++[ki],rfl,fun b o e=> ?_,kk _ _ FE l6,kk _ _ mr e6,(p6.same XW).a8 tr,?_⟩
   ·exact kk _ _ (au e nr) (s6 _ _ e)
   ·rw [take_snoc ew,aeR, ← af4]
    exact RN
  ·rintro σ H6 ⟨o3,ls,cw,rfl,s6,l6,e6,p6,tV⟩
   refine ⟨_,_,ls,cw,rfl,s6,l6,?_⟩
   rw [lu,afc] at tV
   rw [take_snoc hp,afw]
   simpa [mT] using tV
 ·rintro σ H4 ⟨o2,o3,ls,cw,rfl,s4,l4,RR⟩
  rw [aa_,aa_,afc] at RR
  have R4:=R.same s4
  obtain ⟨dx,pP,pW,pB,kP,kW,kB,F4,W4⟩:=R4.ex
  refine ⟨_,rfl,a,C,dx,_,_,_,rfl,F4.obj,rfl,MB,a,dx,pP,pW,pB,_,_,kP,kW,kB,rfl,F4,fun lb H5 s5 XX Mu=> ?_⟩
  rw [wL] at Mu
  have bne:lb≠r:=fun z=>by rw [z,RR.km.1] at XX;cases XX
  refine ⟨lb,rfl,⟨_,aU.of Mu⟩,bP (K:=K) (a:=lb) (xs:=(ao.map (·.nm)).map V.str) (fun i σ H' =>∃(o4 o5:Option V) (ls:List Addr) (cw:List (List V)),σ=[some (.ref a),some (.ref r),o2,o3,o4,o5]∧av H H' ∧H' lb=some (.lst ((ao.map (·.nm)).map V.str))∧gG K H' r ls cw ((pins.flatMap fun p=>mT pins p)++(ao.take i).map fun b=>dc (du b) pins)) ⟨none,none,ls,cw,rfl,s4.trans s5,Mu,by simpa using RR.same s5⟩ (fun i σ H' _ h=>by
    obtain ⟨_,_,_,_,_,_,h,_⟩:=h
    exact aU.of h) ?_ ?_⟩
  ·rintro i z σ H6 hi ⟨o4,o5,ls,cw,rfl,s6,l6,tV⟩
   rw [Wp,Wp] at hi
   obtain ⟨x,hx,rfl⟩:=aeN.mp hi
   obtain ⟨b,hb,rfl⟩:=aeN.mp hx
   have mb:b∈ao:=ir hb
   have il:=(be.mp hb).1
   have R6:=R.same s6
   obtain ⟨dx,pP,pW,pB,kP,kW,kB,F6,W6⟩:=R6.ex
   refine ⟨_,rfl,a,C,dx,_,_,_,rfl,F6.obj,rfl,ME,_,rfl,a,dx,pP,pW,pB,_,_,kP,kW,kB,b.nm,b.one.nm,b.other.nm,rfl,F6,KD g.nb,abt.mpr ⟨b,mb,rfl⟩,fun p rd=> ?_⟩
   have tp:bL K H6 p [.str b.one.nm,.str b.other.nm]:=.inl rd
   obtain ⟨m1,m2,m3⟩:=g.ends b mb
   refine ⟨_,rfl,.inl ⟨rfl,_,aU.of tV.km.1⟩,_,rfl,_,rfl,p,_,_,_,rfl,rfl,tp,iI,_,rfl,p,_,_,_,rfl,rfl,tp,iJ,?_⟩
   refine ⟨a,pins,ao,b,rfl,R6,g,m1,m2,m3,fun l ki H9 t9 n9 e9 nm=> ?_⟩
   have IT:=tV.same t9
   have lr:l≠r:=fun z=>by rw [z,tV.km.1] at n9;cases n9
   have VO:ls.length≤32:=by
    have h1:=tV.km.2.1
    have h2:=tV.num.1
    rw [aeO,aa_,ae2,mX] at h2
    have:=g.lb
    omega
   refine ⟨r,_,_,rfl,rfl,IT.km.1,(by rw [aa_];omega),?_⟩
   have RN:=IT.push e9 lr nm
   have kk:∀c o,c≠r→H6 c=some o→(upd H9 r (.lst (ls.map V.ref++[.ref l]))) c=some o:=fun c o n e=>by rw [aj n];exact t9 _ _ e
   refine ⟨_,_,ls++[l],cw++[ki],rfl,fun c o e=>kk _ _ (au e nr) (s6 _ _ e),kk _ _ bne l6,?_⟩
   rw [take_snoc hb,aeR, ← af4]
   exact RN
  ·rintro σ H6 ⟨o4,o5,ls,cw,rfl,s6,l6,tV⟩
   rw [aa_,aa_,afc] at tV
   exact ⟨_,rfl,q r ls cw H6 s6 nr tV⟩
theorem DF {xs:List V}{i j:Nat}(h:i≤j)(hj:j≤xs.length):fW xs (some (i:Int)) (some (j:Int))=(xs.drop i).take (j - i):=by
 unfold fW
 rw [HT.kR,HT.kR,agv hj,agv (show i≤xs.length by omega)]
theorem gw {α β:Type}{R:α→β→Prop}:∀{l:List α} {m:List β} (n:Nat),Paired R l m→Paired R (l.drop n) (m.drop n)
 | _,_,0,h=>h
 | _,_,_+1,.nil=>.nil
 | _,_,n+1,.cons _ t=>gw n t
theorem gx {α β:Type}{R:α→β→Prop}:∀{l:List α} {m:List β} (n:Nat),Paired R l m→Paired R (l.take n) (m.take n)
 | _,_,0,_=>.nil
 | _,_,_+1,.nil=>.nil
 | _,_,n+1,.cons h t=>.cons h (gx n t)
theorem gy:∀(more kvs:List (Key×V)),((kvs++more).map (·.1)).Nodup→bD kvs more=kvs++more
 | [],kvs,_=>by simp [bD]
 | p::r,kvs,h=>by
  have e:bD kvs (p::r)=bD (putK kvs p.1 p.2) r:=rfl
  have hn:p.1∉kvs.map (·.1):=fun z=>by
   rw [aeR,ac_,afP] at h
   exact h.2.2 p.1 z p.1 aeI rfl
  rw [e,dm _ (bY hn),gy r (kvs++[(p.1,p.2)]) (by rw [af4];exact h),af4]
  rfl
theorem wM {R:V→Rat→Prop}:∀{ao:List bq} {ys:List V} {rs:List Rat},(ao.map (·.nm)).Nodup→ao.length=rs.length→Paired R ys rs→
  ∃T:Str→Rat,ao.map (fun b=>T b.nm)=rs∧(((ao.map fun b=>(afb b.nm:Key)).zip ys).map (·.1))=ao.map (fun b=>(afb b.nm:Key))∧∀b∈ao,∃v,bS ((ao.map fun b=>(afb b.nm:Key)).zip ys) (.inr b.nm)=some v∧R v (T b.nm)
 | [],_,[],_,_,.nil=>⟨fun _=>0,rfl,rfl,by simp⟩
 | _::_,[],_,_,hl,.nil=>by simp at hl
 | b::bs,y::ys,r::rs,nd,hl,.cons h t=>by
  rw [ac_,ae9] at nd
  obtain ⟨T,h1,h2,h3⟩:=wM nd.2 (by simpa using hl) t
  have ne:∀c∈bs,c.nm≠b.nm:=fun c hc z=>nd.1 (z▸abt.mpr ⟨c,hc,rfl⟩)
  obtain ⟨T',t1,t2⟩:∃T' :Str→Rat,T' b.nm=r∧∀x,x≠b.nm→T' x=T x:=⟨fun x=>if x=b.nm then r else T x,if_pos rfl,fun x h=>if_neg h⟩
  refine ⟨T',?_,?_,fun c hc=> ?_⟩
  ·have em:bs.map (fun c=>T' c.nm)=rs:=by
    rw [← h1]
    exact ae3 fun c hc=>t2 _ (ne c hc)
   rw [ac_,t1,em]
  ·rw [ac_,ao9,ac_,h2]
  ·rw [ac_,ao9]
   rcases ae1.mp hc with e | hc
   ·subst e
    exact ⟨y,bK rfl,by rw [t1];exact h⟩
   ·obtain ⟨v,e1,e2⟩:=h3 c hc
    refine ⟨v,?_,by rw [t2 _ (ne c hc)];exact e2⟩
    rw [bB (fun z=>ne c hc (afq z).symm)]
    exact e1
def cv (pins:List aH):Nat:=(pins.flatMap fun p=>p.ws).length
theorem mY (ps:List aH)(p:aH):cv (ps++[p])=cv ps+p.ws.length:=by
 unfold cv
 rw [afw,aeO]
 simp
theorem vt {pins:List aH}{i:Nat}{p:aH}(h:pins[i]? =some p):cv (pins.take i)+p.ws.length≤cv pins:=by
 have e:pins=pins.take i++p::pins.drop (i+1):=by
  have lt:=(be.mp h).1
  have e2:=(be.mp h).2
  rw [← e2,aoJ,agl]
 have e3:=congrArg (fun l:List aH=>(l.flatMap fun p=>p.ws).length) e
 simp only [afw,aeZ,aeO] at e3
 unfold cv
 omega
structure IU (K:Frag)(H H' :Hp)(pins:List aH)(ao:List bq)(dT dU:Addr)(kT kU:List (Key×V))(T:Str→Rat)(U:Str→List Rat)(L:Str→Addr):Prop where
 nT:H dT=none
 nU:H dU=none
 ne:dT≠dU
 hT:H' dT=some (.dK kT)
 hU:H' dU=some (.dK kU)
 zk:kT.map (·.1)=ao.map (fun b=>(afb b.nm:Key))
 zo:kU.map (·.1)=pins.map (fun p=>(afb p.nm:Key))
 tT:∀b∈ao,∃v,bS kT (.inr b.nm)=some v∧eQ K H' v (T b.nm)
 tU:∀p∈pins,∃vs,bS kU (.inr p.nm)=some (.ref (L p.nm))∧H (L p.nm)=none∧H' (L p.nm)=some (.lst vs)∧Paired (eQ K H') vs (U p.nm)
 lU:∀p∈pins,(U p.nm).length=p.ws.length
 inj:∀p∈pins,∀q∈pins,L p.nm=L q.nm→p.nm=q.nm
inductive Mv (K:Frag)(C:Addr)(vs:List V)(H:Hp)(Q:VK)(E_:XK):Prop where
 | mk (a nl:Addr) (pins:List aH) (ao:List bq) (us:List V) (rs:List Rat) (_:vs=[.ref a,.ref nl]) (_:wj K H C a pins ao) (_:fq pins ao) (_:H nl=some (.lst us)) (_:Paired (eQ K H) us rs) (_:rs.length=cv pins+ao.length) (_:∀(T:Str→Rat) (U:Str→List Rat) (L:Str→Addr) (p dT dU:Addr) (kT kU:List (Key×V)) (H' :Hp),av H H' →rs=(pins.flatMap fun p=>U p.nm)++ao.map (fun b=>T b.nm)→H' p=some (.tup [.ref dT,.ref dU])→IU K H H' pins ao dT dU kT kU T U L→Q (.ref p) H'):Mv K C vs H Q E_
theorem vv {ps:List aH}{U W:Str→List Rat}(h:∀p∈ps,U p.nm=W p.nm):(ps.flatMap fun p=>U p.nm)=ps.flatMap fun p=>W p.nm:=by
 induction ps with
 | nil=>rfl
 | cons p ps ih=>
  rw [aeZ,aeZ,h p aeI,ih fun q hq=>h q (aeF _ hq)]
theorem mZ:aG ["F","numbers","pushes","at","pin","behind","pulls"] ["F","numbers"] (ag yf):=sq
theorem QM {C:Addr}(D:Def K mg "pulls_and_pushes" yf ["F","numbers"])(a_:mg "len"=none)(dH:mg "dict"=none)(iy:mg "zip"=none)(MP:bJ P w K mg base (a9 P w) 1 C "pins" ["self"] (fO K C))(MW:bJ P w K mg base (a9 P w) 2 C "ways" ["self","pin"] (jZ K C))(MB:bJ P w K mg base (a9 P w) 1 C "bars" ["self"] (jY K C)):
  Fn P w K mg base (a9 P w) 3 "pulls_and_pushes" ["F","numbers"] (Mv K C):=by
 refine D.ok mZ (fun vs H Q E h=> ?_) (fun f bF A outer s H vs Q E hr h=> ?_)
 ·obtain ⟨a,nl,pins,ao,us,rs,rfl,_⟩:=h
  rfl
 obtain ⟨a,nl,pins,ao,us,rs,rfl,R,g,hn,hu,hl,q⟩:=h
 have lu:us.length=rs.length:=Paired.length hu
 have wl:cv pins≤2*pins.length:=mW pins g.lw
 have gl:=g.lp
 have gb:=g.lb
 refine ⟨_,(ae (aC (i:=2) mZ.nd rfl (ab_ rfl) d6)
  (ae (aC (i:=3) mZ.nd rfl (ab_ rfl) af)
  (ae (bw PassesOwn.never rfl (bh (dF (k:=1) (pv 0) hr.mo (pY P w))) (aw (i:=4) mZ.nd rfl (ab_ rfl)) (ae (aC (i:=5) mZ.nd rfl (ab_ rfl) (aI bH (pv 3) (aR aJ rfl a_ bW (aq (c_ (k:=2) (pv 0) hr.mo (pY P w) (aq (pv 4) aa)) aa))))
   (ae (eO (bU hr) (pv 2) (pv 4) (dj eG (pv 1) (dD (pv 3)) (dD (pv 5))) rfl)
   (ah (aC (i:=3) mZ.nd rfl (ab_ rfl) (pv 5))))))
  (ae (aC (i:=6) mZ.nd rfl (ab_ rfl) (CA rfl rfl dH rfl iy (aq (dF (k:=1) (pv 0) hr.mo (pY P w)) (aq (dj eG (pv 1) (dD (pv 3)) eE) aa))))
  (ah (aF (aZ (aq (pv 6) (aq (pv 2) aa))))))))),?_⟩
 intro dU nU
 have s1:=aK nU (.dK [])
 have e1:(upd H dU (.dK [])) dU=some (.dK []):=ak
 generalize upd H dU (.dK [])=H1 at s1 e1 ⊢
 have R1:=R.same s1
 obtain ⟨dx,pP,pW,pB,kP,kW,kB,F1,W1⟩:=R1.ex
 refine ⟨_,rfl,a,C,dx,_,_,_,rfl,F1.obj,rfl,MP,a,dx,pP,pW,pB,_,_,kP,kW,kB,rfl,F1,fun lp H2 s2 vq rO=> ?_⟩
 rw [fM] at rO
 have jE:=s1.trans s2
 have FE:lp≠dU:=fun z=>by rw [z,e1] at vq;cases vq
 refine ⟨lp,rfl,⟨_,aU.of rO⟩,bP (K:=K) (a:=lp) (xs:=(pins.map (·.nm)).map V.str) (fun i σ H' =>∃(o4 o5:Option V) (kU:List (Key×V)) (U:Str→List Rat) (L:Str→Addr),σ=[some (.ref a),some (.ref nl),some (.ref dU),some (.int (cv (pins.take i):Int)),o4,o5,none]∧av H H' ∧H' lp=some (.lst ((pins.map (·.nm)).map V.str))∧H' dU=some (.dK kU)∧kU.map (·.1)=(pins.take i).map (fun p=>(afb p.nm:Key))∧((pins.take i).flatMap fun p=>U p.nm)=rs.take (cv (pins.take i))∧
   (∀p∈pins.take i,∃vs,bS kU (.inr p.nm)=some (.ref (L p.nm))∧H (L p.nm)=none∧H' (L p.nm)=some (.lst vs)∧Paired (eQ K H') vs (U p.nm))∧(∀p∈pins.take i,(U p.nm).length=p.ws.length)∧(∀p∈pins.take i,∀q∈pins.take i,L p.nm=L q.nm→p.nm=q.nm))
   ⟨none,none,[],fun _=>[],fun _=>0,rfl,jE,rO,s2 _ _ e1,rfl,rfl,by simp,by simp,by simp⟩ (fun i σ H' _ h=>by
   obtain ⟨_,_,_,_,_,_,_,h,_⟩:=h
   exact aU.of h) ?_ ?_⟩
 ·rintro i z σ H4 hi ⟨o4,o5,kU,U,L,rfl,s4,l4,e4,ks,fl,tU,lU,inj⟩
  rw [Wp,Wp] at hi
  obtain ⟨x,hx,rfl⟩:=aeN.mp hi
  obtain ⟨p,hp,rfl⟩:=aeN.mp hx
  have mp:p∈pins:=ir hp
  have il:i < pins.length:=(be.mp hp).1
  have R4:=R.same s4
  obtain ⟨dx,pP,pW,pB,kP,kW,kB,F4,W4⟩:=R4.ex
  have XU:p.nm∈(pins.map fun p=>(p.nm,kg p.sp)).map (·.1):=by rw [fM];exact abt.mpr ⟨p,mp,rfl⟩
  refine ⟨_,rfl,_,rfl,a,C,dx,_,_,_,rfl,F4.obj,rfl,MW,_,rfl,a,dx,pP,pW,pB,_,_,kP,kW,kB,_,p.nm,p.ws,rfl,F4,W4,DA g.np,abt.mpr ⟨p,mp,rfl⟩,XU,fun m vs H5 s5 n5 e5 p5=> ?_⟩
  have lv:vs.length=p.ws.length:=Paired.length p5
  refine ⟨m,_,rfl,.inl (aU.of e5),_,_,rfl,rfl,?_⟩
  have tk:=take_snoc hp
  have wn:cv (pins.take (i+1))=cv (pins.take i)+p.ws.length:=by rw [tk,mY]
  have wt:=vt hp
  have eb:(cv (pins.take i):Int)+((vs.length:Nat):Int)=((cv (pins.take (i+1)):Nat):Int):=by rw [wn,lv];omega
  have IV:=s4.trans s5
  have IJ:=IV _ _ hn
  dsimp only
  rw [eb]
  refine ⟨_,rfl,_,rfl,_,rfl,_,rfl,_,rfl,nl,_,rfl,aU.of IJ,?_⟩
  rw [DF (by omega) (by omega)]
  intro m2 n6;generalize eX:upd _ m2 _=H6;have ⟨s6,e6⟩:=nw n6 eX;clear eX
  have QN:=s6 _ _ (s5 _ _ e4)
  have lk:kU.length≤9:=by
   have z:=congrArg afJ ks
   rw [aa_,aa_,ae2] at z
   omega
  refine ⟨_,rfl,_,rfl,dU,_,rfl,je.k (k:=.inr p.nm) QN (aeJ (show kU.length≤1000 by omega) (by decide)),?_⟩
  have fresh:(afb p.nm:Key)∉kU.map (·.1):=by
   rw [ks]
   intro z
   obtain ⟨b',gF,Mh⟩:=abt.mp z
   exact ft (nm:=aH.nm) g.np hp gF (afq Mh)
  have pk:putK kU (.inr p.nm) (.ref m2)=kU++[(.inr p.nm,.ref m2)]:=dm _ (bY fresh)
  have t6:bE H6 (upd H6 dU (.dK (putK kU (.inr p.nm) (.ref m2)))):=.dict QN
  have C_:=s5.trans s6
  have md:m2≠dU:=fun z=>by rw [z,s5 _ _ e4] at n6;cases n6
  have kk:∀b o,b≠dU→H4 b=some o→(upd H6 dU (.dK (putK kU (.inr p.nm) (.ref m2)))) b=some o:=fun b o n e=>by rw [aj n];exact C_ _ _ e
  have ne:∀p' ∈pins.take i,p'.nm≠p.nm:=fun p' iO =>ft (nm:=aH.nm) g.np hp iO
  have qQ :∀p' ∈pins.take (i+1),p' ∈pins.take i∨p' =p:=fun p' iO =>by
   rw [tk] at iO
   rcases aeM.mp iO with h | h
   ·exact .inl h
   ·exact .inr (aeH.mp h)
  have hold:∀p' ∈pins.take i,∃o,H4 (L p'.nm)=some o:=fun p' iO =>by
   obtain ⟨vs,_,_,h,_⟩:=tU p' iO
   exact ⟨_,h⟩
  obtain ⟨U',NP,XY⟩:∃U' :Str→List Rat,U' p.nm=(rs.drop (cv (pins.take i))).take p.ws.length∧∀x,x≠p.nm→U' x=U x:=⟨fun x=>if x=p.nm then (rs.drop (cv (pins.take i))).take p.ws.length else U x,if_pos rfl,fun x h=>if_neg h⟩
  obtain ⟨L',FA,Kx⟩:∃L' :Str→Addr,L' p.nm=m2∧∀x,x≠p.nm→L' x=L x:=⟨fun x=>if x=p.nm then m2 else L x,if_pos rfl,fun x h=>if_neg h⟩
  refine ⟨_,rfl,_,_,putK kU (.inr p.nm) (.ref m2),U',L',rfl,fun b o e=> ?_,kk _ _ FE l4,ak,?_,?_,fun p' iO => ?_,fun p' iO => ?_,fun p' iO q' kG => ?_⟩
  ·rw [aj (au e nU)]
   exact C_ _ _ (s4 _ _ e)
  ·rw [pk,aeR,ks,tk,aeR]
   rfl
  ·rw [tk,afw,mY]
   rw [vv (U:=U') (W:=U) fun p' iO =>XY _ (ne p' iO),fl]
   simp only [aeZ,apq,agt,NP]
   rw [List.take_add]
  ·rw [mB]
   rcases qQ p' iO with h | h
   ·rw [if_neg (fun z=>ne p' h (afq z)),Kx _ (ne p' h),XY _ (ne p' h)]
    obtain ⟨d9,h1,h2,h3,h4⟩:=tU p' h
    exact ⟨d9,h1,h2,kk _ _ (fun z=>by rw [z,e4] at h3;cases h3) h3,Paired.bZ h4 fun _ _ z=>(z.same C_).a8 t6⟩
   ·subst h
    rw [if_pos rfl,FA,NP]
    refine ⟨_,rfl,(s4.trans s5).free n6,by rw [aj md];exact e6,?_⟩
    have a1:=gx (cv (pins.take (i+1)) - cv (pins.take i)) (gw (cv (pins.take i)) hu)
    have a2:cv (pins.take (i+1)) - cv (pins.take i)=p'.ws.length:=by omega
    rw [a2] at a1 ⊢
    exact Paired.bZ a1 fun _ _ z=>((z.same s4).same C_).a8 t6
  ·rcases qQ p' iO with h | h
   ·rw [XY _ (ne p' h)]
    exact lU p' h
   ·subst h
    rw [NP,ae2,agn]
    omega
  ·rcases qQ p' iO with h | h <;> rcases qQ q' kG with h' | h'
   ·rw [Kx _ (ne p' h),Kx _ (ne q' h')]
    exact inj p' h q' h'
   ·subst h'
    rw [Kx _ (ne p' h),FA]
    intro z
    obtain ⟨o,ho⟩:=hold p' h
    rw [z,s5.free n6] at ho
    cases ho
   ·subst h
    rw [Kx _ (ne q' h'),FA]
    intro z
    obtain ⟨o,ho⟩:=hold q' h'
    rw [← z,s5.free n6] at ho
    cases ho
   ·intro _
    rw [h,h']
 ·rintro σ H4 ⟨o4,o5,kU,U,L,rfl,s4,l4,e4,ks,fl,tU,lU,inj⟩
  rw [aa_,aa_,afc] at ks fl tU lU inj
  have R4:=R.same s4
  obtain ⟨dx,pP,pW,pB,kP,kW,kB,F4,W4⟩:=R4.ex
  refine ⟨_,rfl,a,C,dx,_,_,_,rfl,F4.obj,rfl,MB,a,dx,pP,pW,pB,_,_,kP,kW,kB,rfl,F4,fun lb H5 s5 XX Mu=> ?_⟩
  rw [wL] at Mu
  have IV:=s4.trans s5
  refine ⟨_,rfl,_,rfl,_,rfl,nl,_,rfl,aU.of (IV _ _ hn),?_⟩
  have hw:cv pins≤us.length:=by omega
  rw [aa_,aa_,afc,jV hw]
  intro m2 n6;generalize eX:upd _ m2 _=H6;have ⟨s6,e6⟩:=nw n6 eX;clear eX
  have VQ:Paired (eQ K H6) (us.drop (cv pins)) (rs.drop (cv pins)):=Paired.bZ (gw (cv pins) hu) fun _ _ z=>(z.same IV).same s6
  obtain ⟨T,h1,h2,h3⟩:=wM (R:=eQ K H6) g.nb (by rw [agn];omega) VQ
  have eks:(ao.map (·.nm)).map V.str=(ao.map fun b=>(afb b.nm:Key)).map kV:=by
   rw [aeS,aeS]
   rfl
  rw [eks] at Mu
  refine ⟨lb,m2,ao.map fun b=>(afb b.nm:Key),us.drop (cv pins),rfl,s6 _ _ Mu,e6,by rw [aa_];omega,fun dT H7 s7 n7 e7=> ?_⟩
  have ndk:(ao.map fun b=>(afb b.nm:Key)).Nodup:=by
   have:=xY g.nb
   rw [aeS] at this
   exact this
  rw [gy _ [] (by rw [afH,h2];exact ndk),afH] at e7
  refine ⟨_,rfl,_,rfl,(by show 2≤sizeLine;decide),?_⟩
  intro pt n8;generalize eX:upd _ pt _=H8;have ⟨s8,e8⟩:=nw n8 eX;clear eX
  have VR:=(s5.trans s6).trans (s7.trans s8)
  have QO:=s4.trans VR
  have er:rs=(pins.flatMap fun p=>U p.nm)++ao.map (fun b=>T b.nm):=by rw [fl,h1,agl]
  refine q T U L pt dT dU _ kU H8 QO er e8 ⟨(IV.trans s6).free n7,nU,(fun z=>by rw [z,s6 _ _ (s5 _ _ e4)] at n7;cases n7),s8 _ _ e7,VR _ _ e4,h2,ks,fun b hb=> ?_,fun p hp=> ?_,lU,inj⟩
  ·obtain ⟨v,e1,e2⟩:=h3 b hb
   exact ⟨v,e1,(e2.same s7).same s8⟩
  ·obtain ⟨d9,a1,a2,a3,a4⟩:=tU p hp
   exact ⟨d9,a1,a2,VR _ _ a3,Paired.bZ a4 fun _ _ z=>z.same VR⟩
inductive m4 (K:Frag)(C:Addr)(vs:List V)(H:Hp)(Q:VK)(E_:XK):Prop where
 | mk (a nl:Addr) (pins:List aH) (ao:List bq) (us:List V) (rs:List Rat) (_:vs=[.ref a,.ref nl]) (_:wj K H C a pins ao) (_:fq pins ao) (_:H nl=some (.lst us)) (_:Paired (eQ K H) us rs) (_:rs.length=2*pins.length) (_:∀(M:Str→Rat×Rat) (d:Addr) (kM:List (Key×V)) (H' :Hp),av H H' →rs=(pins.flatMap fun p=>[(M p.nm).1,(M p.nm).2])→H d=none→H' d=some (.dK kM)→kM.map (·.1)=pins.map (fun p=>(afb p.nm:Key))→(∀p∈pins,∃t v1 v2,bS kM (.inr p.nm)=some (.ref t)∧H' t=some (.tup [v1,v2])∧eQ K H' v1 (M p.nm).1∧eQ K H' v2 (M p.nm).2)→Q (.ref d) H'):m4 K C vs H Q E_
theorem tW {ps:List aH}{U W:Str→Rat×Rat}(h:∀p∈ps,U p.nm=W p.nm):(ps.flatMap fun p=>[(U p.nm).1,(U p.nm).2])=ps.flatMap fun p=>[(W p.nm).1,(W p.nm).2]:=by
 induction ps with
 | nil=>rfl
 | cons p ps ih=>
  rw [aeZ,aeZ,h p aeI,ih fun q hq=>h q (aeF _ hq)]
theorem wN:aG ["F","numbers","motion","at","pin"] ["F","numbers"] (ag yg):=sq
theorem QP {C:Addr}(D:Def K mg "motion_from" yg ["F","numbers"])(dy:mg "enumerate"=none)(MP:bJ P w K mg base (a9 P w) 1 C "pins" ["self"] (fO K C)):
  Fn P w K mg base (a9 P w) 2 "motion_from" ["F","numbers"] (m4 K C):=by
 refine D.ok wN (fun vs H Q E h=> ?_) (fun f bF A outer s H vs Q E hr h=> ?_)
 ·obtain ⟨a,nl,pins,ao,us,rs,rfl,_⟩:=h
  rfl
 obtain ⟨a,nl,pins,ao,us,rs,rfl,R,g,hn,hu,hl,q⟩:=h
 have lu:us.length=rs.length:=Paired.length hu
 have gl:=g.lp
 refine ⟨_,(ae (aC (i:=2) wN.nd rfl (ab_ rfl) d6)
  (ae (bw PassesOwn.never rfl (v_ rfl dy (aq (dF (k:=1) (pv 0) hr.mo (pY P w)) aa)) (dB rfl (aV (aw (i:=3) wN.nd rfl (ab_ rfl)) (aV (aw (i:=4) wN.nd rfl (ab_ rfl)) cC))) (ah (eO (bU hr) (pv 2) (pv 4) (aZ (aq (aY aX (pv 1) (aI cf af (pv 3)) (fun _ _=>rfl)) (aq (aY aX (pv 1) (aI bH (aI cf af (pv 3)) af) (fun _ _=>rfl)) aa))) rfl)))
  (ah (aF (pv 2))))),?_⟩
 intro d nd
 have s1:=aK nd (.dK [])
 have e1:(upd H d (.dK [])) d=some (.dK []):=ak
 generalize upd H d (.dK [])=H1 at s1 e1 ⊢
 have R1:=R.same s1
 obtain ⟨dx,pP,pW,pB,kP,kW,kB,F1,W1⟩:=R1.ex
 refine ⟨_,rfl,a,C,dx,_,_,_,rfl,F1.obj,rfl,MP,a,dx,pP,pW,pB,_,_,kP,kW,kB,rfl,F1,fun lp H2 s2 vq rO=> ?_⟩
 rw [fM] at rO
 have jE:=s1.trans s2
 have FE:lp≠d:=fun z=>by rw [z,e1] at vq;cases vq
 refine ⟨lp,rfl,⟨_,aU.of rO⟩,sX (K:=K) (a:=lp) (xs:=(pins.map (·.nm)).map V.str) (fun i σ H' =>∃(o3 o4:Option V) (kM:List (Key×V)) (M:Str→Rat×Rat),σ=[some (.ref a),some (.ref nl),some (.ref d),o3,o4]∧av H H' ∧H' lp=some (.lst ((pins.map (·.nm)).map V.str))∧H' d=some (.dK kM)∧kM.map (·.1)=(pins.take i).map (fun p=>(afb p.nm:Key))∧((pins.take i).flatMap fun p=>[(M p.nm).1,(M p.nm).2])=rs.take (2*i)∧
   (∀p∈pins.take i,∃t v1 v2,bS kM (.inr p.nm)=some (.ref t)∧H' t=some (.tup [v1,v2])∧eQ K H' v1 (M p.nm).1∧eQ K H' v2 (M p.nm).2))
   ⟨none,none,[],fun _=>(0,0),rfl,jE,rO,s2 _ _ e1,rfl,rfl,by simp⟩ (fun i σ H' _ h=>by
   obtain ⟨_,_,_,_,_,_,h,_⟩:=h
   exact aU.of h) ?_ ?_⟩
 ·rintro i z σ H4 p9 hi ⟨o3,o4,kM,M,rfl,s4,l4,e4,ks,fl,tM⟩ n9
  rw [Wp,Wp] at hi
  obtain ⟨x,hx,rfl⟩:=aeN.mp hi
  obtain ⟨p,hp,rfl⟩:=aeN.mp hx
  have il:i < pins.length:=(be.mp hp).1
  have t9:=aK n9 (.tup [.int (i:Int),.str p.nm])
  have e9:(upd H4 p9 (.tup [.int (i:Int),.str p.nm])) p9=some (.tup [.int (i:Int),.str p.nm]):=ak
  generalize upd H4 p9 (.tup [.int (i:Int),.str p.nm])=H5 at t9 e9 ⊢
  refine ⟨p9,_,rfl,bL.of e9,rfl,_,_,rfl,_,_,rfl,rfl,?_⟩
  have IV:=s4.trans t9
  have IJ:=IV _ _ hn
  have l1:2*i < us.length:=by omega
  have l2:2*i+1 < us.length:=by omega
  have c2:sj 2 (i:Int):=⟨by decide+kernel,ad_ (intBits_le_64 (by omega) (by omega)) (by decide)⟩
  have a1:fN us (2*(i:Int))=some us[2*i]:=by
   have:=bG (xs:=us) (j:=2*i) (gE l1)
   rw [show ((2*i:Nat):Int)=2*(i:Int) by omega] at this
   exact this
  have a2:fN us (2*(i:Int)+1)=some us[2*i+1]:=by
   have:=bG (xs:=us) (j:=2*i+1) (gE l2)
   rw [show ((2*i+1:Nat):Int)=2*(i:Int)+1 by omega] at this
   exact this
  refine ⟨_,rfl,_,rfl,_,_,rfl,rfl,c2,nl,_,_,_,rfl,rfl,aU.of IJ,a1,?_⟩
  refine ⟨_,rfl,_,rfl,_,_,rfl,rfl,c2,_,_,rfl,rfl,nl,_,_,_,rfl,rfl,aU.of IJ,a2,(by show 2≤sizeLine;decide),?_⟩
  intro t n6;generalize eX:upd _ t _=H6;have ⟨s6,e6⟩:=nw n6 eX;clear eX
  have QN:=s6 _ _ (t9 _ _ e4)
  have lk:kM.length≤9:=by
   have z:=congrArg afJ ks
   rw [aa_,aa_,ae2] at z
   omega
  refine ⟨_,rfl,_,rfl,d,_,rfl,je.k (k:=.inr p.nm) QN (aeJ (show kM.length≤1000 by omega) (by decide)),?_⟩
  have fresh:(afb p.nm:Key)∉kM.map (·.1):=by
   rw [ks]
   intro z
   obtain ⟨b',gF,Mh⟩:=abt.mp z
   exact ft (nm:=aH.nm) g.np hp gF (afq Mh)
  have pk:putK kM (.inr p.nm) (.ref t)=kM++[(.inr p.nm,.ref t)]:=dm _ (bY fresh)
  have t6:bE H6 (upd H6 d (.dK (putK kM (.inr p.nm) (.ref t)))):=.dict QN
  have C_:=t9.trans s6
  have td:t≠d:=fun z=>by rw [z,t9 _ _ e4] at n6;cases n6
  have kk:∀b o,b≠d→H4 b=some o→(upd H6 d (.dK (putK kM (.inr p.nm) (.ref t)))) b=some o:=fun b o n e=>by rw [aj n];exact C_ _ _ e
  have ne:∀p' ∈pins.take i,p'.nm≠p.nm:=fun p' iO =>ft (nm:=aH.nm) g.np hp iO
  have tk:=take_snoc hp
  obtain ⟨r1,er1,hr1⟩:=aE hu (gE l1)
  obtain ⟨r2,er2,hr2⟩:=aE hu (gE l2)
  obtain ⟨M',hM1,hM2⟩:∃M' :Str→Rat×Rat,M' p.nm=(r1,r2)∧∀x,x≠p.nm→M' x=M x:=⟨fun x=>if x=p.nm then (r1,r2) else M x,if_pos rfl,fun x h=>if_neg h⟩
  refine ⟨_,_,putK kM (.inr p.nm) (.ref t),M',rfl,fun b o e=> ?_,kk _ _ FE l4,ak,?_,?_,fun p' iO => ?_⟩
  ·rw [aj (au e nd)]
   exact C_ _ _ (s4 _ _ e)
  ·rw [pk,aeR,ks,tk,aeR]
   rfl
  ·rw [tk,afw,tW (U:=M') (W:=M) fun p' iO =>hM2 _ (ne p' iO),fl]
   simp only [aeZ,apq,agt,hM1]
   rw [show 2*(i+1)=2*i+1+1 by omega,afN,afN,er1,er2]
   simp
  ·rw [mB]
   rw [tk] at iO
   rcases aeM.mp iO with h | h
   ·rw [if_neg (fun z=>ne p' h (afq z)),hM2 _ (ne p' h)]
    obtain ⟨t',v1,v2,h1,h2,h3,h4⟩:=tM p' h
    exact ⟨t',v1,v2,h1,kk _ _ (fun z=>by rw [z,e4] at h2;cases h2) h2,(h3.same C_).a8 t6,(h4.same C_).a8 t6⟩
   ·rw [aeH.mp h,if_pos rfl,hM1]
    exact ⟨t,_,_,rfl,by rw [aj td];exact e6,((hr1.same IV).same s6).a8 t6,((hr2.same IV).same s6).a8 t6⟩
 ·rintro σ H4 ⟨o3,o4,kM,M,rfl,s4,l4,e4,ks,fl,tM⟩
  rw [aa_,aa_] at ks fl tM
  rw [afc] at ks fl tM
  rw [← hl,afc] at fl
  exact ⟨_,rfl,q M d kM H4 s4 fl.symm nd e4 ks tM⟩
def dt (a b:Rat×Rat):Rat:=a.1*b.1+a.2*b.2
def sP (as bs:List Rat):Rat:=(afm (·*·) as bs).sum
theorem gA (bs:List Rat):sP [] bs=0:=by simp [sP]
theorem dI (a b:Rat)(as bs:List Rat):sP (a::as) (b::bs)=a*b+sP as bs:=by simp [sP]
theorem iP:∀{a c:List Rat} (b d:List Rat),a.length=c.length→sP (a++b) (c++d)=sP a c+sP b d
 | [],[],b,d,_=>by
  rw [afH,afH,gA]
  grind
 | x::a,y::c,b,d,h=>by
  rw [af8,af8,dI,dI,iP b d (by simpa using h)]
  grind
 | [],_::_,_,_,h=>by simp at h
 | _::_,[],_,_,h=>by simp at h
theorem lD:∀(ys cs:List (Int×Int)),gm ys cs=sP (ys.map vl) (cs.map vl)
 | [],_=>by simp [gm,sP]
 | _::_,[]=>by simp [gm,sP]
 | y::ys,c::cs=>by rw [xH,ac_,ac_,dI,lD ys cs]
theorem wO (F:Str→Option (Rat×Rat))(M:Str→Rat×Rat):∀pins:List aH,sP ((dc F pins).map vl) (pins.flatMap fun p=>[(M p.nm).1,(M p.nm).2])=(pins.map fun p=>dt (mv F p.nm) (M p.nm)).sum
 | []=>by simp [dc,sP]
 | p::ps=>by
  have ih:=wO F M ps
  unfold dc at ih ⊢
  rw [aeZ,aeZ,aeR,iP _ _ (by simp),ih]
  simp only [ac_,afh,eA,dI,gA,ae5]
  unfold dt
  grind
theorem IW {pins:List aH}(nd:(pins.map (·.nm)).Nodup){p:aH}(hp:p∈pins){f:Str→Rat}(h:∀q∈pins,q.nm≠p.nm→f q.nm=0):(pins.map fun q=>f q.nm).sum=f p.nm:=by
 induction pins with
 | nil=>simp at hp
 | cons q ps ih=>
  rw [ac_,ae9] at nd
  rw [ac_,ae5]
  have zero:∀(l:List aH),(∀r∈l,f r.nm=0)→(l.map fun q=>f q.nm).sum=0:=fun l hl=>by
   induction l with
   | nil=>simp
   | cons r l ihl=>
    rw [ac_,ae5,hl r aeI,ihl fun s hs=>hl s (aeF _ hs)]
    grind
  by_cases e:q.nm=p.nm
  ·rw [e,zero ps fun r hr=>h r (aeF _ hr) fun z=>nd.1 (by rw [e, ← z];exact abt.mpr ⟨r,hr,rfl⟩)]
   grind
  ·rw [h q aeI e]
   have iO :p∈ps:=by
    rcases ae1.mp hp with z | z
    ·exact absurd (by rw [z]) e
    ·exact z
   rw [ih nd.2 iO fun r hr=>h r (aeF _ hr)]
   grind
theorem iQ (x:Str)(w:Rat×Rat)(y:Str):mv (fF x w) y=if y=x then w else (0,0):=by
 unfold mv fF
 by_cases e:y=x
 ·rw [if_pos e,if_pos e]
  rfl
 ·rw [if_neg e,if_neg e]
  rfl
theorem h8 (m:Rat×Rat):dt (0,0) m=0:=by
 unfold dt
 grind
theorem qR {pins:List aH}(nd:(pins.map (·.nm)).Nodup){p:aH}(hp:p∈pins)(w:Rat×Rat)(M:Str→Rat×Rat):(pins.map fun q=>dt (mv (fF p.nm w) q.nm) (M q.nm)).sum=dt w (M p.nm):=by
 rw [IW nd hp (f:=fun x=>dt (mv (fF p.nm w) x) (M x)) fun q _ e=>by rw [iQ,if_neg e];exact h8 _]
 rw [iQ,if_pos rfl]
theorem sum_add (f g:aH→Rat):∀l:List aH,(l.map fun q=>f q+g q).sum=(l.map f).sum+(l.map g).sum
 | []=>by
  simp only [afh,afQ]
  grind
 | p::l=>by
  rw [ac_,ae5,sum_add f g l,ac_,ac_,ae5,ae5]
  grind
def vw (M:Str→Rat×Rat)(b:bq):Rat:=dt (gS b.one b.other) ((M b.other.nm).1 - (M b.one.nm).1,(M b.other.nm).2 - (M b.one.nm).2)
theorem Mw (b:bq)(h:b.one.nm≠b.other.nm)(x:Str)(m:Rat×Rat):dt (mv (du b) x) m=dt (mv (fF b.one.nm (gS b.one b.other)) x) m+dt (mv (fF b.other.nm (gS b.other b.one)) x) m:=by
 rw [iQ,iQ]
 unfold mv du
 by_cases c1:x=b.one.nm
 ·rw [if_pos c1,if_pos c1,if_neg (fun z=>h (c1.symm.trans z)),h8]
  show dt (gS b.one b.other) m=_
  grind
 ·rw [if_neg c1,if_neg c1,h8]
  by_cases c2:x=b.other.nm
  ·rw [if_pos c2,if_pos c2]
   show dt (gS b.other b.one) m=_
   grind
  ·rw [if_neg c2,if_neg c2,h8]
   show dt (0,0) m=_
   rw [h8]
   grind
theorem wQ {pins:List aH}(nd:(pins.map (·.nm)).Nodup)(b:bq)(h1:b.one∈pins)(h2:b.other∈pins)(h:b.one.nm≠b.other.nm)(M:Str→Rat×Rat):(pins.map fun q=>dt (mv (du b) q.nm) (M q.nm)).sum= -(vw M b):=by
 have e:(pins.map fun q=>dt (mv (du b) q.nm) (M q.nm))=pins.map fun q=>dt (mv (fF b.one.nm (gS b.one b.other)) q.nm) (M q.nm)+dt (mv (fF b.other.nm (gS b.other b.one)) q.nm) (M q.nm):=ae3 fun q _=>Mw b h _ _
 rw [e,sum_add,qR nd h1,qR nd h2]
 unfold vw dt gS
 grind
structure m5 (pins:List aH)(ao:List bq)(M:Str→Rat×Rat):Prop where
 QQ:∀p∈pins,∀w∈p.ws,dt w (M p.nm)=0
 ao:∀b∈ao,vw M b=0
def iz (pins:List aH)(L:Str→Option (Rat×Rat))(M:Str→Rat×Rat):Rat:=(pins.map fun p=>dt (mv L p.nm) (M p.nm)).sum
def dX (ao:List bq)(T:Str→Rat)(U:Str→List Rat)(p:aH)(c:Rat×Rat→Rat):Rat:=sP (U p.nm) (p.ws.map c)+(ao.map fun b=>T b.nm*c (mv (du b) p.nm)).sum
def fP (pins:List aH)(ao:List bq)(T:Str→Rat)(U:Str→List Rat)(L:Str→Option (Rat×Rat)):Prop:=∀p∈pins,dX ao T U p (·.1)+(mv L p.nm).1=0∧dX ao T U p (·.2)+(mv L p.nm).2=0
theorem lE:∀(as:List Rat) {α:Type} (l:List α),sP as (l.map fun _=>(0:Rat))=0
 | [],_,_=>gA _
 | _::_,_,[]=>by simp [sP]
 | a::as,_,x::l=>by
  rw [ac_,dI,lE as l]
  grind
theorem wU {U:Str→List Rat}{c:Rat×Rat→Rat}(c0:c (0,0)=0)(p:aH):∀(ps:List aH),(ps.map (·.nm)).Nodup→(∀q∈ps,(U q.nm).length=q.ws.length)→(∀q∈ps,q.nm=p.nm→q=p)→
  sP (ps.flatMap fun q=>U q.nm) (ps.flatMap fun q=>q.ws.map fun w=>c (mv (fF q.nm w) p.nm))=if p.nm∈ps.map (·.nm) then sP (U p.nm) (p.ws.map c) else 0
 | [],_,_,_=>by simp [sP]
 | q::ps,nd,hl,inj=>by
  rw [ac_,ae9] at nd
  have ih:=wU c0 p ps nd.2 (fun r hr=>hl r (aeF _ hr)) fun r hr=>inj r (aeF _ hr)
  rw [aeZ,aeZ,iP _ _ (by rw [hl q aeI,aa_]),ih,ac_]
  by_cases e:q.nm=p.nm
  ·have eq:q=p:=inj q aeI e
   subst eq
   have ec:(q.ws.map fun w=>c (mv (fF q.nm w) q.nm))=q.ws.map c:=ae3 fun w _=>by rw [iQ,if_pos rfl]
   rw [if_neg nd.1,if_pos aeI,ec]
   grind
  ·have ec:(q.ws.map fun w=>c (mv (fF q.nm w) p.nm))=q.ws.map fun _=>(0:Rat):=ae3 fun w _=>by rw [iQ,if_neg (fun z=>e z.symm)];exact c0
   rw [ec,lE]
   by_cases hm:p.nm∈ps.map (·.nm)
   ·rw [if_pos hm,if_pos (aeF _ hm)]
    grind
   ·rw [if_neg hm,if_neg (fun z=>by
     rcases ae1.mp z with z | z
     ·exact e z.symm
     ·exact hm z)]
    grind
theorem DG {α:Type}(f g:α→Rat):∀l:List α,sP (l.map f) (l.map g)=(l.map fun x=>f x*g x).sum
 | []=>by simp [sP]
 | x::l=>by rw [ac_,ac_,dI,DG f g l,ac_,ae5]
theorem IX {pins:List aH}{ao:List bq}{T:Str→Rat}{U:Str→List Rat}{L:Str→Option (Rat×Rat)}{c:Rat×Rat→Rat}(c0:c (0,0)=0)(nd:(pins.map (·.nm)).Nodup)(hl:∀q∈pins,(U q.nm).length=q.ws.length){p:aH}(hp:p∈pins)(y:Rat):
  sP ((pins.flatMap fun q=>U q.nm)++ao.map (fun b=>T b.nm)++[y]) (((pins.flatMap fun q=>q.ws.map fun w=>c (mv (fF q.nm w) p.nm))++ao.map fun b=>c (mv (du b) p.nm))++[c (mv L p.nm)])=dX ao T U p c+y*c (mv L p.nm):=by
 have l1:(pins.flatMap fun q=>U q.nm).length=(pins.flatMap fun q=>q.ws.map fun w=>c (mv (fF q.nm w) p.nm)).length:=by
  clear hp nd
  induction pins with
  | nil=>rfl
  | cons q ps ih=>rw [aeZ,aeZ,aeO,aeO,ih fun r hr=>hl r (aeF _ hr),hl q aeI,aa_]
 rw [iP _ _ (by rw [aeO,aeO,l1,aa_,aa_]),iP _ _ l1,wU c0 p pins nd hl fun q hq e=>L7 (nm:=aH.nm) nd hq hp e,if_pos (abt.mpr ⟨p,hp,rfl⟩),DG,dI,gA]
 unfold dX
 grind
theorem qS (F:Str→Option (Rat×Rat)):∀{pins:List aH} {k:Nat} {p:aH},pins[k]? =some p→vl ((dc F pins).getD (2*k) (0,1))=(mv F p.nm).1∧vl ((dc F pins).getD (2*k+1) (0,1))=(mv F p.nm).2
 | q::ps,0,p,h=>by
  cases h
  unfold dc
  rw [aeZ]
  exact ⟨eA _,eA _⟩
 | q::ps,k+1,p,h=>by
  have ih:=qS F (pins:=ps) (k:=k) (p:=p) (by simpa using h)
  unfold dc at ih ⊢
  rw [aeZ]
  exact ih
theorem zq (pins:List aH)(ao:List bq)(L:Str→Option (Rat×Rat)){k:Nat}{p:aH}(h:pins[k]? =some p)(j:Nat)(c:Rat×Rat→Rat)(hj:∀F,vl ((dc F pins).getD j (0,1))=c (mv F p.nm)):
  (CS (dO pins ao++[dc L pins]) j).map vl=((pins.flatMap fun q=>q.ws.map fun w=>c (mv (fF q.nm w) p.nm))++ao.map fun b=>c (mv (du b) p.nm))++[c (mv L p.nm)]:=by
 have flat:∀ps:List aH,((ps.flatMap fun q=>mT pins q).map fun qs=>vl (qs.getD j (0,1)))=ps.flatMap fun q=>q.ws.map fun w=>c (mv (fF q.nm w) p.nm):=fun ps=>by
  induction ps with
  | nil=>rfl
  | cons q ps ih=>
   rw [aeZ,aeZ,aeR,ih]
   congr 1
   unfold mT
   rw [aeS]
   exact ae3 fun w _=>hj _
 unfold CS dO
 rw [aeS,aeR,aeR,ac_,afh]
 congr 1
 ·congr 1
  ·exact flat pins
  ·rw [aeS]
   exact ae3 fun b _=>hj _
 ·rw [← hj]
  rfl
theorem dr {k:Nat}(h:1≤k):Sz k 0:=by
 have:=u4 (i:=0) (k:=k) (by simpa using aoN k) h
 simpa using this
structure Zb (n:Nat)(r:Rat):Prop where
 top:(qr r).1.natAbs≤2^n
 bot:(qr r).2.natAbs≤2^n
theorem KG {T B:Nat}{q:Int×Int}(h:Sm T B q):q=qr (vl q):=oZ h.pos h.low
theorem KH {k:Nat}{r:Rat}(h:Sz k r)(h2:k≤50):Sm 50 50 (qr r):=
 ⟨cz r,jQ r,afl (aeT (intBits_le_iff.mp h.top) (ae0 (by decide) h2)),afl (aeT (intBits_le_iff.mp h.bot) (ae0 (by decide) h2))⟩
theorem wV {F:Str→Option (Rat×Rat)}(h:∀x,Sz 50 (mv F x).1∧Sz 50 (mv F x).2)(pins:List aH):∀q∈dc F pins,Sm 50 50 q:=fun q hq=>by
 unfold dc at hq
 obtain ⟨p,_,hq⟩:=afA.mp hq
 have z:=h p.nm
 rcases ae1.mp hq with e | hq
 ·rw [e]
  exact KH z.1 (aeG _)
 ·rw [aeH.mp hq]
  exact KH z.2 (aeG _)
theorem Mx {x:Str}{w:Rat×Rat}(h:Sz 50 w.1∧Sz 50 w.2)(y:Str):Sz 50 (mv (fF x w) y).1∧Sz 50 (mv (fF x w) y).2:=by
 rw [iQ]
 by_cases c:y=x
 ·rw [if_pos c]
  exact h
 ·rw [if_neg c]
  exact ⟨dr (by decide),dr (by decide)⟩
theorem DH {pins:List aH}{ao:List bq}(g:fq pins ao){b:bq}(hb:b∈ao)(y:Str):Sz 50 (mv (du b) y).1∧Sz 50 (mv (du b) y).2:=by
 obtain ⟨m1,m2,_⟩:=g.ends b hb
 have z1:=g.sz _ m1
 have z2:=g.sz _ m2
 unfold mv du
 by_cases c1:y=b.one.nm
 ·rw [if_pos c1]
  exact ⟨(z2.1.sub z1.1).up (by decide),(z2.2.1.sub z1.2.1).up (by decide)⟩
 ·rw [if_neg c1]
  by_cases c2:y=b.other.nm
  ·rw [if_pos c2]
   exact ⟨(z1.1.sub z2.1).up (by decide),(z1.2.1.sub z2.2.1).up (by decide)⟩
  ·rw [if_neg c2]
   exact ⟨dr (by decide),dr (by decide)⟩
theorem m7 {pins:List aH}{ao:List bq}(g:fq pins ao):∀qs∈dO pins ao,qs.length=2*pins.length∧∀q∈qs,Sm 50 50 q:=fun qs hq=>by
 unfold dO at hq
 rcases aeM.mp hq with h | h
 ·obtain ⟨p,hp,h⟩:=afA.mp h
  unfold mT at h
  obtain ⟨w,hw,rfl⟩:=abt.mp h
  have z:=(g.sz p hp).2.2 w hw
  exact ⟨gT _ _,wV (Mx ⟨z.1.up (by decide),z.2.up (by decide)⟩) pins⟩
 ·obtain ⟨b,hb,rfl⟩:=abt.mp h
  exact ⟨gT _ _,wV (DH g hb) pins⟩
theorem m8 {H:Hp}{T B:Nat}:∀{us:List V} {qs:List (Int×Int)},cX K H us qs→(∀q∈qs,Sm T B q)→Paired (eQ K H) us (qs.map vl)
 | [],[],_,_=>.nil
 | u::us,q::qs,h,hs=>by
  refine .cons ?_ (m8 ⟨by simpa using h.1,fun i u q e1 e2=>h.2 (i+1) u q (by simpa using e1) (by simpa using e2)⟩ fun r hr=>hs r (aeF _ hr))
  have n:=h.2 0 u q rfl rfl
  show j_ K H u (qr (vl q))
  rw [← KG (hs q aeI)]
  exact n
 | [],_::_,h,_=>(nomatch h.1)
 | _::_,[],h,_=>(nomatch h.1)
structure XZ (K:Frag)(H H' :Hp)(pins:List aH)(d:Addr)(kM:List (Key×V))(M:Str→Rat×Rat):Prop where
 nM:H d=none
 hM:H' d=some (.dK kM)
 keys:kM.map (·.1)=pins.map (fun p=>(afb p.nm:Key))
 tM:∀p∈pins,∃t v1 v2,bS kM (.inr p.nm)=some (.ref t)∧H' t=some (.tup [v1,v2])∧eQ K H' v1 (M p.nm).1∧eQ K H' v2 (M p.nm).2
theorem KI {m n:Nat}{q:Int×Int}{T B:Nat}(h:Sm T B q)(h1:T≤n)(h2:B≤n):Zb n (vl q):=by
 have e:=KG h
 refine ⟨?_,?_⟩
 ·rw [← e]
  exact ad_ h.top (ae0 (by decide) h1)
 ·rw [← e]
  exact ad_ h.bot (ae0 (by decide) h2)
def zL (n:Nat):Nat:=bb (1000+1000*(2*n+1)) (2*n+1)+1000*(2*n+1)
theorem DI {n:Nat}(h:n≤9):bb (1000+1000*(2*n+1)) (2*n+1)≤29000000:=by
 unfold bb
 have:=afn (show 2*n+1+1≤20 by omega) (show 1000+1000*(2*n+1)+11≤20011 by omega)
 omega
theorem QR {n:Nat}(h:n≤9):bb (1000+1000*(2*n+1)) (2*n+1)≤400220:=by
 unfold bb
 exact ad_ (afn (show 2*n+1+1≤20 by omega) (show 1000+1000*(2*n+1)+11≤20011 by omega)) (by decide)
theorem zL9 {n:Nat}(h:n≤9):zL n≤500000:=by
 have h1:=QR h
 unfold zL
 generalize bb (1000+1000*(2*n+1)) (2*n+1)=x at h1
 omega
def VS (M:Str→Option (Rat×Rat)):Prop:=∀x,Sz 1000 (mv M x).1∧Sz 1000 (mv M x).2
theorem X0 {T B T' B' :Nat}{q:Int×Int}(h:Sm T B q)(h1:T≤T')(h2:B≤B'):Sm T' B' q:=⟨h.pos,h.low,ad_ h.top (ae0 (by decide) h1),ad_ h.bot (ae0 (by decide) h2)⟩
theorem DJ {r:Rat}(h:Sz 1000 r):Sm 1000 1000 (qr r):=
 ⟨cz r,jQ r,afl (intBits_le_iff.mp h.top),afl (intBits_le_iff.mp h.bot)⟩
theorem DK {F:Str→Option (Rat×Rat)}(h:∀x,Sz 1000 (mv F x).1∧Sz 1000 (mv F x).2)(pins:List aH):∀q∈dc F pins,Sm 1000 1000 q:=fun q hq=>by
 unfold dc at hq
 obtain ⟨p,_,hq⟩:=afA.mp hq
 have z:=h p.nm
 rcases ae1.mp hq with e | hq
 ·rw [e]
  exact DJ z.1
 ·rw [aeH.mp hq]
  exact DJ z.2
inductive qT (K:Frag)(C:Addr)(vs:List V)(H:Hp)(Q:VK)(E_:XK):Prop where
 | mk (a d:Addr) (pins:List aH) (ao:List bq) (kvs:List (Key×V)) (L:Str→Option (Rat×Rat)) (_:vs=[.ref a,.ref d]) (_:wj K H C a pins ao) (_:fq pins ao) (_:pins.length≤9) (_:H d=some (.dK kvs)) (_:uz K H kvs L) (_:VS L) (_:(∀kv∈kvs,∃x∈pins.map (·.nm),kv.1=.inr x)) (_:(∀(M:Str→Rat×Rat) (p dM:Addr) (kM:List (Key×V)) (H' :Hp),av H H' →H' p=some (.tup [.str "moves",.ref dM])→XZ K H H' pins dM kM M→m5 pins ao M→iz pins L M=1→(∀p∈pins,Zb (zL pins.length) (M p.nm).1∧Zb (zL pins.length) (M p.nm).2)→Q (.ref p) H')) (_:(∀(T:Str→Rat) (U:Str→List Rat) (Lx:Str→Addr) (p dT dU:Addr) (kT kU:List (Key×V)) (H' :Hp),av H H' →H' p=some (.tup [.str "rest",.ref dT,.ref dU])→IU K H H' pins ao dT dU kT kU T U Lx→fP pins ao T U L→(∀b∈ao,Zb (zL pins.length) (T b.nm))→(∀p∈pins,∀u∈U p.nm,Zb (zL pins.length) u)→Q (.ref p) H')):qT K C vs H Q E_
theorem pH:aG ["F","load","drawn","rows","due","told","forces"] ["F","load"] (ag yq):=sq
theorem QS {C aN aO:Addr}(hN:∀H:Hp,bL K H aN [.int 0,.int 1])(ze:mg "NOUGHT"=some (.ref aN))(hO:∀H:Hp,bL K H aO [.int 1,.int 1])(My:mg "ONE"=some (.ref aO))(D:Def K mg "rest_of" yq ["F","load"])(a_:mg "len"=none)(MP:bJ P w K mg base (a9 P w) 1 C "pins" ["self"] (fO K C))
  (X1:Fn P w K mg base (a9 P w) 38 "draw_rows" ["F"] (iN K C)) (X2:Fn P w K mg base (a9 P w) 3 "load_row" ["F","load"] (j0 K C)) (X3:Fn P w K mg base (a9 P w) 37 "solve_rows" ["rows","due","many"] (qL K)) (X4:Fn P w K mg base (a9 P w) 2 "motion_from" ["F","numbers"] (m4 K C)) (X5:Fn P w K mg base (a9 P w) 3 "pulls_and_pushes" ["F","numbers"] (Mv K C)):
  Fn P w K mg base (a9 P w) 39 "rest_of" ["F","load"] (qT K C):=by
 refine D.ok pH (fun vs H Q E h=> ?_) (fun f bF A outer s H vs Q E hr h=> ?_)
 ·obtain ⟨a,d,pins,ao,kvs,L,rfl,_⟩:=h
  rfl
 obtain ⟨a,d,pins,ao,kvs,L,rfl,R,g,lp5,hd,hP,zl,hk,q1,q2⟩:=h
 have gl:=g.lp
 have gb:=g.lb
 have big:(100:Nat)≤sizeLine:=by decide
 have wl:cv pins≤2*pins.length:=mW pins g.lw
 have ql:=zi pins ao
 have XE:pins.length≤100:=by omega
 refine ⟨_,(ae (aC (i:=2) pH.nd rfl (ab_ rfl) (aA X1 hr.mo (pY P w) (aq (pv 0) aa)))
  (ae (aC (i:=3) pH.nd rfl (ab_ rfl) (aI iF (pv 2) (bR (aq (aA X2 hr.mo (pY P w) (aq (pv 0) (aq (pv 1) aa))) aa))))
  (ae (aC (i:=4) pH.nd rfl (ab_ rfl) (aI iF (aI AO (bR (aq (gZ (v:=.ref aN) rfl ze rfl) aa)) (aR aJ rfl a_ bW (aq (pv 2) aa))) (bR (aq (gZ (v:=.ref aO) rfl My rfl) aa))))
  (ae (aC (i:=5) pH.nd rfl (ab_ rfl) (aA X3 hr.mo (pY P w) (aq (pv 3) (aq (pv 4) (aq (aI cf af (aR aJ rfl a_ bW (aq (dF (k:=1) (pv 0) hr.mo (pY P w)) aa))) aa)))))
  (ae (bg (aQ cN (aS (pv 5)) dz (aT _)) (ah (aF (aZ (aq dz (aq (aA X4 hr.mo (pY P w) (aq (pv 0) (aq (aS (pv 5)) aa))) aa))))) aL)
  (ae (aC (i:=6) pH.nd rfl (ab_ rfl) (aA X5 hr.mo (pY P w) (aq (pv 0) (aq (dj eG (aS (pv 5)) eE (dD (aR aJ rfl a_ bW (aq (pv 2) aa)))) aa))))
  (ah (aF (aZ (aq dz (aq (aS (pv 6)) (aq (aS (pv 6)) aa)))))))))))),?_⟩
 refine ⟨_,rfl,a,pins,ao,rfl,R,g,fun r ls cw H1 s1 nr RR=> ?_⟩
 refine ⟨_,rfl,_,rfl,_,rfl,a,d,pins,ao,kvs,L,rfl,R.same s1,XE,s1 _ _ hd,hP.same s1,hk,fun l us H2 s2 nl el nm=>⟨(by show 1≤sizeLine;decide),?_⟩⟩
 intro l1 n3;generalize eX:upd _ l1 _=H3;have ⟨s3,e3⟩:=nw n3 eX;clear eX
 have X6:=RR.same (s2.trans s3)
 have NQ:ls.length=(dO pins ao).length:=by rw [RR.km.2.1,RR.num.1]
 have lq:(dO pins ao).length≤32:=by
  have:(dO pins ao).length=cv pins+ao.length:=ql
  omega
 refine ⟨r,l1,_,_,rfl,rfl,X6.km.1,e3,(by rw [aa_];show ls.length+1≤sizeLine;omega),?_⟩
 intro r2 n4;generalize eX:upd _ r2 _=H4;have ⟨s4,e4⟩:=nw n4 eX;clear eX
 have QT:=s3.trans s4
 refine ⟨(by show 1≤sizeLine;decide),?_⟩
 intro l5 n5;generalize eX:upd _ l5 _=H5;have ⟨s5,e5⟩:=nw n5 eX;clear eX
 have RR5:=(X6.same s4).same s5
 refine ⟨_,rfl,r,_,rfl,.inl (aU.of RR5.km.1),l5,_,_,rfl,rfl,e5,by omega,(by rw [aa_];omega),(by rw [aa_];simp;omega),?_⟩
 intro l6 n6;generalize eX:upd _ l6 _=H6;have ⟨s6,e6⟩:=nw n6 eX;clear eX
 refine ⟨(by show 1≤sizeLine;decide),?_⟩
 intro l7 n7;generalize eX:upd _ l7 _=H7;have ⟨s7,e7⟩:=nw n7 eX;clear eX
 have X7:(aeW (((ls.map V.ref).length:Nat):Int).toNat [V.ref aN]).flatten=aeW ls.length (V.ref aN):=by simp
 rw [X7] at e6
 refine ⟨l6,l7,_,_,rfl,rfl,s7 _ _ e6,e7,(by rw [afF];show ls.length+1≤sizeLine;omega),?_⟩
 intro l8 n8;generalize eX:upd _ l8 _=H8;have ⟨s8,e8⟩:=nw n8 eX;clear eX
 have NR:=(s5.trans s6).trans (s7.trans s8)
 have s28:=QT.trans NR
 have s18:=s2.trans s28
 have QO:=s1.trans s18
 have R8:=R.same QO
 obtain ⟨dx,pP,pW,pB,kP,kW,kB,F8,W8⟩:=R8.ex
 have c2:sj 2 ((pins.length:Nat):Int):=⟨by decide+kernel,ad_ (intBits_le_64 (by omega) (by omega)) (by decide)⟩
 refine ⟨_,rfl,_,rfl,_,rfl,a,C,dx,_,_,_,rfl,F8.obj,rfl,MP,a,dx,pP,pW,pB,_,_,kP,kW,kB,rfl,F8,fun lp H9 s9 vq rO=> ?_⟩
 rw [fM] at rO
 refine ⟨lp,_,rfl,.inl (aU.of rO),_,_,rfl,rfl,(by rw [aa_,aa_];exact c2),?_⟩
 have s89:=s8.trans s9
 have IT:gG K H9 r2 (ls++[l]) (cw++[us]) (dO pins ao++[dc L pins]):=by
  have NS:=s28.trans s9
  have RRx:=(RR.same s2).same NS
  refine ⟨⟨?_,by simp [RR.km.2.1],wK RR.km.2.1 RRx.km.2.2 (NS _ _ el)⟩,mU RRx.num (nm.same NS),fun z=> ?_⟩
  ·rw [(NR.trans s9) _ _ e4,aeR]
   rfl
  ·rcases aeM.mp z with z | z
   ·obtain ⟨i,ei⟩:=aeK z
    have hi:=(be.mp ei).1
    have:=X6.km.2.2 i r2 _ ei (gE (by rw [← RR.km.2.1];exact hi))
    rw [this] at n4
    cases n4
   ·rw [aeH.mp z,s3 _ _ el] at n4
    cases n4
 have em:(2:Int)*((((pins.map (·.nm)).map V.str).length:Nat):Int)=((2*pins.length:Nat):Int):=by rw [aa_,aa_];omega
 have nds:cX K H9 (aeW ls.length (V.ref aN)++[V.ref aO]) (aeW ls.length (0,1)++[(1,1)]):=by
  refine cX.snoc ⟨by simp,fun i u q e1 e2=> ?_⟩ ⟨aO,rfl,hO _⟩
  rw [afr] at e1 e2
  split at e1
  ·rename_i c
   rw [if_pos c] at e2
   cases e1
   cases e2
   exact ⟨aN,rfl,hN _⟩
  ·cases e1
 have sh:Shape 1000 1000 (2*pins.length) (dO pins ao++[dc L pins]):=fun qs hq=>by
  rcases aeM.mp hq with h | h
  ·exact ⟨(m7 g qs h).1,fun q hq=>X0 ((m7 g qs h).2 q hq) (by decide) (by decide)⟩
  ·rw [aeH.mp h]
   exact ⟨gT _ _,DK (fun x=>⟨(zl x).1,(zl x).2⟩) pins⟩
 have Mz:Sm 1000 1000 ((0,1):Int×Int):=⟨by decide,by decide,by decide+kernel,by decide+kernel⟩
 have vZ:Sm 1000 1000 ((1,1):Int×Int):=⟨by decide,by decide,by decide+kernel,by decide+kernel⟩
 have e89:=s9 _ _ e8
 refine ⟨r2,l8,2*pins.length,ls++[l],cw++[us],dO pins ao++[dc L pins],_,aeW ls.length (0,1)++[(1,1)],1000,1000,bb (1000+1000*(2*pins.length+1)) (2*pins.length+1),(by rw [← em];rfl),IT.km,IT.num,e89,nds,by simp [NQ],sh,fun q hq=> ?_,by omega,by simp;omega,by decide,by omega,by decide,qH _ (Nat.min_le_left _ _),DI lp5,?_,?_⟩
 ·rcases aeM.mp hq with h | h
  ·rw [(List.mem_replicate.mp h).2]
   exact Mz
  ·rw [aeH.mp h]
   exact vZ
 ·intro p x ki xs HA sA ep ex nx lx zx hx
  refine ⟨_,rfl,p,_,_,_,rfl,rfl,bL.of ep,rfl,rfl,_,rfl,?_⟩
  refine bf (fun _=> ?_) (fun c=>absurd (by simp [i5]) c)
  have QU:=(QO.trans s9).trans sA
  have Ky :=m8 nx zx
  refine ⟨_,rfl,_,rfl,p,_,_,_,rfl,rfl,bL.of ep,rfl,a,x,pins,ao,ki,xs.map vl,rfl,R.same QU,g,ex,Ky,by rw [aa_];exact lx,fun M dM kM HB sB eM nM hM ks tM=>⟨(by show 2≤sizeLine;decide),?_⟩⟩
  intro pt nC;generalize eX:upd _ pt _=HC;have ⟨sC,eC⟩:=nw nC eX;clear eX
  have sBC:=QU.trans (sB.trans sC)
  have row:∀(i:Nat) (F:Str→Option (Rat×Rat)) (dd:Int×Int),(dO pins ao++[dc L pins])[i]? =some (dc F pins)→(aeW ls.length ((0,1):Int×Int)++[(1,1)])[i]? =some dd→(pins.map fun p=>dt (mv F p.nm) (M p.nm)).sum=vl dd:=fun i F dd h1 h2=>by
   have:=hx i _ dd h1 h2
   rw [lD,eM,wO] at this
   exact this
  have v0:vl ((0,1):Int×Int)=0:=by decide+kernel
  have v1:vl ((1,1):Int×Int)=1:=by decide+kernel
  have draw:∀F,dc F pins∈dO pins ao→(pins.map fun p=>dt (mv F p.nm) (M p.nm)).sum=0:=fun F hF=>by
   obtain ⟨i,ei⟩:=aeK hF
   have hi:=(be.mp ei).1
   rw [← v0]
   refine row i F (0,1) (by rw [aeL hi];exact ei) ?_
   rw [aeL (by rw [afF,NQ];exact hi),afr,if_pos (by rw [NQ];exact hi)]
  refine q1 M pt dM kM HC sBC eC ⟨(QU).free nM,sC _ _ hM,ks,fun p hp=> ?_⟩ ⟨fun p hp w hw=> ?_,fun b hb=> ?_⟩ ?_ fun p hp=> ?_
  ·obtain ⟨t,v1,v2,h1,h2,h3,h4⟩:=tM p hp
   exact ⟨t,v1,v2,h1,sC _ _ h2,h3.same sC,h4.same sC⟩
  ·rw [← qR g.np hp w M]
   refine draw _ ?_
   unfold dO mT
   exact ae_ _ (afA.mpr ⟨p,hp,abt.mpr ⟨w,hw,rfl⟩⟩)
  ·obtain ⟨m1,m2,m3⟩:=g.ends b hb
   have:=draw (du b) (by unfold dO;exact ae7 _ (abt.mpr ⟨b,hb,rfl⟩))
   rw [wQ g.np b m1 m2 m3] at this
   grind
  ·unfold iz
   rw [← v1]
   refine row (dO pins ao).length L (1,1) (by simp) ?_
   rw [← NQ]
   simp
  ·have mem:∀r∈xs.map vl,Zb (zL pins.length) r:=fun r hr=>by
    obtain ⟨q,hq,rfl⟩:=abt.mp hr
    exact KI (m:=0) (zx q hq) (aoC _ _) (aoC _ _)
   rw [eM] at mem
   exact ⟨mem _ (afA.mpr ⟨p,hp,aeI⟩),mem _ (afA.mpr ⟨p,hp,aeF _ aeI⟩)⟩
 ·intro p y ki ys HA sA ep ey ny ly zy y8 hy1
  refine ⟨_,rfl,p,_,_,_,rfl,rfl,bL.of ep,rfl,rfl,_,rfl,?_⟩
  refine bf (fun c=>absurd c (by simp [i5];decide+kernel)) (fun _=> ?_)
  have QU:=(QO.trans s9).trans sA
  have e0A:=(s18.trans s9).trans sA
  have py:=m8 ny zy
  have lys:ys.length=ls.length+1:=by rw [ly,NQ];simp
  have lus:ki.length=ls.length+1:=by rw [ny.1,lys]
  have rA:HA r=some (.lst (ls.map V.ref)):=e0A _ _ RR.km.1
  refine ⟨_,rfl,_,rfl,p,_,_,_,rfl,rfl,bL.of ep,rfl,_,rfl,r,_,rfl,.inl (aU.of rA),_,rfl,y,_,rfl,aU.of ey,?_⟩
  rw [aa_,lj (show ls.length≤ki.length by omega)]
  intro l9 nB;generalize eX:upd _ l9 _=HB;have ⟨sB,eB⟩:=nw nB eX;clear eX
  have pyB:Paired (eQ K HB) (ki.take ls.length) ((ys.map vl).take ls.length):=Paired.bZ (gx ls.length py) fun _ _ z=>z.same sB
  have QV:=QU.trans sB
  refine ⟨a,l9,pins,ao,_,_,rfl,R.same QV,g,eB,pyB,?_,fun T U Lx pf dT dU kT kU HC sC er epf PR=> ?_⟩
  ·rw [ae2,aa_,lys,NQ,ql]
   unfold cv
   omega
  refine ⟨_,rfl,pf,_,_,_,rfl,rfl,bL.of epf,rfl,_,rfl,pf,_,_,_,rfl,rfl,bL.of epf,rfl,(by show 3≤sizeLine;decide),?_⟩
  intro pt nD;generalize eX:upd _ pt _=HD;have ⟨sD,eD⟩:=nw nD eX;clear eX
  have sx:=QV.trans (sC.trans sD)
  obtain ⟨yl,eyl⟩:∃yl,(ys.map vl)=(ys.map vl).take ls.length++[yl]:=by
   have hl:ls.length < (ys.map vl).length:=by rw [aa_];omega
   refine ⟨(ys.map vl)[ls.length],?_⟩
   have:=afN (l:=ys.map vl) (i:=ls.length)
   rw [gE hl,afu (by rw [aa_];omega)] at this
   exact this
  have v0:vl ((0,1):Int×Int)=0:=by decide+kernel
  have v1:vl ((1,1):Int×Int)=1:=by decide+kernel
  have ly1:yl=1:=by
   rw [lD,eyl,aeR,iP _ _ (by rw [ae2,aa_,aa_,afF];omega),List.map_replicate,v0] at hy1
   have ez:aeW ls.length (0:Rat)=(aeW ls.length ()).map fun _=>(0:Rat):=by simp
   rw [ez,lE,ac_,afh,dI,gA,v1] at hy1
   grind
  have rest:fP pins ao T U L:=fun p hp=>by
   obtain ⟨k,ek⟩:=aeK hp
   have hk:=(be.mp ek).1
   have one:∀(j:Nat) (c:Rat×Rat→Rat),j < 2*pins.length→c (0,0)=0→(∀F,vl ((dc F pins).getD j (0,1))=c (mv F p.nm))→dX ao T U p c+c (mv L p.nm)=0:=fun j c hj c0 hc=>by
    have:=y8 j hj
    rw [lD,zq pins ao L ek j c hc,eyl,er,ly1,IX c0 g.np PR.lU hp] at this
    grind
   exact ⟨one (2*k) (·.1) (by omega) rfl fun F=>(qS F ek).1,one (2*k+1) (·.2) (by omega) rfl fun F=>(qS F ek).2⟩
  have mem:∀r∈(ys.map vl).take ls.length,Zb (zL pins.length) r:=fun r hr=>by
   obtain ⟨q,hq,rfl⟩:=abt.mp (aoY hr)
   exact KI (m:=0) (zy q hq) (by unfold zL;omega) (aoC _ _)
  rw [er] at mem
  refine q2 T U Lx pt dT dU kT kU HD sx eD ⟨QV.free PR.nT,QV.free PR.nU,PR.ne,sD _ _ PR.hT,sD _ _ PR.hU,PR.zk,PR.zo,fun b hb=> ?_,fun p hp=> ?_,PR.lU,PR.inj⟩ rest (fun b hb=>mem _ (ae7 _ (abt.mpr ⟨b,hb,rfl⟩))) fun p hp u hu=>mem _ (ae_ _ (afA.mpr ⟨p,hp,hu⟩))
  ·obtain ⟨v,h1,h2⟩:=PR.tT b hb
   exact ⟨v,h1,h2.same sD⟩
  ·obtain ⟨vs,h1,h2,h3,h4⟩:=PR.tU p hp
   exact ⟨vs,h1,QV.free h2,sD _ _ h3,Paired.bZ h4 fun _ _ z=>z.same sD⟩
theorem fe {α:Type}{l:List α}(h:l.Nodup){i j:Nat}{x:α}(hi:l[i]? =some x)(hj:l[j]? =some x):i=j:=by
 obtain ⟨i1,i2⟩:=be.mp hi
 obtain ⟨j1,j2⟩:=be.mp hj
 exact (apk h).mp (i2.trans j2.symm)
theorem e_ {α:Type}{R:V→α→Prop}:∀{us:List V} {zs:List α},us.length=zs.length→(∀(i:Nat) (u:V),us[i]? =some u→∃z,zs[i]? =some z∧R u z)→Paired R us zs
 | [],[],_,_=>.nil
 | u::us,z::zs,l,h=>by
  obtain ⟨z',e,hz⟩:=h 0 u rfl
  cases e
  exact .cons hz (e_ (by simpa using l) fun i u e=>h (i+1) u (by simpa using e))
theorem m9 {α β:Type}(f:α→β→Rat)(bs:List β):∀as:List α,(as.map fun a=>(bs.map fun b=>f a b).sum).sum=(bs.map fun b=>(as.map fun a=>f a b).sum).sum
 | []=>by
  induction bs with
  | nil=>rfl
  | cons b bs ih=>
   rw [ac_,ae5, ← ih]
   simp only [afh,afQ]
   grind
 | a::as=>by
  rw [ac_,ae5,m9 f bs as]
  clear m9
  induction bs with
  | nil=>
   simp only [afh,afQ]
   grind
  | cons b bs ih=>
   simp only [ac_,ae5] at ih ⊢
   grind
theorem qU {α:Type}(t:Rat)(f:α→Rat):∀l:List α,(l.map fun a=>t*f a).sum=t*(l.map f).sum
 | []=>by
  simp only [afh,afQ]
  grind
 | a::l=>by
  rw [ac_,ae5,ac_,ae5,qU t f l]
  grind
theorem sum_neg {α:Type}(f:α→Rat):∀l:List α,(l.map fun a=> -(f a)).sum= -(l.map f).sum
 | []=>by
  simp only [afh,afQ]
  grind
 | a::l=>by
  rw [ac_,ae5,ac_,ae5,sum_neg f l]
  grind
theorem KJ (m:Rat×Rat):∀(us:List Rat) (ws:List (Rat×Rat)),sP us (ws.map (·.1))*m.1+sP us (ws.map (·.2))*m.2=sP us (ws.map fun w=>dt w m)
 | [],_=>by
  simp only [gA]
  grind
 | _::_,[]=>by
  simp [sP]
  grind
 | u::us,w::ws=>by
  have ih:=KJ m us ws
  simp only [ac_,dI]
  unfold dt at ih ⊢
  grind
theorem wW (T:Str→Rat)(p:aH)(m:Rat×Rat):∀ao:List bq,(ao.map fun b=>T b.nm*(mv (du b) p.nm).1).sum*m.1+(ao.map fun b=>T b.nm*(mv (du b) p.nm).2).sum*m.2=(ao.map fun b=>T b.nm*dt (mv (du b) p.nm) m).sum
 | []=>by
  simp only [afh,afQ]
  grind
 | b::ao=>by
  have ih:=wW T p m ao
  simp only [ac_,ae5]
  unfold dt at ih ⊢
  grind
theorem IY {ws:List (Rat×Rat)}{m:Rat×Rat}(us:List Rat)(h:∀w∈ws,dt w m=0):sP us (ws.map fun w=>dt w m)=0:=by
 have:(ws.map fun w=>dt w m)=ws.map fun _=>(0:Rat):=ae3 h
 rw [this]
 exact lE us ws
theorem X8 {pins:List aH}{ao:List bq}(g:fq pins ao){T:Str→Rat}{U:Str→List Rat}{L:Str→Option (Rat×Rat)}(h:fP pins ao T U L){M:Str→Rat×Rat}(hw:∀p∈pins,∀w∈p.ws,dt w (M p.nm)=0):iz pins L M=(ao.map fun b=>T b.nm*vw M b).sum:=by
 have e1:∀p∈pins,dt (mv L p.nm) (M p.nm)= -((ao.map fun b=>T b.nm*dt (mv (du b) p.nm) (M p.nm)).sum):=fun p hp=>by
  obtain ⟨r1,r2⟩:=h p hp
  unfold dX at r1 r2
  have a:=KJ (M p.nm) (U p.nm) p.ws
  rw [IY _ (hw p hp)] at a
  have b:=wW T p (M p.nm) ao
  rw [← b]
  unfold dt
  grind
 unfold iz
 rw [ae3 e1,sum_neg,m9 (fun (p:aH) (b:bq)=>T b.nm*dt (mv (du b) p.nm) (M p.nm)) ao pins]
 have e2:∀b∈ao,(pins.map fun p=>T b.nm*dt (mv (du b) p.nm) (M p.nm)).sum= -(T b.nm*vw M b):=fun b hb=>by
  obtain ⟨m1,m2,m3⟩:=g.ends b hb
  rw [qU (T b.nm) (fun p:aH=>dt (mv (du b) p.nm) (M p.nm)) pins,wQ g.np b m1 m2 m3]
  grind
 rw [ae3 e2,sum_neg]
 grind
theorem DL {pins:List aH}{ao:List bq}(g:fq pins ao){T:Str→Rat}{U:Str→List Rat}{L:Str→Option (Rat×Rat)}(h:fP pins ao T U L){M:Str→Rat×Rat}(mo:m5 pins ao M)(w:iz pins L M=1):False:=by
 have e:=X8 g h mo.QQ
 have:(ao.map fun b=>T b.nm*vw M b)=ao.map fun b=>0*T b.nm:=ae3 fun b hb=>by
  rw [mo.ao b hb]
  grind
 rw [this,qU 0 (fun b:bq=>T b.nm)] at e
 grind
def cell (ns:List Int)(k:Int):Int:=if k < (ns.length:Int) then (ns[k.toNat]?).getD 0 else ((((k+5)*(k+5)*48271).fmod 2147483647)*(((k+5)*(k+5)*48271).fmod 2147483647)).fmod 2147483629
theorem gB {x m:Int}(h:0 < m):0≤x.fmod m∧x.fmod m < m:=⟨afX x h,agz x h⟩
inductive iR (K:Frag)(vs:List V)(H:Hp)(Q:VK)(E_:XK):Prop where
 | mk (a:Addr) (ns:List Int) (k:Int) (_:vs=[.ref a,.int k]) (_:aU K H a (ns.map V.int)) (_:0≤k) (_:k≤1000) (_:Q (.int (cell ns k)) H):iR K vs H Q E_
theorem cell_in {ns:List Int}{k:Int}(h0:0≤k)(h:k < (ns.length:Int)):fN (ns.map V.int) k=some (.int (cell ns k)):=by
 have hk:k.toNat < ns.length:=by omega
 have ek:k=((k.toNat:Nat):Int):=by omega
 have q:fN (ns.map V.int) ((k.toNat:Nat):Int)=some (.int (cell ns k)):=bG (by
  unfold cell
  rw [if_pos h,Wp,gE hk]
  rfl)
 rw [← ek] at q
 exact q
theorem gC {i:Int}{k:Nat}(h:i.natAbs < 2^k):intBits i≤k:=intBits_le_iff.mpr h
theorem zu {ns:List Int}(hb:∀i∈ns,intBits i≤1048576)(k:Int):intBits (cell ns k)≤1048576:=by
 unfold cell
 split
 ·cases e:ns[k.toNat]? with
  | none=>exact intBits_le_iff.mpr (by show 0 < 2^1048576;exact aoN _)
  | some v=>exact hb v (ir e)
 ·have:=gB (x:=((((k+5)*(k+5)*48271).fmod 2147483647)*(((k+5)*(k+5)*48271).fmod 2147483647))) (m:=2147483629) (by decide)
  exact ad_ (gC (k:=40) (by show _ < 1099511627776;omega)) (by decide)
theorem KN:aG ["_law_script","_law_k","_law_part"] ["_law_script","_law_k"] (ag yr):=sq
theorem QW (D:Def K mg "_law_cell_at" yr ["_law_script","_law_k"])(a_:mg "len"=none):Fn P w K mg base CX 1 "_law_cell_at" ["_law_script","_law_k"] (iR K):=by
 refine D.ok KN (fun vs H Q E h=> ?_) (fun f bF A outer s H vs Q E hr h=> ?_)
 ·obtain ⟨a,ns,k,rfl,_⟩:=h
  rfl
 obtain ⟨a,ns,k,rfl,hS,h0,h1,q⟩:=h
 refine ⟨_,(ae (bg (aQ oG (pv 1) (aR aJ rfl a_ bW (aq (pv 0) aa)) (aT _)) (ah (aF (aY aX (pv 0) (pv 1) (fun _ _=>rfl)))) aL)
  (ae (aC (i:=2) KN.nd rfl (ab_ rfl) (aI dE (aI cf (aI cf (aI bH (pv 1) af) (aI bH (pv 1) af)) af) af))
  (ah (aF (aI dE (aI cf (pv 2) (pv 2)) af))))),?_⟩
 have hl:(ns.map V.int).length=ns.length:=aa_ _
 refine ⟨_,rfl,_,rfl,a,_,rfl,.inl hS,_,_,rfl,rfl,_,rfl,?_⟩
 refine bf (fun c=> ?_) (fun c=> ?_)
 ·have c' :k < (((ns.map V.int).length:Nat):Int):=of_decide_eq_true c
  rw [hl] at c'
  exact ⟨_,rfl,_,rfl,a,_,k,_,rfl,rfl,hS,cell_in h0 c',q⟩
 ·have c' :¬ k < (((ns.map V.int).length:Nat):Int):=of_decide_eq_false (agi.mpr c)
  rw [hl] at c'
  have b5:intBits (k+5)≤11:=gC (by show _ < 2048;omega)
  have e1:=gB (x:=(k+5)*(k+5)*48271) (m:=2147483647) (by decide)
  have bp:intBits (((k+5)*(k+5)*48271).fmod 2147483647)≤31:=gC (by show _ < 2147483648;omega)
  refine ⟨_,rfl,_,_,rfl,rfl,_,rfl,_,_,rfl,rfl,_,_,rfl,rfl,⟨ad_ b5 (by decide),ad_ b5 (by decide)⟩,?_⟩
  refine ⟨_,_,rfl,rfl,⟨ad_ (intBits_mul_le b5 b5) (by decide),by decide+kernel⟩,_,_,rfl,rfl,nz (by decide),?_⟩
  refine ⟨_,rfl,_,rfl,_,_,rfl,rfl,⟨ad_ bp (by decide),ad_ bp (by decide)⟩,_,_,rfl,rfl,nz (by decide),?_⟩
  have e:cell ns k=((((k+5)*(k+5)*48271).fmod 2147483647)*(((k+5)*(k+5)*48271).fmod 2147483647)).fmod 2147483629:=by
   unfold cell
   rw [if_neg c']
  rw [e] at q
  exact q
def field (c p m:Int):Int:=(((c.fmod p+11)*48271).fmod p).fmod m
theorem ba {c p m:Int}(h:0 < m):0≤field c p m∧field c p m < m:=gB h
inductive dZ (vs:List V)(H:Hp)(Q:VK)(E_:XK):Prop where
 | mk (c p m:Int) (_:vs=[.int c,.int p,.int m]) (_:0 < p) (_:p≤2000000) (_:0 < m) (_:Q (.int (field c p m)) H):dZ vs H Q E_
theorem QX:aG ["_law_cell","_law_prime","_law_many"] ["_law_cell","_law_prime","_law_many"] (ag yt):=sq
theorem QY (D:Def K mg "_law_field" yt ["_law_cell","_law_prime","_law_many"]):Fn P w K mg base CX 1 "_law_field" ["_law_cell","_law_prime","_law_many"] dZ:=by
 refine D.ok QX (fun vs H Q E h=> ?_) (fun f bF A outer s H vs Q E hr h=> ?_)
 ·obtain ⟨c,p,m,rfl,_⟩:=h
  rfl
 obtain ⟨c,p,m,rfl,hp,Kq,hm,q⟩:=h
 refine ⟨_,(ah (aF (aI dE (aI dE (aI cf (aI bH (aI dE (pv 0) (pv 1)) af) af) (pv 1)) (pv 2)))),?_⟩
 have e1:=gB (x:=c) hp
 refine ⟨_,rfl,_,rfl,_,_,rfl,rfl,nz (by omega),_,_,rfl,rfl,_,_,rfl,rfl,⟨ad_ (gC (k:=22) (by show _ < 4194304;omega)) (by decide),by decide+kernel⟩,?_⟩
 exact ⟨_,rfl,_,_,rfl,rfl,nz (by omega),_,rfl,_,_,rfl,rfl,nz (by omega),q⟩
inductive cA (vs:List V)(H:Hp)(Q:VK)(E_:XK):Prop where
 | mk (t b:Int) (_:vs=[.int t,.int b]) (_:0 < b) (_:gives H Q (low t b)):cA vs H Q E_
theorem wX:aG ["_law_top","_law_bottom","_law_one","_law_other"] ["_law_top","_law_bottom"] (ag yu):=sq
theorem QZ (ht:P.given.tree=none)(D:Def K mg "_law_lowest" yu ["_law_top","_law_bottom"])(pD:mg "abs"=none):Fn P w K mg base (a9 P w) 33 "_law_lowest" ["_law_top","_law_bottom"] cA:=by
 refine D.ok wX (fun vs H Q E h=> ?_) (fun f bF A outer s H vs Q E hr h=> ?_)
 ·obtain ⟨t,b,rfl,_⟩:=h
  rfl
 obtain ⟨t,b,rfl,hb,q⟩:=h
 refine ⟨_,(ae (aC (i:=2) wX.nd rfl (ab_ rfl) (aR rX rfl pD Ke (aq (pv 0) aa)))
  (ae (aC (i:=3) wX.nd rfl (ab_ rfl) (pv 1))
  (ae (lO PassesOwn.never (aQ fG (pv 3) af (aT _)) (ah (Li (i:=2) (j:=3) rfl wX.nd rfl rfl (by decide) rfl rfl (aq (pv 3) (aq (aI dE (pv 2) (pv 3)) aa)) rfl)))
  (ah (aF (aZ (aq (aI (fm ht (Ty.cy.py hr (by decide)) rfl rfl rfl rfl rfl) (pv 0) (pv 2)) (aq (aI (fm ht (Ty.cy.py hr (by decide)) rfl rfl rfl rfl rfl) (pv 1) (pv 2)) aa)))))))),?_⟩
 refine ⟨_,rfl,t,rfl,?_⟩
 refine ⟨_,rfl,?_⟩
 refine rW (fun σ H' =>∃x y:Int,σ=[some (.int t),some (.int b),some (.int x),some (.int y)]∧H' =H∧0≤x∧0≤y∧afi x y=afi t b) (fun σ _=>match σ with | [_,_,_,some (.int y)]=>y.natAbs | _=>0) ⟨_,b,rfl,rfl,?_,by omega,?_⟩ ?_ ?_
 ·split <;> omega
 ·split
  ·exact Int.neg_gcd
  ·rfl
 ·rintro σ H' ⟨x,y,rfl,rfl,hx,hy,g⟩
  refine ⟨_,rfl,rfl,_,rfl,?_⟩
  refine bf (fun c=> ?_) (fun c=> ?_)
  ·have y8:y≠0:=by
    intro z
    subst z
    simp at c
   refine ⟨_,rfl,_,rfl,_,rfl,_,_,rfl,rfl,y8,_,_,rfl,?_⟩
   exact ⟨⟨_,_,rfl,rfl,hy,afX _ (by omega),by rw [sf];exact g⟩,oN y8⟩
  ·have y8:y=0:=by
    have:=agi.mpr c
    simp at this
    exact this
   subst y8
   have e:x=sg t b:=by
    rw [ao8] at g
    unfold sg
    rw [if_neg (by omega)]
    unfold gz
    rw [← g]
    omega
   subst e
   have hbn:b≠0:=by omega
   have c:=lX (t:=t) hbn
   refine ⟨_,rfl,_,rfl,_,_,rfl,rfl,c,_,rfl,_,rfl,_,_,rfl,rfl,c,(by show 2≤sizeLine;decide),fun p hp=> ?_⟩
   exact q p _ (aK hp _) ak
 ·rintro σ H' Q1 Q2 h ⟨v,e1,e2,k,ek,z⟩
  exact ⟨v,e1,e2,k,ek,h _ _ z⟩
structure Ns (n:Nat)(q:Int×Int):Prop where
 top:q.1.natAbs≤2^n
 bot:q.2.natAbs≤2^n
theorem Ns.up {m n:Nat}{q:Int×Int}(h:Ns m q)(l:m≤n):Ns n q:=⟨ad_ h.top (ae0 (by decide) l),ad_ h.bot (ae0 (by decide) l)⟩
def fQ (K:Frag)(H:Hp)(v:V)(n:Nat)(r:Rat):Prop:=∃q:Int×Int,j_ K H v q∧0 < q.2∧vl q=r∧Ns n q
theorem fQ.same {H H' :Hp}{v:V}{n:Nat}{r:Rat}(h:fQ K H v n r)(s:av H H'):fQ K H' v n r:=by
 obtain ⟨q,h1,h2⟩:=h
 exact ⟨q,h1.same s,h2⟩
theorem fQ.a8 {H H' :Hp}{v:V}{n:Nat}{r:Rat}(h:fQ K H v n r)(s:bE H H'):fQ K H' v n r:=by
 obtain ⟨q,h1,h2⟩:=h
 exact ⟨q,h1.a8 s,h2⟩
theorem fQ.up {H:Hp}{v:V}{m n:Nat}{r:Rat}(h:fQ K H v m r)(l:m≤n):fQ K H v n r:=by
 obtain ⟨q,h1,h2,h3,h4⟩:=h
 exact ⟨q,h1,h2,h3,h4.up l⟩
theorem de {H:Hp}{v:V}{n:Nat}{r:Rat}(h:eQ K H v r)(z:Zb n r):fQ K H v n r:=⟨qr r,h,cz r,eA r,⟨z.top,z.bot⟩⟩
theorem kq {k n:Nat}{r:Rat}(h:Sz k r)(l:k≤n):Zb n r:=⟨afl (aeT (intBits_le_iff.mp h.top) (ae0 (by decide) l)),afl (aeT (intBits_le_iff.mp h.bot) (ae0 (by decide) l))⟩
theorem qV {q:Int×Int}(h:0 < q.2):q.1=0 ↔ vl q=0:=by
 unfold vl
 have z:((q.2:Int):Rat)≠0:=cG (afd h)
 constructor
 ·intro e
  rw [e]
  have:((0:Int):Rat)=0:=by rfl
  rw [this]
  grind
 ·intro e
  apply afy
  intro n
  have y:((q.1:Int):Rat)≠0:=cG n
  exact (by grind:¬ ((q.1:Int):Rat) / ((q.2:Int):Rat)=0) e
theorem MA {q:Int×Int}(h:0 < q.2):q.1=q.2 ↔ vl q=1:=by
 unfold vl
 have z:((q.2:Int):Rat)≠0:=cG (afd h)
 constructor
 ·intro e
  rw [e]
  grind
 ·intro e
  have:((q.1:Int):Rat)=((q.2:Int):Rat):=by grind
  exact af'.mp this
def fB (x y:Int×Int):Int×Int:=(x.1*y.2+y.1*x.2,x.2*y.2)
def j3 (x y:Int×Int):Int×Int:=(x.1*y.1,x.2*y.2)
theorem d_ {a b:Int}{m n:Nat}(h1:a.natAbs≤2^m)(h2:b.natAbs≤2^n):(a*b).natAbs≤2^(m+n):=by
 rw [afB,ags]
 exact afn h1 h2
theorem IZ {x y:Int×Int}{m n:Nat}(hx:0 < x.2)(hy:0 < y.2)(zx:Ns m x)(zy:Ns n y):0 < (fB x y).2∧vl (fB x y)=vl x+vl y∧Ns (m+n+1) (fB x y):=by
 refine ⟨afM hx hy,?_,?_,?_⟩
 ·unfold vl fB
  have z1:((x.2:Int):Rat)≠0:=cG (afd hx)
  have z2:((y.2:Int):Rat)≠0:=cG (afd hy)
  push_cast
  grind
 ·have h1:=d_ zx.top zy.bot
  have h2:=d_ zy.top zx.bot
  rw [aoF n m] at h2
  have h3:=af6 (x.1*y.2) (y.1*x.2)
  show (x.1*y.2+y.1*x.2).natAbs≤2^(m+n+1)
  rw [age]
  omega
 ·exact ad_ (d_ zx.bot zy.bot) (ae0 (by decide) (by omega))
theorem I_ {x y:Int×Int}{m n:Nat}(hx:0 < x.2)(hy:0 < y.2)(zx:Ns m x)(zy:Ns n y):0 < (j3 x y).2∧vl (j3 x y)=vl x*vl y∧Ns (m+n) (j3 x y):=by
 refine ⟨afM hx hy,?_,d_ zx.top zy.top,d_ zx.bot zy.bot⟩
 unfold vl j3
 have z1:((x.2:Int):Rat)≠0:=cG (afd hx)
 have z2:((y.2:Int):Rat)≠0:=cG (afd hy)
 push_cast
 grind
inductive b7 (K:Frag)(f:Int×Int→Int×Int→Int×Int)(vs:List V)(H:Hp)(Q:VK)(E_:XK):Prop where
 | mk (u v:V) (x y:Int×Int) (m n:Nat) (_:vs=[u,v]) (_:j_ K H u x) (_:j_ K H v y) (_:Ns m x) (_:Ns n y) (_:m+n≤130000000) (_:gives H Q (f x y)):b7 K f vs H Q E_
theorem h_ {H:Hp}{u v:V}{m n:Nat}{x y:Rat}{Q:VK}{E:XK}(h1:fQ K H u m x)(h2:fQ K H v n y)(l:m+n≤130000000)(k:∀(p:Addr) (H' :Hp),av H H' →fQ K H' (.ref p) (m+n+1) (x+y)→Q (.ref p) H'):b7 K fB [u,v] H Q E:=by
 obtain ⟨q1,a1,a2,a3,a4⟩:=h1
 obtain ⟨q2,b1,b2,b3,b4⟩:=h2
 obtain ⟨c1,c2,c3⟩:=IZ a2 b2 a4 b4
 exact ⟨u,v,q1,q2,m,n,rfl,a1,b1,a4,b4,l,fun p H' s e=>k p H' s ⟨fB q1 q2,⟨p,rfl,bL.of e⟩,c1,by rw [c2,a3,b3],c3⟩⟩
theorem lF {H:Hp}{u v:V}{m n:Nat}{x y:Rat}{Q:VK}{E:XK}(h1:fQ K H u m x)(h2:fQ K H v n y)(l:m+n≤130000000)(k:∀(p:Addr) (H' :Hp),av H H' →fQ K H' (.ref p) (m+n) (x*y)→Q (.ref p) H'):b7 K j3 [u,v] H Q E:=by
 obtain ⟨q1,a1,a2,a3,a4⟩:=h1
 obtain ⟨q2,b1,b2,b3,b4⟩:=h2
 obtain ⟨c1,c2,c3⟩:=I_ a2 b2 a4 b4
 exact ⟨u,v,q1,q2,m,n,rfl,a1,b1,a4,b4,l,fun p H' s e=>k p H' s ⟨j3 q1 q2,⟨p,rfl,bL.of e⟩,c1,by rw [c2,a3,b3],c3⟩⟩
inductive eR (K:Frag)(vs:List V)(H:Hp)(Q:VK)(E_:XK):Prop where
 | mk (u:V) (x:Int×Int) (_:vs=[u]) (_:j_ K H u x) (_:gives H Q (0 - x.1,x.2)):eR K vs H Q E_
theorem m_ {H:Hp}{u:V}{m:Nat}{x:Rat}{Q:VK}{E:XK}(h1:fQ K H u m x)(k:∀(p:Addr) (H' :Hp),av H H' →fQ K H' (.ref p) m (-x)→Q (.ref p) H'):eR K [u] H Q E:=by
 obtain ⟨q1,a1,a2,a3,a4⟩:=h1
 refine ⟨u,q1,rfl,a1,fun p H' s e=>k p H' s ⟨(0 - q1.1,q1.2),⟨p,rfl,bL.of e⟩,a2,?_,?_,a4.bot⟩⟩
 ·rw [← a3]
  unfold vl
  push_cast
  grind
 ·have:=a4.top
  show (0 - q1.1).natAbs≤2^m
  omega
theorem Q0:aG ["_law_one","_law_other"] ["_law_one","_law_other"] (ag yv):=sq
theorem Q3 (D:Def K mg "_law_sum" yv ["_law_one","_law_other"]):Fn P w K mg base (a9 P w) 1 "_law_sum" ["_law_one","_law_other"] (b7 K fB):=by
 refine D.ok Q0 (fun vs H Q E h=> ?_) (fun f bF A outer s H vs Q E hr h=> ?_)
 ·obtain ⟨u,v,x,y,m,n,rfl,_⟩:=h
  rfl
 obtain ⟨u,v,x,y,m,n,rfl,⟨p1,rfl,h1⟩,⟨p2,rfl,h2⟩,zx,zy,l,q⟩:=h
 refine ⟨_,(ah (aF (aZ (aq (aI bH (aI g_ (aS (pv 0)) (aS (pv 1))) (aI g_ (aS (pv 1)) (aS (pv 0)))) (aq (aI g_ (aS (pv 0)) (aS (pv 1))) aa))))),?_⟩
 refine ⟨_,rfl,p1,_,_,_,rfl,rfl,h1,iI,_,rfl,p2,_,_,_,rfl,rfl,h2,iJ,_,_,rfl,rfl,f_ zx.top zy.bot (by omega),?_⟩
 refine ⟨_,rfl,p2,_,_,_,rfl,rfl,h2,iI,_,rfl,p1,_,_,_,rfl,rfl,h1,iJ,_,_,rfl,rfl,f_ zy.top zx.bot (by omega),?_⟩
 refine ⟨_,_,rfl,rfl,?_⟩
 refine ⟨_,rfl,p1,_,_,_,rfl,rfl,h1,iJ,_,rfl,p2,_,_,_,rfl,rfl,h2,iJ,_,_,rfl,rfl,f_ zx.bot zy.bot (by omega),(by show 2≤sizeLine;decide),?_⟩
 intro p3 n3;generalize eX:upd _ p3 _=H3;have ⟨s3,e3⟩:=nw n3 eX;clear eX
 exact q p3 H3 s3 e3
theorem Q4:aG ["_law_one","_law_other"] ["_law_one","_law_other"] (ag yw):=sq
theorem Q6 (D:Def K mg "_law_times" yw ["_law_one","_law_other"]):Fn P w K mg base (a9 P w) 1 "_law_times" ["_law_one","_law_other"] (b7 K j3):=by
 refine D.ok Q4 (fun vs H Q E h=> ?_) (fun f bF A outer s H vs Q E hr h=> ?_)
 ·obtain ⟨u,v,x,y,m,n,rfl,_⟩:=h
  rfl
 obtain ⟨u,v,x,y,m,n,rfl,⟨p1,rfl,h1⟩,⟨p2,rfl,h2⟩,zx,zy,l,q⟩:=h
 refine ⟨_,(ah (aF (aZ (aq (aI g_ (aS (pv 0)) (aS (pv 1))) (aq (aI g_ (aS (pv 0)) (aS (pv 1))) aa))))),?_⟩
 refine ⟨_,rfl,p1,_,_,_,rfl,rfl,h1,iI,_,rfl,p2,_,_,_,rfl,rfl,h2,iI,_,_,rfl,rfl,f_ zx.top zy.top (by omega),?_⟩
 refine ⟨_,rfl,p1,_,_,_,rfl,rfl,h1,iJ,_,rfl,p2,_,_,_,rfl,rfl,h2,iJ,_,_,rfl,rfl,f_ zx.bot zy.bot (by omega),(by show 2≤sizeLine;decide),?_⟩
 intro p3 n3;generalize eX:upd _ p3 _=H3;have ⟨s3,e3⟩:=nw n3 eX;clear eX
 exact q p3 H3 s3 e3
theorem Q7:aG ["_law_one"] ["_law_one"] (ag yx):=sq
theorem Q8 (D:Def K mg "_law_turned" yx ["_law_one"]):Fn P w K mg base (a9 P w) 1 "_law_turned" ["_law_one"] (eR K):=by
 refine D.ok Q7 (fun vs H Q E h=> ?_) (fun f bF A outer s H vs Q E hr h=> ?_)
 ·obtain ⟨u,x,rfl,_⟩:=h
  rfl
 obtain ⟨u,x,rfl,⟨p1,rfl,h1⟩,q⟩:=h
 refine ⟨_,(ah (aF (aZ (aq (aI cL af (aS (pv 0))) (aq (aS (pv 0)) aa))))),?_⟩
 refine ⟨_,rfl,p1,_,_,_,rfl,rfl,h1,iI,_,_,rfl,rfl,_,rfl,p1,_,_,_,rfl,rfl,h1,iJ,(by show 2≤sizeLine;decide),?_⟩
 intro p3 n3;generalize eX:upd _ p3 _=H3;have ⟨s3,e3⟩:=nw n3 eX;clear eX
 exact q p3 H3 s3 e3
def nameOf (st a k:Int):Str:=if st=0 then Txt.mul "p" (k+1) else if st=1 then Txt.mul "p" a++⟨#[(fN (Str.ofString "bcdefghijklmnoqrs").cps.toList k).getD 0]⟩++Txt.mul "p" (5 - a) else Txt.slice "12345" none (some a)++(toString k:String)
theorem tX:∀st:Fin 3,∀a:Fin 6,∀k:Fin 17,∀j:Fin 17,k≠j→nameOf (st.val:Int) (a.val:Int) (k.val:Int)≠nameOf (st.val:Int) (a.val:Int) (j.val:Int):=by decide+kernel
theorem MD:∀n:Fin 20,MulOk "p" (n.val:Int):=by
 intro n
 unfold MulOk
 revert n
 decide+kernel
theorem MF:∀k:Fin 17,fN (Str.ofString "bcdefghijklmnoqrs").cps.toList (k.val:Int)=some ((fN (Str.ofString "bcdefghijklmnoqrs").cps.toList (k.val:Int)).getD 0):=by decide+kernel
theorem DM:∀a:Fin 6,∀k:Fin 17,(Txt.mul "p" (a.val:Int)).length+(⟨#[(fN (Str.ofString "bcdefghijklmnoqrs").cps.toList (k.val:Int)).getD 0]⟩:Str).length≤1000∧
  (Txt.mul "p" (a.val:Int)++(⟨#[(fN (Str.ofString "bcdefghijklmnoqrs").cps.toList (k.val:Int)).getD 0]⟩:Str)).length+(Txt.mul "p" (5 - (a.val:Int))).length≤1000∧(Txt.slice "12345" none (some (a.val:Int))).length+(Str.ofString (toString (k.val:Int))).length≤1000:=by decide+kernel
inductive qW (vs:List V)(H:Hp)(Q:VK)(E_:XK):Prop where
 | mk (c k:Int) (_:vs=[.int c,.int k]) (_:0≤k) (_:k < 17) (_:Q (.str (nameOf (field c 3001 3) (field c 4001 6) k)) H):qW vs H Q E_
theorem DN:aG ["_law_cell","_law_k","_law_style","_law_at"] ["_law_cell","_law_k"] (ag vh):=sq
theorem Q9 (hM:sy CX)(D:Def K mg "_law_name" vh ["_law_cell","_law_k"])(DO:mg "str"=none)(cF:Fn P w K mg base CX 1 "_law_field" ["_law_cell","_law_prime","_law_many"] dZ):Fn P w K mg base CX 2 "_law_name" ["_law_cell","_law_k"] qW:=by
 refine D.ok DN (fun vs H Q E h=> ?_) (fun f bF A outer s H vs Q E hr h=> ?_)
 ·obtain ⟨c,k,rfl,_⟩:=h
  rfl
 obtain ⟨c,k,rfl,h0,h12,q⟩:=h
 have px:=sE (X:=kH CX P w K mg base ["_law_cell","_law_k","_law_style","_law_at"] "_law_name" (ag vh) f bF A outer s H E) hM
 refine ⟨_,(ae (aC (i:=2) DN.nd rfl (ab_ rfl) (aA cF hr.mo px (aq (pv 0) (aq af (aq af aa)))))
  (ae (aC (i:=3) DN.nd rfl (ab_ rfl) (aA cF hr.mo px (aq (pv 0) (aq af (aq af aa)))))
  (ae (bg (aQ cN (pv 2) af (aT _)) (ah (aF (aI qj dz (aI bH (pv 1) af)))) aL)
  (ae (bg (aQ cN (pv 2) af (aT _)) (ah (aF (aI iC (aI iC (aI qj dz (pv 3)) (aY Lu dz (pv 1) (fun _ _=>rfl))) (aI qj dz (aI cL af (pv 3)))))) aL)
  (ah (aF (aI iC (dj LM dz eE (dD (pv 3))) (ck pU rfl DO OE (aq (pv 1) aa))))))))),?_⟩
 have i1:=ba (c:=c) (p:=3001) (m:=3) (by decide)
 have i2:=ba (c:=c) (p:=4001) (m:=6) (by decide)
 refine ⟨_,rfl,_,_,_,rfl,by decide,by decide,by decide,?_⟩
 refine ⟨_,rfl,_,_,_,rfl,by decide,by decide,by decide,?_⟩
 generalize field c 3001 3=st at i1 q ⊢
 generalize field c 4001 6=a at i2 q ⊢
 obtain ⟨kn,rfl⟩:∃n:Nat,k=(n:Int):=⟨k.toNat,by omega⟩
 obtain ⟨an,rfl⟩:∃n:Nat,a=(n:Int):=⟨a.toNat,by omega⟩
 have mk:∀i:Int,0≤i→i < 20→MulOk "p" i:=fun i a b=>by
  have:=MD ⟨i.toNat,by omega⟩
  rwa [show ((⟨i.toNat,by omega⟩:Fin 20).val:Int)=i by show ((i.toNat:Nat):Int)=i;omega] at this
 refine ⟨_,rfl,rfl,_,rfl,?_⟩
 refine bf (fun z=> ?_) (fun z=> ?_)
 ·have z' :st=0:=by simpa [i5] using z
  subst z'
  refine ⟨_,rfl,_,_,rfl,rfl,_,_,rfl,rfl,mk _ (by omega) (by omega),?_⟩
  exact q
 have z' :¬ st=0:=by simpa [i5] using z
 have nl:=DM ⟨an,by omega⟩ ⟨kn,by omega⟩
 refine ⟨_,rfl,rfl,_,rfl,?_⟩
 refine bf (fun z3=> ?_) (fun z3=> ?_)
 ·have X9 :st=1:=by simpa [i5] using z3
  subst X9
  refine ⟨_,rfl,_,_,rfl,rfl,mk _ (by omega) (by omega),_,rfl,_,_,_,rfl,rfl,(by decide+kernel),MF ⟨kn,by omega⟩,?_⟩
  refine ⟨_,_,rfl,rfl,ad_ nl.1 (by decide),_,rfl,_,_,rfl,rfl,_,_,rfl,rfl,mk _ (by omega) (by omega),_,_,rfl,rfl,ad_ nl.2.1 (by decide),?_⟩
  exact q
 ·have X9 :¬ st=1:=by simpa [i5] using z3
  refine ⟨_,rfl,_,rfl,_,rfl,(by decide+kernel),?_⟩
  have lg:(kn:Int).natAbs.log2 < 1920:=aeJ (Nat.log2_le_self _) (by show kn < 1920;omega)
  refine ⟨_,rfl,_,rfl,lg,_,_,rfl,rfl,ad_ nl.2.2 (by decide),?_⟩
  have e:nameOf st (an:Int) (kn:Int)=Txt.slice "12345" none (some (an:Int))++Str.ofString (toString (kn:Int)):=by
   unfold nameOf
   rw [if_neg z',if_neg X9]
  rw [e] at q
  exact q
def iS (ws:List (Rat×Rat)):Prop:=ws=[]∨(∃x y:Rat,ws=[(x,y)]∧¬ (x=0∧y=0)∧Sz 22 x∧Sz 22 y)∨ws=[(1,0),(0,1)]
theorem vx {K:Frag}{H:Hp}{p:Addr}(i:Int)(h:H p=some (.tup [.int i,.int 1])):eQ K H (.ref p) (i:Rat):=⟨p,rfl,by rw [mL];exact bL.of h⟩
theorem gH {K:Frag}{H:Hp}{p:Addr}{r:Rat}(h:H p=some (.tup [.int (qr r).1,.int (qr r).2])):eQ K H (.ref p) r:=⟨p,rfl,bL.of h⟩
theorem ng {K:Frag}{H:Hp}{p:Addr}{u v:V}{r s:Rat}(h:H p=some (.tup [u,v]))(h1:eQ K H u r)(h2:eQ K H v s):d7 K H (.ref p) (r,s):=⟨p,u,v,rfl,bL.of h,h1,h2⟩
theorem jt {k:Nat}{i:Int}(h:i.natAbs < 524288)(hk:19≤k):Sz k (i:Rat):=u4 (aeT h (show 2^19≤2^k from ae0 (by decide) hk)) (by omega)
theorem ia {t b:Int}(h:0 < b)(h1:t.natAbs < 524288)(h2:b < 524288):Sz 19 ((t:Rat) / (b:Rat)):=qA (afd h) (intBits_le_iff.mpr (by show _ < 524288;omega)) (intBits_le_iff.mpr (by show _ < 524288;omega))
theorem DP {i:Int}(h:i≤500002):(i:Rat)≤500002:=by
 have:=agj.mpr h
 simpa using this
theorem wY {t b:Int}(hb:0 < b)(h:t≤500002):(t:Rat) / (b:Rat)≤500002:=by
 have gF :(0:Rat) < (b:Rat):=by
  have:=Rat.intCast_lt_intCast.mpr hb
  simpa using this
 have h1:t≤500002*b:=by
  have:(500002:Int)*1≤500002*b:=Int.mul_le_mul_of_nonneg_left (by omega) (by decide)
  omega
 have h2:(t:Rat)≤500002*(b:Rat):=by
  have:=agj.mpr h1
  simpa using this
 have e:(t:Rat) / (b:Rat)*(b:Rat)=(t:Rat):=by
  have zC:(b:Rat)≠0:=by grind
  grind
 generalize (t:Rat) / (b:Rat)=z at e
 by_cases c:z≤500002
 ·exact c
 ·have c' :500002 < z:=by grind
  have:=Rat.mul_lt_mul_of_pos_right c' gF
  grind
inductive qX (K:Frag)(vs:List V)(H:Hp)(Q:VK)(E_:XK):Prop where
 | mk (c k:Int) (_:vs=[.int c,.int k]) (_:∀(p:Addr) (x y:Rat) (H' :Hp),av H H' →Sz 19 x→Sz 19 y→x≤500002→d7 K H' (.ref p) (x,y)→Q (.ref p) H'):qX K vs H Q E_
theorem DQ:aG ["_law_cell","_law_kind","_law_x"] ["_law_cell","_law_kind"] (ag yy):=sq
theorem Q_ (D:Def K mg "_law_spot" yy ["_law_cell","_law_kind"])(cF:Fn P w K mg base (a9 P w) 1 "_law_field" ["_law_cell","_law_prime","_law_many"] dZ)(iT:Fn P w K mg base (a9 P w) 33 "_law_lowest" ["_law_top","_law_bottom"] cA):Fn P w K mg base (a9 P w) 34 "_law_spot" ["_law_cell","_law_kind"] (qX K):=by
 refine D.ok DQ (fun vs H Q E h=> ?_) (fun f bF A outer s H vs Q E hr h=> ?_)
 ·obtain ⟨c,k,rfl,_⟩:=h
  rfl
 obtain ⟨c,k,rfl,q⟩:=h
 have L2:2≤sizeLine:=by decide
 refine ⟨_,(ae (bg (aQ cN (pv 1) af (aT _)) (ah (aF (aZ (aq (aZ (aq (aA cF hr.mo pX (aq (pv 0) (aq af (aq af aa)))) (aq af aa))) (aq (aZ (aq (aA cF hr.mo pX (aq (pv 0) (aq af (aq af aa)))) (aq af aa))) aa))))) aL)
  (ae (bg (aQ cN (pv 1) af (aT _)) (ae (aC (i:=2) DQ.nd rfl (ab_ rfl) (aA iT hr.mo pX (aq (aI cL (aA cF hr.mo pX (aq (pv 0) (aq af (aq af aa)))) af) (aq (aI bH af (aA cF hr.mo pX (aq (pv 0) (aq af (aq af aa))))) aa))))
   (ah (aF (aZ (aq (pv 2) (aq (aA iT hr.mo pX (aq (aI cL (aA cF hr.mo pX (aq (pv 0) (aq af (aq af aa)))) af) (aq (aI bH af (aA cF hr.mo pX (aq (pv 0) (aq af (aq af aa))))) aa))) aa)))))) aL)
  (ae (aC (i:=2) DQ.nd rfl (ab_ rfl) (aA iT hr.mo pX (aq (aI cL (aA cF hr.mo pX (aq (pv 0) (aq af (aq af aa)))) af) (aq (aI bH af (aA cF hr.mo pX (aq (pv 0) (aq af (aq af aa))))) aa))))
  (ah (aF (aZ (aq (pv 2) (aq (aA iT hr.mo pX (aq (aI cL (aA cF hr.mo pX (aq (pv 0) (aq af (aq af aa)))) af) (aq (aI bH af (aA cF hr.mo pX (aq (pv 0) (aq af (aq af aa))))) aa))) aa)))))))),?_⟩
 refine ⟨_,rfl,rfl,_,rfl,?_⟩
 refine bf (fun _=> ?_) (fun _=> ?_)
 ·have i1:=ba (c:=c) (p:=1009) (m:=4) (by decide)
  have i2:=ba (c:=c) (p:=2003) (m:=4) (by decide)
  refine ⟨_,rfl,_,_,_,rfl,by decide,by decide,by decide,L2,?_⟩
  intro p1 n1;generalize eX:upd _ p1 _=H1;have ⟨s1,e1⟩:=nw n1 eX;clear eX
  refine ⟨_,rfl,_,_,_,rfl,by decide,by decide,by decide,L2,?_⟩
  intro p2 n2;generalize eX:upd _ p2 _=H2;have ⟨s2,e2⟩:=nw n2 eX;clear eX
  refine ⟨L2,?_⟩
  intro p3 n3;generalize eX:upd _ p3 _=H3;have ⟨s3,e3⟩:=nw n3 eX;clear eX
  exact q p3 _ _ H3 ((s1.trans s2).trans s3) (jt (by omega) (by decide)) (jt (by omega) (by decide)) (DP (by omega)) (ng e3 (((vx _ e1).same s2).same s3) ((vx _ e2).same s3))
 refine ⟨_,rfl,rfl,_,rfl,?_⟩
 refine bf (fun _=> ?_) (fun _=> ?_)
 ·have i1:=ba (c:=c) (p:=1009) (m:=13) (by decide)
  have i2:=ba (c:=c) (p:=3001) (m:=3) (by decide)
  have i3:=ba (c:=c) (p:=2003) (m:=13) (by decide)
  have i4:=ba (c:=c) (p:=4001) (m:=2) (by decide)
  refine ⟨_,rfl,_,_,_,rfl,by decide,by decide,by decide,_,_,rfl,rfl,_,rfl,_,_,_,rfl,by decide,by decide,by decide,_,_,rfl,rfl,_,_,rfl,by omega,fun p1 H1 s1 e1=> ?_⟩
  rw [dQ (by omega)] at e1
  refine ⟨_,rfl,_,rfl,_,_,_,rfl,by decide,by decide,by decide,_,_,rfl,rfl,_,rfl,_,_,_,rfl,by decide,by decide,by decide,_,_,rfl,rfl,_,_,rfl,by omega,fun p2 H2 s2 e2=>⟨L2,?_⟩⟩
  rw [dQ (by omega)] at e2
  intro p3 n3;generalize eX:upd _ p3 _=H3;have ⟨s3,e3⟩:=nw n3 eX;clear eX
  exact q p3 _ _ H3 ((s1.trans s2).trans s3) (ia (by omega) (by omega) (by omega)) (ia (by omega) (by omega) (by omega)) (wY (by omega) (by omega)) (ng e3 (((gH e1).same s2).same s3) ((gH e2).same s3))
 ·have i1:=ba (c:=c) (p:=1000003) (m:=1000003) (by decide)
  have i2:=ba (c:=c) (p:=3001) (m:=997) (by decide)
  have i3:=ba (c:=c) (p:=1000033) (m:=1000003) (by decide)
  have i4:=ba (c:=c) (p:=4001) (m:=997) (by decide)
  refine ⟨_,rfl,_,_,_,rfl,by decide,by decide,by decide,_,_,rfl,rfl,_,rfl,_,_,_,rfl,by decide,by decide,by decide,_,_,rfl,rfl,_,_,rfl,by omega,fun p1 H1 s1 e1=> ?_⟩
  rw [dQ (by omega)] at e1
  refine ⟨_,rfl,_,rfl,_,_,_,rfl,by decide,by decide,by decide,_,_,rfl,rfl,_,rfl,_,_,_,rfl,by decide,by decide,by decide,_,_,rfl,rfl,_,_,rfl,by omega,fun p2 H2 s2 e2=>⟨L2,?_⟩⟩
  rw [dQ (by omega)] at e2
  intro p3 n3;generalize eX:upd _ p3 _=H3;have ⟨s3,e3⟩:=nw n3 eX;clear eX
  exact q p3 _ _ H3 ((s1.trans s2).trans s3) (ia (by omega) (by omega) (by omega)) (ia (by omega) (by omega) (by omega)) (wY (by omega) (by omega)) (ng e3 (((gH e1).same s2).same s3) ((gH e2).same s3))
inductive qY (K:Frag)(vs:List V)(H:Hp)(Q:VK)(E_:XK):Prop where
 | mk (c:Int) (_:vs=[.int c]) (_:∀(l:Addr) (us:List V) (ws:List (Rat×Rat)) (H' :Hp),iS ws→av H H' →H l=none→H' l=some (.lst us)→gR K H' us ws→Q (.ref l) H'):qY K vs H Q E_
theorem Jd {r:Rat}:(qr r).1=0 ↔ r=0:=⟨qN,fun e=>by rw [e,cK]⟩
theorem tY:aG ["_law_cell","_law_kind","_law_x","_law_y"] ["_law_cell"] (ag yz):=sq
theorem Ra (D:Def K mg "_law_ways" yz ["_law_cell"])(cF:Fn P w K mg base (a9 P w) 1 "_law_field" ["_law_cell","_law_prime","_law_many"] dZ)(iT:Fn P w K mg base (a9 P w) 33 "_law_lowest" ["_law_top","_law_bottom"] cA):Fn P w K mg base (a9 P w) 34 "_law_ways" ["_law_cell"] (qY K):=by
 refine D.ok tY (fun vs H Q E h=> ?_) (fun f bF A outer s H vs Q E hr h=> ?_)
 ·obtain ⟨c,rfl,_⟩:=h
  rfl
 obtain ⟨c,rfl,q⟩:=h
 have L0:0≤sizeLine:=by decide
 have L1:1≤sizeLine:=by decide
 have L2:2≤sizeLine:=by decide
 refine ⟨_,(ae (aC (i:=1) tY.nd rfl (ab_ rfl) (aA cF hr.mo pX (aq (pv 0) (aq af (aq af aa)))))
  (ae (bg (aQ oG (pv 1) af (aT _)) (ah (aF (bR aa))) aL)
  (ae (bg (aQ oG (pv 1) af (aT _)) (ah (aF (bR (aq (aZ (aq (aZ (aq af (aq af aa))) (aq (aZ (aq af (aq af aa))) aa))) (aq (aZ (aq (aZ (aq af (aq af aa))) (aq (aZ (aq af (aq af aa))) aa))) aa))))) aL)
  (ae (aC (i:=2) tY.nd rfl (ab_ rfl) (aA iT hr.mo pX (aq (aI cL (aA cF hr.mo pX (aq (pv 0) (aq af (aq af aa)))) af) (aq (aI bH af (aA cF hr.mo pX (aq (pv 0) (aq af (aq af aa))))) aa))))
  (ae (aC (i:=3) tY.nd rfl (ab_ rfl) (aA iT hr.mo pX (aq (aI cL (aA cF hr.mo pX (aq (pv 0) (aq af (aq af aa)))) af) (aq (aI bH af (aA cF hr.mo pX (aq (pv 0) (aq af (aq af aa))))) aa))))
  (ae (bg (PW.pt (pS (aQ cN (aS (pv 2)) af (aT _)) (kO (aQ cN (aS (pv 3)) af (aT _))))) (ah (aC (i:=3) tY.nd rfl (ab_ rfl) (aZ (aq af (aq af aa))))) aL)
  (ah (aF (bR (aq (aZ (aq (pv 2) (aq (pv 3) aa))) aa)))))))))),?_⟩
 refine ⟨_,rfl,_,_,_,rfl,by decide,by decide,by decide,?_⟩
 refine ⟨_,rfl,_,_,rfl,rfl,_,rfl,?_⟩
 refine bf (fun _=> ?_) (fun _=> ?_)
 ·refine ⟨L0,?_⟩
  intro l nl;generalize eX:upd _ l _=H1;have ⟨s1,e1⟩:=nw nl eX;clear eX
  exact q l [] [] H1 (.inl rfl) s1 nl e1 .nil
 refine ⟨_,rfl,_,_,rfl,rfl,_,rfl,?_⟩
 refine bf (fun _=> ?_) (fun _=> ?_)
 ·refine ⟨L2,?_⟩
  intro p1 n1;generalize eX:upd _ p1 _=H1;have ⟨s1,e1⟩:=nw n1 eX;clear eX
  refine ⟨L2,?_⟩
  intro p2 n2;generalize eX:upd _ p2 _=H2;have ⟨s2,e2⟩:=nw n2 eX;clear eX
  refine ⟨L2,?_⟩
  intro p3 n3;generalize eX:upd _ p3 _=H3;have ⟨s3,e3⟩:=nw n3 eX;clear eX
  refine ⟨L2,?_⟩
  intro p4 n4;generalize eX:upd _ p4 _=H4;have ⟨s4,e4⟩:=nw n4 eX;clear eX
  refine ⟨L2,?_⟩
  intro p5 n5;generalize eX:upd _ p5 _=H5;have ⟨s5,e5⟩:=nw n5 eX;clear eX
  refine ⟨L2,?_⟩
  intro p6 n6;generalize eX:upd _ p6 _=H6;have ⟨s6,e6⟩:=nw n6 eX;clear eX
  refine ⟨L2,?_⟩
  intro p7 n7;generalize eX:upd _ p7 _=H7;have ⟨s7,e7⟩:=nw n7 eX;clear eX
  have sh:=s1.trans (s2.trans (s3.trans (s4.trans (s5.trans s6))))
  have w1:d7 K H7 (.ref p3) (1,0):=tS qP cK (s7 _ _ (s6 _ _ (s5 _ _ (s4 _ _ e3)))) (s7 _ _ (s6 _ _ (s5 _ _ (s4 _ _ (s3 _ _ (s2 _ _ e1)))))) (s7 _ _ (s6 _ _ (s5 _ _ (s4 _ _ (s3 _ _ e2)))))
  have w2:d7 K H7 (.ref p6) (0,1):=tS cK qP (s7 _ _ e6) (s7 _ _ (s6 _ _ (s5 _ _ e4))) (s7 _ _ (s6 _ _ e5))
  exact q p7 _ [(1,0),(0,1)] _ (.inr (.inr rfl)) (sh.trans s7) (sh.free n7) e7 (.cons w1 (.cons w2 .nil))
 have i1:=ba (c:=c) (p:=6007) (m:=7) (by decide)
 have i2:=ba (c:=c) (p:=7001) (m:=3) (by decide)
 have i3:=ba (c:=c) (p:=8009) (m:=7) (by decide)
 have i4:=ba (c:=c) (p:=9001) (m:=2) (by decide)
 refine ⟨_,rfl,_,_,_,rfl,by decide,by decide,by decide,_,_,rfl,rfl,_,rfl,_,_,_,rfl,by decide,by decide,by decide,_,_,rfl,rfl,_,_,rfl,by omega,fun p1 H1 s1 e1=> ?_⟩
 rw [dQ (by omega)] at e1
 refine ⟨_,rfl,_,_,_,rfl,by decide,by decide,by decide,_,_,rfl,rfl,_,rfl,_,_,_,rfl,by decide,by decide,by decide,_,_,rfl,rfl,_,_,rfl,by omega,fun p2 H2 s2 e2=> ?_⟩
 rw [dQ (by omega)] at e2
 have z1:=ia (t:=field c 6007 7 - 3) (b:=1+field c 7001 3) (by omega) (by omega) (by omega)
 have z2:=ia (t:=field c 8009 7 - 3) (b:=1+field c 9001 2) (by omega) (by omega) (by omega)
 generalize ((field c 6007 7 - 3:Int):Rat) / ((1+field c 7001 3:Int):Rat)=x at e1 z1 ⊢
 generalize ((field c 8009 7 - 3:Int):Rat) / ((1+field c 9001 2:Int):Rat)=y at e2 z2 ⊢
 have xE :=s2 _ _ e1
 have zG:=s1.trans s2
 have fin:∀(v:V) (y' :Rat) (H3:Hp),av H2 H3→eQ K H3 v y' →Sz 22 y' →¬ (x=0∧y' =0)→∀(p:Addr) (l:Addr) (H5:Hp),av H3 H5→H3 l=none→H5 p=some (.tup [.ref p1,v])→H5 l=some (.lst [.ref p])→Q (.ref l) H5:=fun v y' H3 s3 hv zy hn p l H5 s5 nl ep el=>
  q l [.ref p] [(x,y')] H5 (.inr (.inl ⟨x,y',rfl,hn,z1.up (by decide),zy⟩)) (zG.trans (s3.trans s5)) ((zG.trans s3).free nl) el (.cons (ng ep (((gH xE).same s3).same s5) (hv.same s5)) .nil)
 refine ⟨_,rfl,p1,_,_,_,rfl,rfl,bL.of xE,iI,rfl,_,rfl,?_⟩
 refine bf (fun c1=> ?_) (fun c1=> ?_)
 ·have c1' :x=0:=Jd.mp (by simpa using of_decide_eq_true c1)
  refine ⟨_,rfl,p2,_,_,_,rfl,rfl,bL.of e2,iI,rfl,_,rfl,?_⟩
  refine bf (fun c2=> ?_) (fun c2=> ?_)
  ·refine ⟨L2,?_⟩
   intro p3 n3;generalize eX:upd _ p3 _=H3;have ⟨s3,e3⟩:=nw n3 eX;clear eX
   refine ⟨_,rfl,_,rfl,L2,?_⟩
   intro p4 n4;generalize eX:upd _ p4 _=H4;have ⟨s4,e4⟩:=nw n4 eX;clear eX
   refine ⟨L1,?_⟩
   intro l5 n5;generalize eX:upd _ l5 _=H5;have ⟨s5,e5⟩:=nw n5 eX;clear eX
   exact fin (.ref p3) 1 H3 s3 (vx 1 e3) (jt (i:=1) (by decide) (by decide)) (fun z=>absurd z.2 (by decide)) p4 l5 H5 (s4.trans s5) (s4.free n5) (s5 _ _ e4) e5
  ·have c2' :¬ y=0:=fun z=>c2 (by rw [z,cK];decide)
   refine ⟨_,rfl,_,rfl,L2,?_⟩
   intro p4 n4;generalize eX:upd _ p4 _=H4;have ⟨s4,e4⟩:=nw n4 eX;clear eX
   refine ⟨L1,?_⟩
   intro l5 n5;generalize eX:upd _ l5 _=H5;have ⟨s5,e5⟩:=nw n5 eX;clear eX
   exact fin (.ref p2) y H2 (av.refl _) (gH e2) (z2.up (by decide)) (fun z=>c2' z.2) p4 l5 H5 (s4.trans s5) (s4.free n5) (s5 _ _ e4) e5
 ·have c1' :¬ x=0:=fun z=>c1 (by rw [z,cK];decide)
  refine LA ?_
  refine ⟨_,rfl,_,rfl,L2,?_⟩
  intro p4 n4;generalize eX:upd _ p4 _=H4;have ⟨s4,e4⟩:=nw n4 eX;clear eX
  refine ⟨L1,?_⟩
  intro l5 n5;generalize eX:upd _ l5 _=H5;have ⟨s5,e5⟩:=nw n5 eX;clear eX
  exact fin (.ref p2) y H2 (av.refl _) (gH e2) (z2.up (by decide)) (fun z=>c1' z.1) p4 l5 H5 (s4.trans s5) (s4.free n5) (s5 _ _ e4) e5
inductive ju (K:Frag)(H:Hp)(d:Addr)(v:V)(p:aH):Prop where
 | mk (a l:Addr) (s:V) (us:List V) (_:v=.ref a) (_:bL K H a [.str p.nm,s,.ref l]) (_:d7 K H s p.sp) (_:H l=some (.lst us)) (_:gR K H us p.ws) (_:l≠d):ju K H d v p
inductive fS (K:Frag)(H:Hp)(v:V)(p:aH):Prop where
 | mk (a l:Addr) (s:V) (us:List V) (_:v=.ref a) (_:bL K H a [.str p.nm,s,.ref l]) (_:d7 K H s p.sp) (_:H l=some (.lst us)) (_:gR K H us p.ws):fS K H v p
inductive iU (K:Frag)(H:Hp)(pins:List aH)(v:V)(b:bq):Prop where
 | mk (a:Addr) (i j:Nat) (_:v=.ref a) (_:bL K H a [.str b.nm,.int (i:Int),.int (j:Int)]) (_:pins[i]? =some b.one) (_:pins[j]? =some b.other):iU K H pins v b
section
variable {K:Frag}{H H' :Hp}{v:V}{p:aH}{d:Addr}
theorem ju.same (h:ju K H d v p)(s:av H H'):ju K H' d v p:=by
 obtain ⟨a,l,sv,us,e,h1,h2,h3,h4,h5⟩:=h
 exact ⟨a,l,sv,us,e,Ty.av.cR s h1,h2.same s,s _ _ h3,h4.same s,h5⟩
theorem ju.upd {xs:List V}{o:HO}(h:ju K H d v p)(e:H d=some (.lst xs)):ju K (L2.upd H d o) d v p:=by
 obtain ⟨a,l,sv,us,ev,h1,h2,h3,h4,h5⟩:=h
 have t:bE H (L2.upd H d o):=.list e
 exact ⟨a,l,sv,us,ev,t.cR h1,h2.a8 t,by rw [aj h5];exact h3,h4.a8 t,h5⟩
theorem ju.r (h:ju K H d v p):fS K H v p:=by
 obtain ⟨a,l,sv,us,e,h1,h2,h3,h4,_⟩:=h
 exact ⟨a,l,sv,us,e,h1,h2,h3,h4⟩
theorem fS.same (h:fS K H v p)(s:av H H'):fS K H' v p:=by
 obtain ⟨a,l,sv,us,e,h1,h2,h3,h4⟩:=h
 exact ⟨a,l,sv,us,e,Ty.av.cR s h1,h2.same s,s _ _ h3,h4.same s⟩
theorem iU.same {pins:List aH}{b:bq}(h:iU K H pins v b)(s:av H H'):iU K H' pins v b:=by
 obtain ⟨a,i,j,e,h1,h2,h3⟩:=h
 exact ⟨a,i,j,e,Ty.av.cR s h1,h2,h3⟩
end
structure gU (pins:List aH):Prop where
 np:(pins.map (·.nm)).Nodup
 ns:(pins.map (·.sp)).Nodup
 sz:∀p∈pins,Sz 24 p.sp.1∧Sz 24 p.sp.2
 ws:∀p∈pins,iS p.ws
theorem iS.sz {ws:List (Rat×Rat)}(h:iS ws):∀w∈ws,Sz 22 w.1∧Sz 22 w.2:=fun w hw=>by
 rcases h with rfl | ⟨x,y,rfl,_,h1,h2⟩ | rfl
 ·cases hw
 ·have:w=(x,y):=by simpa using hw
  rw [this]
  exact ⟨h1,h2⟩
 ·have e1:Sz 22 (1:Rat):=jt (k:=22) (i:=1) (by decide) (by decide)
  have e0:Sz 22 (0:Rat):=dr (by decide)
  have:w=(1,0)∨w=(0,1):=by simpa using hw
  rcases this with rfl | rfl
  ·exact ⟨e1,e0⟩
  ·exact ⟨e0,e1⟩
theorem iS.len {ws:List (Rat×Rat)}(h:iS ws):ws.length≤2:=by
 rcases h with rfl | ⟨x,y,rfl,_⟩ | rfl <;> simp
theorem gU.snoc {pins:List aH}{p:aH}(g:gU pins)(h1:p.nm∉pins.map (·.nm))(h2:p.sp∉pins.map (·.sp))(h3:Sz 24 p.sp.1∧Sz 24 p.sp.2)(h4:iS p.ws):gU (pins++[p]):=by
 refine ⟨?_,?_,fun q hq=> ?_,fun q hq=> ?_⟩
 ·rw [aeR,afP]
  refine ⟨g.np,by simp,fun a ha b hb e=>h1 ?_⟩
  have:b=p.nm:=by simpa using hb
  rw [← this, ← e]
  exact ha
 ·rw [aeR,afP]
  refine ⟨g.ns,by simp,fun a ha b hb e=>h2 ?_⟩
  have:b=p.sp:=by simpa using hb
  rw [← this, ← e]
  exact ha
 ·rcases aeM.mp hq with z | z
  ·exact g.sz q z
  ·rw [aeH.mp z]
   exact h3
 ·rcases aeM.mp hq with z | z
  ·exact g.ws q z
  ·rw [aeH.mp z]
   exact h4
structure iA (pins:List aH)(ao:List bq):Prop where
 nb:(ao.map (·.nm)).Nodup
 ends:∀b∈ao,b.one∈pins∧b.other∈pins∧b.one.nm≠b.other.nm
theorem ef {α β:Type}{F:α→β→Prop}:∀{l₁:List α} {l₂:List β} {a:α} {b:β},Paired F l₁ l₂→F a b→Paired F (l₁++[a]) (l₂++[b])
 | _,_,_,_,.nil,h=>.cons h .nil
 | _,_,_,_,.cons h t,h' =>.cons h (ef t h')
theorem cV {t u:TS}{D:Ends}{σ:L2.St}{H:Hp}(inv:L2.St→Hp→Prop)(h1:∀N:L2.St→Hp→Prop,(∀σ' H',inv σ' H' →N σ' H')→t {D with nx:=N} σ H)(h2:∀σ' H',inv σ' H' →u D σ' H'):N7 t u D σ H:=h1 _ h2
theorem KO {pins:List aH}{ao:List bq}(g:gU pins)(b:iA pins ao)(lp:pins.length≤9)(lb:ao.length≤14):fq pins ao:=
 ⟨g.np,b.nb,b.ends,fun p hp=>⟨(g.sz p hp).1,(g.sz p hp).2,(g.ws p hp).sz⟩,lp,lb,fun p hp=>(g.ws p hp).len⟩
theorem Rb:bootBuiltins "min"=some (.builtin "min"):=by decide+kernel
def cnt (pins:List aH)(x:Rat):Nat:=(pins.filter fun p=>decide (x≤p.sp.1)).length
theorem DR (x:Rat):∀pins:List aH,cnt pins (x+1)≤cnt pins x
 | []=>aeG _
 | p::ps=>by
  have ih:=DR x ps
  unfold cnt at ih ⊢
  rw [ago,ago]
  by_cases c:x+1≤p.sp.1
  ·have c2:x≤p.sp.1:=by grind
   rw [if_pos (decide_eq_true c),if_pos (decide_eq_true c2)]
   simpa using ih
  ·rw [if_neg (by simpa using c)]
   split
   ·rw [ae6]
    omega
   ·exact ih
theorem DS {x:Rat}:∀{pins:List aH},(∃p∈pins,p.sp.1=x)→cnt pins (x+1) < cnt pins x
 | [],⟨p,h,_⟩=>by simp at h
 | p::ps,⟨q,hq,e⟩=>by
  unfold cnt
  rw [ago,ago]
  by_cases c0:p.sp.1=x
  ·have c:¬ x+1≤p.sp.1:=by grind
   have c2:x≤p.sp.1:=by grind
   rw [if_neg (by simpa using c),if_pos (decide_eq_true c2),ae6]
   have:=DR x ps
   unfold cnt at this
   omega
  ·have kG :q∈ps:=by
    rcases ae1.mp hq with z | z
    ·exact absurd (by rw [← z];exact e) c0
    ·exact z
   have ih:=DS (pins:=ps) ⟨q,kG,e⟩
   unfold cnt at ih
   by_cases c:x+1≤p.sp.1
   ·have c2:x≤p.sp.1:=by grind
    rw [if_pos (decide_eq_true c),if_pos (decide_eq_true c2)]
    simpa using ih
   ·rw [if_neg (by simpa using c)]
    split
    ·rw [ae6]
     omega
    ·exact ih
theorem Je (pins:List aH)(x:Rat):cnt pins x≤pins.length:=aoR _ _
theorem Jf (r:Rat):fB (qr r) (1,1)=qr (r+1):=by
 have e:fB (qr r) (1,1)=((qr r).1+(qr r).2,(qr r).2):=by
  unfold fB
  simp
 have g:afi ((qr r).1+(qr r).2) (qr r).2=1:=by
  have:=jQ r
  rw [← this]
  simp
 rw [e,oZ (q:=((qr r).1+(qr r).2,(qr r).2)) (cz r) g]
 congr 1
 have z:=tj (r:=r)
 have v:=eA r
 unfold vl at v ⊢
 push_cast
 grind
theorem Rc {k:Nat}{r:Rat}(h:Sz k r):Ns k (qr r):=⟨afl (intBits_le_iff.mp h.top),afl (intBits_le_iff.mp h.bot)⟩
theorem Jg:∀i:Fin 10,∃N:Fin 6,fN [V.int 0,.int 1,.int 2,.int 2,.int 3,.int 3,.int 3,.int 4,.int 4,.int 5] (i.val:Int)=some (.int (N.val:Int)):=by decide+kernel
theorem zv:∀st:Fin 3,∀a:Fin 6,∀k:Fin 17,1≤(nameOf (st.val:Int) (a.val:Int) (k.val:Int)).length∧(nameOf (st.val:Int) (a.val:Int) (k.val:Int)).length≤40:=by decide+kernel
inductive qZ (K:Frag)(vs:List V)(H:Hp)(Q:VK)(E_:XK):Prop where
 | mk (sA:Addr) (ns:List Int) (_:vs=[.ref sA]) (_:aU K H sA (ns.map V.int)) (_:∀(l:Addr) (us:List V) (pins:List aH) (H' :Hp),av H H' →H l=none→H' l=some (.lst us)→Paired (fS K H') us pins→gU pins→pins.length≤9→(∀p∈pins,(1≤p.nm.length∧p.nm.length≤40)∧p.sp.1≤500020)→Q (.ref l) H'):qZ K vs H Q E_
theorem gW:aG ["_law_script","_law_cell","_law_many","_law_kind","_law_pins_here","_law_k","_law_spot_here"] ["_law_script"] (ag yA):=sq
theorem Rf (D:Def K mg "_law_pins" yA ["_law_script"])(bu:mg "range"=none)(DT:mg "min"=none)(iV:Fn P w K mg base (a9 P w) 1 "_law_cell_at" ["_law_script","_law_k"] (iR K))(cF:Fn P w K mg base (a9 P w) 1 "_law_field" ["_law_cell","_law_prime","_law_many"] dZ)
  (X_:Fn P w K mg base (a9 P w) 34 "_law_spot" ["_law_cell","_law_kind"] (qX K)) (X':Fn P w K mg base (a9 P w) 34 "_law_ways" ["_law_cell"] (qY K)) (MG:Fn P w K mg base (a9 P w) 2 "_law_name" ["_law_cell","_law_k"] qW) (j4:Fn P w K mg base (a9 P w) 1 "_law_sum" ["_law_one","_law_other"] (b7 K fB)):
  Fn P w K mg base (a9 P w) 35 "_law_pins" ["_law_script"] (qZ K):=by
 refine D.ok gW (fun vs H Q E h=> ?_) (fun f bF A outer s H vs Q E hr h=> ?_)
 ·obtain ⟨sA,ns,rfl,_⟩:=h
  rfl
 obtain ⟨sA,ns,rfl,hS,q⟩:=h
 have L2:2≤sizeLine:=by decide
 have L3:3≤sizeLine:=by decide
 refine ⟨_,(ae (aC (i:=1) gW.nd rfl (ab_ rfl) (aA iV hr.mo pX (aq (pv 0) (aq af aa))))
  (ae (aC (i:=2) gW.nd rfl (ab_ rfl) (aY aX (bR (aq af (aq af (aq af (aq af (aq af (aq af (aq af (aq af (aq af (aq af aa))))))))))) (aA cF hr.mo pX (aq (pv 1) (aq af (aq af aa)))) (fun _ _=>rfl)))
  (ae (aC (i:=3) gW.nd rfl (ab_ rfl) (aA cF hr.mo pX (aq (pv 1) (aq af (aq af aa)))))
  (ae (bg (aQ cN (pv 3) af (aT _)) (ah (aC (i:=2) gW.nd rfl (ab_ rfl) (aR (xo rfl) rfl DT Rb (aq (pv 2) (aq af aa))))) aL)
  (ae (bg (aQ cN (aA cF hr.mo pX (aq (pv 1) (aq af (aq af aa)))) af (aT _)) (ae (aC (i:=2) gW.nd rfl (ab_ rfl) af)
   (ah (aC (i:=3) gW.nd rfl (ab_ rfl) (aI dE (pv 3) af)))) aL)
  (ae (aC (i:=4) gW.nd rfl (ab_ rfl) (bR aa))
  (ae (bw PassesOwn.never rfl (bM rfl bu (aq (pv 2) aa)) (aw (i:=5) gW.nd rfl (ab_ rfl)) (ae (aC (i:=6) gW.nd rfl (ab_ rfl) (aA X_ hr.mo pX (aq (aA iV hr.mo pX (aq (pv 0) (aq (aI bH af (pv 5)) aa))) (aq (pv 3) aa))))
   (ae (lO PassesOwn.never (aQ (HW hr.units) (pv 6) (cD (tn:=["_law_pin"]) (fr:=[]) (caps:=[]) rfl ⟨rfl,by decide+kernel,rfl,by decide+kernel,by decide+kernel,rfl,trivial,trivial⟩ (bh (pv 4)) (fun _ _ _ _=>(aw (i:=0) (show (["_law_pin"]:List Str).Nodup from by decide+kernel) rfl (ab_ rfl))) (fun _ _ _ _=>cj) (fun _ _ _ _=>(aY (cp (K:=K) rfl) (pv 0) af (fun _ _=>rfl)))) rfl) (ah (aC (i:=6) gW.nd rfl (ab_ rfl) (aZ (aq (aA j4 hr.mo pX (aq (aS (pv 6)) (aq (aZ (aq af (aq af aa))) aa))) (aq (aS (pv 6)) aa))))))
   (ah (bO (i7 PySem.F.plainAttrs_list PySem.F.slot_list_append PySem.F.type_list_append cW (pv 4) (aq (aZ (aq (aA MG hr.mo pX (aq (pv 1) (aq (pv 5) aa))) (aq (pv 6) (aq (aA X' hr.mo pX (aq (aA iV hr.mo pX (aq (pv 0) (aq (aI bH af (pv 5)) aa))) aa)) aa)))) aa)))))))
  (ah (aF (pv 4)))))))))),?_⟩
 refine ⟨_,rfl,sA,ns,0,rfl,hS,by decide,by decide,?_⟩
 generalize cell ns 0=c0
 refine ⟨(by show 10≤sizeLine;decide),?_⟩
 intro t0 nt0;generalize eX:upd _ t0 _=H0;have ⟨st0,et0⟩:=nw nt0 eX;clear eX
 have i1:=ba (c:=c0) (p:=1009) (m:=10) (by decide)
 refine ⟨_,rfl,_,_,_,rfl,by decide,by decide,by decide,?_⟩
 generalize field c0 1009 10=fi at i1 ⊢
 obtain ⟨fn,rfl⟩:∃n:Nat,fi=(n:Int):=⟨fi.toNat,by omega⟩
 obtain ⟨N,eN⟩:=Jg ⟨fn,by omega⟩
 refine ⟨t0,_,_,_,rfl,rfl,aU.of et0,eN,?_⟩
 refine ⟨_,rfl,_,_,_,rfl,by decide,by decide,by decide,?_⟩
 generalize field c0 2003 3=KP
 dsimp only
 refine cV (fun σ' H' =>∃N:Nat,N≤5∧σ' =[some (.ref sA),some (.int c0),some (.int (N:Int)),some (.int KP),none,none,none]∧H' =H0) (fun Nx jw=> ?_) ?_
 ·refine ⟨_,rfl,rfl,_,rfl,?_⟩
  refine bf (fun _=> ?_) (fun _=> ?_)
  ·have hN:=N.isLt
   refine ⟨_,rfl,_,_,rfl,?_⟩
   refine jw _ _ ⟨min N.val 4,by omega,?_,rfl⟩
   have:(if (4:Int) < (N.val:Int) then (4:Int) else (N.val:Int))=((min N.val 4:Nat):Int):=by
    split <;> omega
   rw [this]
   rfl
  ·exact jw _ _ ⟨N.val,by have:=N.isLt;omega,rfl,rfl⟩
 rintro σ' H' ⟨N0,hN0,rfl,rfl⟩
 try dsimp only [vN]
 refine cV (fun σ' H'' =>∃(N:Nat) (kind:Int),N≤9∧σ' =[some (.ref sA),some (.int c0),some (.int (N:Int)),some (.int kind),none,none,none]∧H'' =H') (fun Nx jw=> ?_) ?_
 ·refine ⟨_,rfl,_,_,_,rfl,by decide,by decide,by decide,rfl,_,rfl,?_⟩
  refine bf (fun _=> ?_) (fun _=> ?_)
  ·refine ⟨_,rfl,_,_,rfl,rfl,nz (by omega),?_⟩
   exact jw _ _ ⟨9,_,by omega,rfl,rfl⟩
  ·exact jw _ _ ⟨N0,KP,by omega,rfl,rfl⟩
 rintro σ' H'' ⟨N,kind,hN,rfl,rfl⟩
 refine ⟨(by show 0≤sizeLine;decide),?_⟩
 intro lp np;generalize eX:upd _ lp _=H1;have ⟨sp,ep⟩:=nw np eX;clear eX
 have Mz:=st0.trans sp
 have vq:H lp=none:=st0.free np
 refine ⟨_,rfl,(N:Int),rfl,by omega,by omega,bQ (lo:=0) (n:=N) (fun i σ H' =>∃(o5 o6:Option V) (us:List V) (pins:List aH),σ=[some (.ref sA),some (.int c0),some (.int (N:Int)),some (.int kind),some (.ref lp),o5,o6]∧av H H' ∧H' lp=some (.lst us)∧Paired (ju K H' lp) us pins∧gU pins∧pins.length=i∧∀p∈pins,∃j,j < i∧p.nm=nameOf (field c0 3001 3) (field c0 4001 6) (j:Int)∧p.sp.1≤500020) ⟨none,none,[],[],rfl,Mz,ep,.nil,⟨by simp,by simp,by simp,by simp⟩,rfl,by simp⟩ ?_ ?_⟩
 ·rintro i σ H2 hi ⟨o5,o6,us,pins,rfl,s2,e2,pp,gp,lpi,nm⟩
  have ei:(0:Int)+(i:Int)=(i:Int):=afa _
  rw [ei]
  have lu:us.length=pins.length:=Paired.length pp
  refine ⟨_,rfl,_,rfl,_,_,rfl,rfl,sA,ns,_,rfl,s2.seq hS,by omega,by omega,_,rfl,?_⟩
  refine ⟨_,_,rfl,fun p3 x0 y0 H3 s3 zx zy xb h3=> ?_⟩
  have Xz:=s2.trans s3
  have h30:d7 K H3 (.ref p3) (x0+((0:Nat):Rat),y0):=by
   have e:x0+((0:Nat):Rat)=x0:=by
    have:((0:Nat):Rat)=0:=by rfl
    rw [this]
    grind
   rw [e]
   exact h3
  dsimp only
  refine cV (fun σ' H' =>∃(sv:V) (x:Rat),σ' =[some (.ref sA),some (.int c0),some (.int (N:Int)),some (.int kind),some (.ref lp),some (.int (i:Int)),some sv]∧av H3 H' ∧d7 K H' sv (x,y0)∧(Sz 24 x∧x≤500020)∧(x,y0)∉pins.map (·.sp)) (fun Nx jw=> ?_) ?_
  ·refine ⟨fun m σ H' =>∃(sv:V) (j:Nat),σ=[some (.ref sA),some (.int c0),some (.int (N:Int)),some (.int kind),some (.ref lp),some (.int (i:Int)),some sv]∧av H3 H' ∧d7 K H' sv (x0+(j:Rat),y0)∧m=cnt pins (x0+(j:Rat))∧j+cnt pins (x0+(j:Rat))≤pins.length,⟨_,_,0,rfl,av.refl _,h30,rfl,by have:=Je pins (x0+((0:Nat):Rat));omega⟩,?_⟩
   rintro m σ H4 ⟨sv,j,rfl,s4,h4,rfl,hj⟩
   have e4:=(s3.trans s4) _ _ e2
   have Ya:Paired (ju K H4 lp) us pins:=Paired.bZ pp fun _ _ z=>z.same (s3.trans s4)
   have zj:Sz 24 (x0+(j:Rat)):=(zx.add (u4 (i:=(j:Int)) (k:=4) (show _ < 16 by omega) (by decide))).up (by decide)
   refine ⟨_,rfl,_,rfl,lp,rfl,⟨_,aU.of e4⟩,fun D1 n1=> ?_⟩
   refine b_ (cap:=[]) (K:=K) (a:=lp) (xs:=us) (fun i v H=>∃p,pins[i]? =some p∧d7 K H v p.sp) n1 (by rw [lu];exact aeJ (show pins.length≤1000 by omega) (by decide)) (fun H2 s2=>aU.of (s2 _ _ e4)) (fun _ _ _ _ _ h0 ks h=>by
     obtain ⟨p,h1,h2⟩:=h
     refine ⟨p,h1,h2.a8 fun b xs r=> ?_⟩
     rcases r with r | ⟨o',r⟩
     ·exact .inl (ks _ _ (fun e=>by rw [e,h0] at r;cases r) r)
     ·exact .inr ⟨o',ks _ _ (fun e=>by rw [e,h0] at r;cases r) r⟩) ?_ ?_
   ·intro jj u H6 R hu s6 k
    obtain ⟨p,oC,hp⟩:=aE Ya hu
    obtain ⟨a,l,sv,ki,rfl,h1,h2,_⟩:=hp
    exact ⟨_,rfl,a,_,_,_,rfl,rfl,Ty.av.cR s6 h1,rfl,k _ _ (av.refl _) ⟨p,oC,h2.same s6⟩⟩
   intro ys H6 hy dR s6 hD
   have pq:gR K H6 ys (pins.map (·.sp)):=eY (by rw [aa_,hy,lu]) fun j u q' xE VT =>by
    obtain ⟨p,h1,h2⟩:=dR j u xE
    rw [Wp,h1] at VT
    cases VT
    exact h2
   have h6:=h4.same s6
   refine ⟨(x0+(j:Rat),y0),D1,ys,_,rfl,aU.of hD,h6,pq,_,rfl,?_⟩
   refine bf (fun cc=> ?_) (fun cc=> ?_)
   ·have mem:(x0+(j:Rat),y0)∈pins.map (·.sp):=by simpa using cc
    obtain ⟨p,hp,oC⟩:=abt.mp mem
    have lt:=DS (x:=x0+(j:Rat)) ⟨p,hp,by rw [oC]⟩
    have ej:x0+(j:Rat)+1=x0+((j+1:Nat):Rat):=by
     push_cast
     grind
    rw [ej] at lt
    refine ⟨fun σ' H' =>∃(sv:V),σ' =[some (.ref sA),some (.int c0),some (.int (N:Int)),some (.int kind),some (.ref lp),some (.int (i:Int)),some sv]∧av H3 H' ∧d7 K H' sv (x0+((j+1:Nat):Rat),y0),fun σ' H' ⟨sv',h1,h2,h3⟩=>⟨_,lt,sv',j+1,h1,h2,h3,rfl,by omega⟩,?_⟩
    obtain ⟨sa,u1,u2,rfl,Jh,Yb,Nv⟩:=h6
    refine ⟨_,rfl,sa,_,_,_,rfl,rfl,Jh,iI,L2,?_⟩
    intro p7 n7;generalize eX:upd _ p7 _=H7;have ⟨s7,e7⟩:=nw n7 eX;clear eX
    refine ⟨u1,.ref p7,qr (x0+(j:Rat)),(1,1),24,1,rfl,Yb.same s7,⟨p7,rfl,bL.of e7⟩,Rc zj,⟨by decide,by decide⟩,by decide,fun p8 H8 s8 e8=> ?_⟩
    rw [Jf,ej] at e8
    refine ⟨_,rfl,sa,_,_,_,rfl,rfl,Ty.av.cR (s7.trans s8) Jh,iJ,L2,?_⟩
    intro p9 n9;generalize eX:upd _ p9 _=H9;have ⟨s9,e9⟩:=nw n9 eX;clear eX
    have s69:=(s7.trans s8).trans s9
    exact ⟨.ref p9,rfl,(s4.trans s6).trans s69,ng e9 ((gH e8).same s9) (Nv.same s69)⟩
   ·have fresh:(x0+(j:Rat),y0)∉pins.map (·.sp):=by simpa using cc
    exact jw _ _ ⟨sv,x0+(j:Rat),rfl,s4.trans s6,h6,⟨zj,(by have Pc :((j:Int):Rat)≤((9:Int):Rat):=agj.mpr (by omega);have e1:((j:Int):Rat)=(j:Rat):=rfl;have e2:((9:Int):Rat)=9:=rfl;rw [e1,e2] at Pc;grind)⟩,fresh⟩
  rintro σ' H4 ⟨sv,x,rfl,s4,h4,⟨zx',xb'⟩,fresh⟩
  have QT:=s3.trans s4
  have iW:=s2.trans QT
  have e4:=QT _ _ e2
  have Ya:Paired (ju K H4 lp) us pins:=Paired.bZ pp fun _ _ z=>z.same QT
  refine ⟨_,rfl,.inl ⟨rfl,_,aU.of e4⟩,_,rfl,_,rfl,_,_,rfl,by omega,by omega,_,rfl,?_⟩
  refine ⟨_,rfl,_,rfl,_,_,rfl,rfl,sA,ns,_,rfl,iW.seq hS,by omega,by omega,?_⟩
  refine ⟨_,rfl,fun l8 us8 ws H8 wk s8 n8 e8 p8=>⟨L3,?_⟩⟩
  intro p9 n9;generalize eX:upd _ p9 _=H9;have ⟨s9,e9⟩:=nw n9 eX;clear eX
  have VU:=s8.trans s9
  have Yc:=VU _ _ e4
  have pp9:Paired (ju K H9 lp) us pins:=Paired.bZ Ya fun _ _ z=>z.same VU
  refine ⟨lp,_,_,rfl,rfl,Yc,(by rw [lu];exact aeJ (show pins.length≤1000 by omega) (by decide)),?_⟩
  have uv:ju K H9 lp (.ref p9) ⟨nameOf (field c0 3001 3) (field c0 4001 6) (i:Int),(x,y0),ws⟩:=⟨p9,l8,sv,us8,rfl,bL.of e9,h4.same VU,s9 _ _ e8,p8.same s9,fun z=>by rw [z,e4] at n8;cases n8⟩
  refine ⟨_,_,_,pins++[⟨nameOf (field c0 3001 3) (field c0 4001 6) (i:Int),(x,y0),ws⟩],rfl,fun b o z=> ?_,ak,ef (Paired.bZ pp9 fun _ _ z=>z.upd Yc) (uv.upd Yc),gp.snoc (fun z=> ?_) fresh ⟨zx',zy.up (by decide)⟩ wk,by simp [lpi],fun p hp=> ?_⟩
  ·rw [aj (au z vq)]
   exact VU _ _ (iW _ _ z)
  ·obtain ⟨p,hp,oC⟩:=abt.mp z
   obtain ⟨j,hj,ej,_⟩:=nm p hp
   have i3:=ba (c:=c0) (p:=3001) (m:=3) (by decide)
   have i4:=ba (c:=c0) (p:=4001) (m:=6) (by decide)
   have:=tX ⟨(field c0 3001 3).toNat,by omega⟩ ⟨(field c0 4001 6).toNat,by omega⟩ ⟨j,by omega⟩ ⟨i,by omega⟩ (fun z=>by
    have:=congrArg Fin.val z
    simp at this
    omega)
   refine this ?_
   show nameOf (((field c0 3001 3).toNat:Nat):Int) (((field c0 4001 6).toNat:Nat):Int) (j:Int)=nameOf (((field c0 3001 3).toNat:Nat):Int) (((field c0 4001 6).toNat:Nat):Int) (i:Int)
   rw [show (((field c0 3001 3).toNat:Nat):Int)=field c0 3001 3 by omega,show (((field c0 4001 6).toNat:Nat):Int)=field c0 4001 6 by omega, ← ej]
   exact oC
  ·rcases aeM.mp hp with z | z
   ·obtain ⟨j,hj,ej,eb⟩:=nm p z
    exact ⟨j,by omega,ej,eb⟩
   ·rw [aeH.mp z]
    exact ⟨i,by omega,rfl,xb'⟩
 ·rintro σ H2 ⟨o5,o6,us,pins,rfl,s2,e2,pp,gp,lpi,nm⟩
  refine ⟨_,rfl,q lp us pins H2 s2 vq e2 (Paired.bZ pp fun _ _ z=>z.r) gp (by omega) fun p hp=> ?_⟩
  obtain ⟨j,hj,ej,eb⟩:=nm p hp
  refine ⟨?_,eb⟩
  rw [ej]
  have f1:=ba (c:=c0) (p:=3001) (m:=3) (by decide)
  have f2:=ba (c:=c0) (p:=4001) (m:=6) (by decide)
  obtain ⟨u,hu⟩:∃n:Nat,field c0 3001 3=(n:Int):=⟨(field c0 3001 3).toNat,by omega⟩
  obtain ⟨v,hv⟩:∃n:Nat,field c0 4001 6=(n:Int):=⟨(field c0 4001 6).toNat,by omega⟩
  rw [hu,hv]
  exact zv ⟨u,by omega⟩ ⟨v,by omega⟩ ⟨j,by omega⟩
inductive q0 (K:Frag)(vs:List V)(H:Hp)(Q:VK)(E_:XK):Prop where
 | mk (sA pA:Addr) (ns:List Int) (us:List V) (pins:List aH) (_:vs=[.ref sA,.ref pA]) (_:aU K H sA (ns.map V.int)) (_:H pA=some (.lst us)) (_:us.length=pins.length) (_:(pins.map (·.nm)).Nodup) (_:pins.length≤9) (_:∀(l:Addr) (d9 :List V) (ao:List bq) (H' :Hp),av H H' →H l=none→H' l=some (.lst d9)→Paired (iU K H' pins) d9 ao→iA pins ao→ao.length≤14→Q (.ref l) H'):q0 K vs H Q E_
theorem iA.snoc {pins:List aH}{ao:List bq}{b:bq}(g:iA pins ao)(h1:b.nm∉ao.map (·.nm))(h2:b.one∈pins∧b.other∈pins∧b.one.nm≠b.other.nm):iA pins (ao++[b]):=by
 refine ⟨?_,fun q hq=> ?_⟩
 ·rw [aeR,afP]
  refine ⟨g.nb,by simp,fun a ha c hc e=>h1 ?_⟩
  have:c=b.nm:=by simpa using hc
  rw [← this, ← e]
  exact ha
 ·rcases aeM.mp hq with z | z
  ·exact g.ends q z
  ·rw [aeH.mp z]
   exact h2
theorem jx:aG ["_law_script","_law_pins_here","_law_cell","_law_many","_law_bars_here","_law_k","_law_one","_law_step"] ["_law_script","_law_pins_here"] (ag yB):=sq
theorem Rg (D:Def K mg "_law_bars" yB ["_law_script","_law_pins_here"])(bu:mg "range"=none)(a_:mg "len"=none)(iV:Fn P w K mg base (a9 P w) 1 "_law_cell_at" ["_law_script","_law_k"] (iR K))(cF:Fn P w K mg base (a9 P w) 1 "_law_field" ["_law_cell","_law_prime","_law_many"] dZ)(MG:Fn P w K mg base (a9 P w) 2 "_law_name" ["_law_cell","_law_k"] qW):
  Fn P w K mg base (a9 P w) 3 "_law_bars" ["_law_script","_law_pins_here"] (q0 K):=by
 refine D.ok jx (fun vs H Q E h=> ?_) (fun f bF A outer s H vs Q E hr h=> ?_)
 ·obtain ⟨sA,pA,ns,us,pins,rfl,_⟩:=h
  rfl
 obtain ⟨sA,pA,ns,us,pins,rfl,hS,hp,lu,np,lp,q⟩:=h
 have L3:3≤sizeLine:=by decide
 refine ⟨_,(ae (aC (i:=2) jx.nd rfl (ab_ rfl) (aA iV hr.mo pX (aq (pv 0) (aq af aa))))
  (ae (aC (i:=3) jx.nd rfl (ab_ rfl) (aA cF hr.mo pX (aq (pv 2) (aq af (aq af aa)))))
  (ae (bg (aQ oG (aR aJ rfl a_ bW (aq (pv 1) aa)) af (aT _)) (ah (aC (i:=3) jx.nd rfl (ab_ rfl) af)) aL)
  (ae (bg (aQ cN (aR aJ rfl a_ bW (aq (pv 1) aa)) af (aT _)) (ah (aC (i:=3) jx.nd rfl (ab_ rfl) (aI bH af (aA cF hr.mo pX (aq (pv 2) (aq af (aq af aa))))))) aL)
  (ae (aC (i:=4) jx.nd rfl (ab_ rfl) (bR aa))
  (ae (bw PassesOwn.never rfl (bM rfl bu (aq (pv 3) aa)) (aw (i:=5) jx.nd rfl (ab_ rfl)) (ae (aC (i:=6) jx.nd rfl (ab_ rfl) (aA cF hr.mo pX (aq (aA iV hr.mo pX (aq (pv 0) (aq (aI bH af (pv 5)) aa))) (aq af (aq (aR aJ rfl a_ bW (aq (pv 1) aa)) aa)))))
   (ae (aC (i:=7) jx.nd rfl (ab_ rfl) (aI bH af (aA cF hr.mo pX (aq (aA iV hr.mo pX (aq (pv 0) (aq (aI bH af (pv 5)) aa))) (aq af (aq (aI cL (aR aJ rfl a_ bW (aq (pv 1) aa)) af) aa))))))
   (ah (bO (i7 PySem.F.plainAttrs_list PySem.F.slot_list_append PySem.F.type_list_append cW (pv 4) (aq (aZ (aq (aA MG hr.mo pX (aq (pv 2) (aq (pv 5) aa))) (aq (pv 6) (aq (aI dE (aI bH (pv 6) (pv 7)) (aR aJ rfl a_ bW (aq (pv 1) aa))) aa)))) aa)))))))
  (ah (aF (pv 4))))))))),?_⟩
 refine ⟨_,rfl,sA,ns,1,rfl,hS,by decide,by decide,?_⟩
 generalize cell ns 1=c0
 have i1:=ba (c:=c0) (p:=1009) (m:=8) (by decide)
 refine ⟨_,rfl,_,_,_,rfl,by decide,by decide,by decide,?_⟩
 generalize field c0 1009 8=fi at i1 ⊢
 obtain ⟨fn,rfl⟩:∃n:Nat,fi=(n:Int):=⟨fi.toNat,by omega⟩
 dsimp only
 refine cV (fun σ' H' =>∃N:Nat,N≤7∧(0 < N→2≤pins.length)∧σ' =[some (.ref sA),some (.ref pA),some (.int c0),some (.int (N:Int)),none,none,none,none]∧H' =H) (fun Nx jw=> ?_) ?_
 ·refine ⟨_,rfl,pA,_,rfl,.inl (aU.of hp),_,_,rfl,rfl,_,rfl,?_⟩
  refine bf (fun _=> ?_) (fun c=> ?_)
  ·exact jw _ _ ⟨0,by omega,by omega,rfl,rfl⟩
  ·have c' :¬ (us.length:Int) < 2:=fun z=>c (decide_eq_true z)
   exact jw _ _ ⟨fn,by omega,fun _=>by omega,rfl,rfl⟩
 rintro σ' Hx ⟨N0,hN0,Yd,rfl,rfl⟩
 try dsimp only [vN]
 refine cV (fun σ' H' =>∃N:Nat,N≤14∧(0 < N→2≤pins.length)∧σ' =[some (.ref sA),some (.ref pA),some (.int c0),some (.int (N:Int)),none,none,none,none]∧H' =Hx) (fun Nx jw=> ?_) ?_
 ·refine ⟨_,rfl,pA,_,rfl,.inl (aU.of hp),rfl,_,rfl,?_⟩
  refine bf (fun c=> ?_) (fun _=>jw _ _ ⟨N0,by omega,Yd,rfl,rfl⟩)
  have f7:=ba (c:=c0) (p:=2003) (m:=7) (by decide)
  have c9:(us.length:Int)=9:=by
   have:=of_decide_eq_true c
   injection this
  refine ⟨_,rfl,_,_,_,rfl,by decide,by decide,by decide,_,_,rfl,rfl,?_⟩
  generalize field c0 2003 7=Ye at f7 ⊢
  refine jw _ _ ⟨(8+Ye).toNat,by omega,fun _=>by omega,?_,rfl⟩
  rw [show (((8+Ye).toNat:Nat):Int)=8+Ye by omega]
  rfl
 rintro σ' Hy ⟨N,hN,Xj,rfl,rfl⟩
 refine ⟨(by show 0≤sizeLine;decide),?_⟩
 intro lb nb;generalize eX:upd _ lb _=H1;have ⟨sb,eb⟩:=nw nb eX;clear eX
 refine ⟨_,rfl,(N:Int),rfl,by omega,by omega,bQ (lo:=0) (n:=N) (fun i σ H' =>∃(o5 o6 o7:Option V) (d9 :List V) (ao:List bq),σ=[some (.ref sA),some (.ref pA),some (.int c0),some (.int (N:Int)),some (.ref lb),o5,o6,o7]∧av Hy H' ∧H' lb=some (.lst d9)∧Paired (iU K H' pins) d9 ao∧iA pins ao∧ao.length=i∧∀b∈ao,∃j,j < i∧b.nm=nameOf (field c0 3001 3) (field c0 4001 6) (j:Int)) ⟨none,none,none,[],[],rfl,sb,eb,.nil,⟨by simp,by simp⟩,rfl,by simp⟩ ?_ ?_⟩
 ·rintro i σ H2 hi ⟨o5,o6,o7,d9,ao,rfl,s2,e2,pb,gb,lbi,nm⟩
  have ei:(0:Int)+(i:Int)=(i:Int):=afa _
  rw [ei]
  have n2:2≤pins.length:=Xj (by omega)
  have lv:d9.length=ao.length:=Paired.length pb
  have sp:=aU.of (K:=K) (s2 _ _ hp)
  refine ⟨_,rfl,_,rfl,_,_,rfl,rfl,sA,ns,_,rfl,s2.seq hS,by omega,by omega,_,rfl,pA,_,rfl,.inl sp,_,_,_,rfl,by decide,by decide,by omega,?_⟩
  have j1:=ba (c:=cell ns (12+(i:Int))) (p:=1009) (m:=(us.length:Int)) (by omega)
  have j2:=ba (c:=cell ns (12+(i:Int))) (p:=2003) (m:=(us.length:Int) - 1) (by omega)
  refine ⟨_,rfl,_,rfl,_,_,rfl,rfl,sA,ns,_,rfl,s2.seq hS,by omega,by omega,_,rfl,pA,_,rfl,.inl sp,_,_,rfl,rfl,_,_,_,rfl,by decide,by decide,by omega,_,_,rfl,rfl,?_⟩
  generalize field (cell ns (12+(i:Int))) 1009 (us.length:Int)=one at j1 ⊢
  generalize field (cell ns (12+(i:Int))) 2003 ((us.length:Int) - 1)=step at j2 ⊢
  obtain ⟨on,rfl⟩:∃n:Nat,one=(n:Int):=⟨one.toNat,by omega⟩
  have oo:∃m:Nat,((on:Int)+(1+step)).fmod (us.length:Int)=(m:Int)∧m < us.length∧m≠on:=by
   have f:=gB (x:=(on:Int)+(1+step)) (m:=(us.length:Int)) (by omega)
   refine ⟨(((on:Int)+(1+step)).fmod (us.length:Int)).toNat,by omega,by omega,fun z=> ?_⟩
   have e:((on:Int)+(1+step)).fmod (us.length:Int)=(on:Int):=by omega
   rw [Int.fmod_eq_emod_of_nonneg _ (by omega)] at e
   by_cases c:(on:Int)+(1+step) < (us.length:Int)
   ·rw [aph (by omega) c] at e
    omega
   ·rw [← Int.sub_emod_right,aph (by omega) (by omega)] at e
    omega
  obtain ⟨VW,VT,l2',ne2⟩:=oo
  refine ⟨_,rfl,.inl ⟨rfl,_,aU.of e2⟩,_,rfl,_,rfl,_,_,rfl,by omega,by omega,_,rfl,_,rfl,_,rfl,_,_,rfl,rfl,_,rfl,pA,_,rfl,.inl sp,_,_,rfl,rfl,nz (by omega),L3,?_⟩
  intro p9 n9;generalize eX:upd _ p9 _=H9;have ⟨s9,e9⟩:=nw n9 eX;clear eX
  have e9:H9 p9=some (.tup [.str (nameOf (field c0 3001 3) (field c0 4001 6) (i:Int)),.int (on:Int),.int (((on:Int)+(1+step)).fmod (us.length:Int))]):=e9
  rw [VT] at e9
  have NS:=s9 _ _ e2
  refine ⟨lb,_,_,rfl,rfl,NS,(by rw [lv];exact aeJ (show ao.length≤1000 by omega) (by decide)),?_⟩
  have l1:on < pins.length:=by omega
  have l2:VW < pins.length:=by omega
  have st:bE H9 (upd H9 lb (.lst (d9 ++[.ref p9]))):=.list NS
  have ns9:∀(v:V) (b:bq),iU K H2 pins v b→iU K (upd H9 lb (.lst (d9 ++[.ref p9]))) pins v b:=fun v b h=>by
   obtain ⟨a,i',j',e,h1,h2,h3⟩:=h.same s9
   exact ⟨a,i',j',e,st.cR h1,h2,h3⟩
  refine ⟨_,_,_,d9 ++[.ref p9],ao++[⟨nameOf (field c0 3001 3) (field c0 4001 6) (i:Int),pins[on],pins[VW]⟩],rfl,fun b o z=> ?_,ak,ef (Paired.bZ pb fun _ _ z=>ns9 _ _ z) ?_,gb.snoc (fun z=> ?_) ⟨afz l1,afz l2,fun z=> ?_⟩,by simp [lbi],fun b hb=> ?_⟩
  ·rw [aj (au z nb)]
   exact s9 _ _ (s2 _ _ z)
  ·exact ⟨p9,on,VW,rfl,st.cR (bL.of e9),gE l1,gE l2⟩
  ·obtain ⟨b,hb,oC⟩:=abt.mp z
   obtain ⟨j,hj,ej⟩:=nm b hb
   have i3:=ba (c:=c0) (p:=3001) (m:=3) (by decide)
   have i4:=ba (c:=c0) (p:=4001) (m:=6) (by decide)
   have:=tX ⟨(field c0 3001 3).toNat,by omega⟩ ⟨(field c0 4001 6).toNat,by omega⟩ ⟨j,by omega⟩ ⟨i,by omega⟩ (fun z=>by
    have:=congrArg Fin.val z
    simp at this
    omega)
   refine this ?_
   show nameOf (((field c0 3001 3).toNat:Nat):Int) (((field c0 4001 6).toNat:Nat):Int) (j:Int)=nameOf (((field c0 3001 3).toNat:Nat):Int) (((field c0 4001 6).toNat:Nat):Int) (i:Int)
   rw [show (((field c0 3001 3).toNat:Nat):Int)=field c0 3001 3 by omega,show (((field c0 4001 6).toNat:Nat):Int)=field c0 4001 6 by omega, ← ej]
   exact oC
  ·have q1:(pins.map (·.nm))[on]? =some pins[on].nm:=by rw [Wp,gE l1];rfl
   have q2:(pins.map (·.nm))[VW]? =some pins[on].nm:=by rw [Wp,gE l2];exact congrArg some z.symm
   exact ne2 ((agf (by rw [aa_];omega) np).mp (q1.trans q2.symm)).symm
  ·rcases aeM.mp hb with z | z
   ·obtain ⟨j,hj,ej⟩:=nm b z
    exact ⟨j,by omega,ej⟩
   ·rw [aeH.mp z]
    exact ⟨i,by omega,rfl⟩
 ·rintro σ H2 ⟨o5,o6,o7,d9,ao,rfl,s2,e2,pb,gb,lbi,nm⟩
  exact ⟨_,rfl,q lb d9 ao H2 s2 nb e2 pb gb (by omega)⟩
theorem Ji (v:V):afI ("ways":Str) [(("way":Str),v)]=none:=by
 have h:(("ways":Str)=="way")=false:=by decide+kernel
 simp [afI,h]
inductive ni (K:Frag)(C:Addr)(vs:List V)(H:Hp)(Q:VK)(E_:XK):Prop where
 | mk (pA bA:Addr) (us d9 :List V) (pins:List aH) (ao:List bq) (_:vs=[.ref pA,.ref bA]) (_:H pA=some (.lst us)) (_:Paired (fS K H) us pins) (_:H bA=some (.lst d9)) (_:Paired (iU K H pins) d9 ao) (_:gU pins) (_:iA pins ao) (_:pins.length≤9) (_:ao.length≤14) (_:∀(a:Addr) (H' :Hp),av H H' →wj K H' C a pins ao→Q (.ref a) H'):ni K C vs H Q E_
theorem kr:aG ["_law_pins_here","_law_bars_here","_law_frame_here","_law_name_here","_law_spot_here","_law_ways_here","_law_one","_law_other"] ["_law_pins_here","_law_bars_here"] (ag yC):=sq
theorem Rh {C CR CF fI fR:Addr}{fdI fdR:FuncData}(D:Def K mg "_law_frame" yC ["_law_pins_here","_law_bars_here"])(a_:mg "len"=none)(MI:Mk K C fI)(MJ:mg "Frame"=some (.ref C))(Yf:cM P w K mg base (a9 P w) 1 fI fdI ["self"] (qM K C))(MK:Binds K fdI ["self"] [])
  (MM:mg "Roller"=some (.ref CR)) (MO:mg "Fixed"=some (.ref CF)) (MQ:OJ K CF) (MR:Mk K CR fR) (Yg:cM P w K mg base (a9 P w) 1 fR fdR ["self","x","y"] (qO K CR)) (MS:Binds K fdR ["self","x","y"] [])
  (wR:bJ P w K mg base (a9 P w) 2 CR "ways" ["self"] (jq K CR)) (wF:bJ P w K mg base (a9 P w) 2 CF "ways" ["self"] (jr K))
  (Yh:bJ P w K mg base (a9 P w) 3 C "put_bar" ["self","name","one","other"] (js K C)) (VX:bJ P w K mg base (a9 P w) 3 C "put_pin" ["self","name","x","y","hold"] (dW P w K mg base C)) (Yi:u3 P w K mg base (a9 P w) 3 C "put_pin" ["self","name","x","y","hold"] [.none] (dW P w K mg base C)):
  Fn P w K mg base (a9 P w) 4 "_law_frame" ["_law_pins_here","_law_bars_here"] (ni K C):=by
 refine D.ok kr (fun vs H Q E h=> ?_) (fun f bF A outer s H vs Q E hr h=> ?_)
 ·obtain ⟨pA,bA,us,d9,pins,ao,rfl,_⟩:=h
  rfl
 obtain ⟨pA,bA,us,d9,pins,ao,rfl,hp,pp,hb,pb,gp,gb,lp6,lb8,q⟩:=h
 have lu:us.length=pins.length:=Paired.length pp
 refine ⟨_,(ae (aC (i:=2) kr.nd rfl (ab_ rfl) (AI MI Yf hr.mo rfl MJ MK .nil (pY P w)))
  (ae (bw PassesOwn.never rfl (bh (pv 0)) (dB rfl (aV (aw (i:=3) kr.nd rfl (ab_ rfl)) (aV (aw (i:=4) kr.nd rfl (ab_ rfl)) (aV (aw (i:=5) kr.nd rfl (ab_ rfl)) cC)))) (ae (bg (aQ cN (aR aJ rfl a_ bW (aq (pv 5) aa)) af (aT _)) (ah (bO (HV (k:=3) (pv 2) hr.mo (pY P w) (aq (pv 3) (aq (aS (pv 4)) (aq (aS (pv 4)) aa)))))) aL)
   (ae (bg (aQ cN (aR aJ rfl a_ bW (aq (pv 5) aa)) af (aT _)) (ah (bO (c_ (k:=3) (pv 2) hr.mo (pY P w) (aq (pv 3) (aq (aS (pv 4)) (aq (aS (pv 4)) (aq (GU MR Yg hr.mo rfl MM MS .nil (pY P w) (aq (aS (pj (pv 5))) (aq (aS (pj (pv 5))) aa))) aa))))))) aL)
   (ah (bg (aQ cN (aR aJ rfl a_ bW (aq (pv 5) aa)) af (aT _)) (ah (bO (c_ (k:=3) (pv 2) hr.mo (pY P w) (aq (pv 3) (aq (aS (pv 4)) (aq (aS (pv 4)) (aq (LL MQ rfl MO) aa))))))) aL)))))
  (ae (bw PassesOwn.never rfl (bh (pv 1)) (dB rfl (aV (aw (i:=3) kr.nd rfl (ab_ rfl)) (aV (aw (i:=6) kr.nd rfl (ab_ rfl)) (aV (aw (i:=7) kr.nd rfl (ab_ rfl)) cC)))) (ah (bO (c_ (k:=3) (pv 2) hr.mo (pY P w) (aq (pv 3) (aq (aS (aY aX (pv 0) (pv 6) (fun _ _=>rfl))) (aq (aS (aY aX (pv 0) (pv 7) (fun _ _=>rfl))) aa)))))))
  (ah (aF (pv 2)))))),?_⟩
 intro a dx na ndx nad
 have sF:av H (upd (upd H dx (.own a)) a (.ins C dx [])):=fun b o e=>by rw [aj (au e na),aj (au e ndx)];exact e
 refine ⟨a,dx,rfl,ak,fun pP pW pB H1 k1 nP nW nB R1=>⟨rfl,?_⟩⟩
 have s1:av H H1:=fun b o e=>k1 b o (au e na) (sF _ _ e)
 have nP:=jR sF nP
 have nW:=jR sF nW
 have nB:=jR sF nB
 refine ⟨_,rfl,pA,rfl,⟨_,aU.of (s1 _ _ hp)⟩,bP (K:=K) (a:=pA) (xs:=us) (fun i σ H' =>∃(o4 o5 o6:Option V) (kP kW:List (Key×V)),σ=[some (.ref pA),some (.ref bA),some (.ref a),o4,o5,o6,none,none]∧av H H' ∧fE K H' C a dx pP pW pB ((pins.take i).map fun p=>(p.nm,kg p.sp)) [] kP kW []∧uw K H' ((pins.take i).map fun p=>(p.nm,p.ws)) kW) ⟨none,none,none,[],[],rfl,s1,R1,.nil⟩ (fun i σ H' _ h=>by
   obtain ⟨_,_,_,_,_,_,s,_⟩:=h
   exact aU.of (s _ _ hp)) ?_ ?_⟩
 ·rintro i u σ H2 hu ⟨o4,o5,o6,kP,kW,rfl,s2,R2,W2⟩
  obtain ⟨p,ep,oy⟩:=aE pp hu
  have mp:p∈pins:=ir ep
  obtain ⟨ta,l,sv,ws,rfl,h1,h2,h3,h4⟩:=oy.same s2
  obtain ⟨sa,x1,y1,rfl,Jh,Yb,Nv⟩:=h2
  refine ⟨ta,_,rfl,h1,rfl,_,_,rfl,_,_,rfl,_,_,rfl,rfl,?_⟩
  have tk:=take_snoc ep
  have il:i < pins.length:=(be.mp ep).1
  have nlP:l≠pP:=fun z=>by rw [z,R2.pl] at h3;cases h3
  have nlW:l≠pW:=fun z=>by rw [z,R2.wy] at h3;cases h3
  have fin:∀(hv:V) (H5:Hp) (Q5:VK) (E5:XK),av H2 H5→Kz P w K mg base H5 hv p.ws→
    (∀H' CY s_,av H H' →H' l=some (.lst ws)→fE K H' C a dx pP pW pB ((pins.take (i+1)).map fun p=>(p.nm,kg p.sp)) [] CY s_ []→uw K H' ((pins.take (i+1)).map fun p=>(p.nm,p.ws)) s_ →Q5 .cE H')→dW P w K mg base C [.ref a,.str p.nm,x1,y1,hv] H5 Q5 E5:=fun hv H5 Q5 E5 s5 hY fin=>by
   refine ⟨a,dx,pP,pW,pB,_,_,kP,kW,_,_,p.nm,x1,y1,hv,kg p.sp,p.ws,rfl,R2.same s5,W2.same s5,by rw [aeS,aeS];rfl,Yb.same s5,Nv.same s5,fun z=> ?_,fun z hz e=> ?_,?_,hY,fun H' CY s_ k' R' W' => ?_⟩
   ·rw [aeS] at z
    obtain ⟨p',iO,e'⟩:=abt.mp z
    exact ft (nm:=aH.nm) gp.np ep iO e'
   ·obtain ⟨p',iO,e'⟩:=abt.mp hz
    rw [← e'] at e
    have e1:=congrArg ap7 e
    have e2:=congrArg ap8 e
    have e3:p'.sp=p.sp:=aoU (iH e1) (iH e2)
    obtain ⟨j,hj,ej⟩:=afk.mp iO
    rw [apf] at ej
    rw [ae2] at hj
    have q1:(pins.map (·.sp))[j]? =some p.sp:=by rw [Wp,gE (by omega),ej, ← e3];rfl
    have q2:(pins.map (·.sp))[i]? =some p.sp:=by rw [Wp,ep];rfl
    have:=(agf (by rw [aa_];omega) gp.ns).mp (q1.trans q2.symm)
    omega
   ·rw [aa_,ae2]
    omega
   ·refine fin H' CY s_ (fun b o z=>k' b o (au z nP) (au z nW) (s5 _ _ (s2 _ _ z))) (k' _ _ nlP nlW (s5 _ _ h3)) ?_ ?_
    ·rw [tk,aeR]
     exact R'
    ·rw [tk,aeR]
     exact W'
  have l2:=aU.of (K:=K) h3
  have lw:ws.length=p.ws.length:=Paired.length h4
  refine ⟨_,rfl,l,_,rfl,.inl l2,rfl,_,rfl,?_⟩
  rcases gp.ws p mp with hw | ⟨wx,wy,hw,wn,_,_⟩ | hw
  ·rw [hw] at lw
   refine bf (fun _=> ?_) (fun c=>by rw [lw] at c;simp at c)
   refine ⟨_,rfl,a,C,dx,_,_,_,rfl,R2.obj,rfl,Yi,_,rfl,_,rfl,sa,_,_,_,rfl,rfl,Jh,iI,_,rfl,sa,_,_,_,rfl,rfl,Jh,iJ,?_⟩
   dsimp only [gN]
   refine fin .cE H2 _ _ (av.refl _) (.inl ⟨rfl,hw⟩) fun H' CY s_ s' l' R' W' => ?_
   have l' :=aU.of (K:=K) l'
   refine ⟨_,rfl,l,_,rfl,.inl l',rfl,_,rfl,?_⟩
   refine bf (fun c=>by rw [lw] at c;simp at c) (fun _=> ?_)
   refine ⟨_,rfl,l,_,rfl,.inl l',rfl,_,rfl,?_⟩
   refine bf (fun c=>by rw [lw] at c;simp at c) (fun _=> ?_)
   exact ⟨_,_,_,CY,s_,rfl,s',R',W'⟩
  ·rw [hw] at lw h4
   obtain ⟨w0,rfl⟩:∃w0,ws=[w0]:=by
    match ws,lw with
    | [w0],_=>exact ⟨w0,rfl⟩
   have hw0:d7 K H2 w0 (wx,wy):=by
    cases h4 with
    | cons h _=>exact h
   obtain ⟨wa,y2,y3,rfl,Kk,NA,hm2⟩:=hw0
   refine bf (fun c=>by simp at c) (fun _=> ?_)
   refine ⟨_,rfl,l,_,rfl,.inl l2,rfl,_,rfl,?_⟩
   refine bf (fun _=> ?_) (fun c=>absurd rfl c)
   refine ⟨_,rfl,a,C,dx,_,_,_,rfl,R2.obj,rfl,VX,_,rfl,_,rfl,sa,_,_,_,rfl,rfl,Jh,iI,_,rfl,sa,_,_,_,rfl,rfl,Jh,iJ,?_⟩
   refine ⟨_,rfl,l,_,_,_,rfl,rfl,l2,rfl,wa,_,_,_,rfl,rfl,Kk,iI,_,rfl,l,_,_,_,rfl,rfl,l2,rfl,wa,_,_,_,rfl,rfl,Kk,iJ,?_⟩
   intro ie d1 VY Yj ne1
   have s4:av H2 (upd (upd H2 d1 (.own ie)) ie (.ins CR d1 [])):=fun b o e=>by rw [aj (au e VY),aj (au e Yj)];exact e
   have e4:(upd (upd H2 d1 (.own ie)) ie (.ins CR d1 [])) ie =some (.ins CR d1 []):=ak
   generalize upd (upd H2 d1 (.own ie)) ie (.ins CR d1 [])=H4 at s4 e4 ⊢
   refine ⟨ie,d1,y2,y3,wx,wy,rfl,e4,NA.same s4,hm2.same s4,wn,fun p5 n5=>⟨rfl,?_⟩⟩
   have zC:p5≠ie :=fun z=>by rw [z,e4] at n5;cases n5
   have s5:av H2 (upd (upd H4 p5 (.tup [y2,y3])) ie (.ins CR d1 [("way",.ref p5)])):=fun b o e=>by
    have z:b≠ie :=fun z=>by rw [z,VY] at e;cases e
    rw [aj z]
    exact aK n5 _ _ _ (s4 _ _ e)
   have e5:(upd (upd H4 p5 (.tup [y2,y3])) ie (.ins CR d1 [("way",.ref p5)])) ie =some (.ins CR d1 [("way",.ref p5)]):=ak
   have t5:(upd (upd H4 p5 (.tup [y2,y3])) ie (.ins CR d1 [("way",.ref p5)])) p5=some (.tup [y2,y3]):=by rw [aj zC,ak]
   generalize upd (upd H4 p5 (.tup [y2,y3])) ie (.ins CR d1 [("way",.ref p5)])=H5 at s5 e5 t5 ⊢
   have Yk:d7 K H5 (.ref p5) (wx,wy):=ng t5 (NA.same s5) (hm2.same s5)
   dsimp only [gN]
   refine fin (.ref ie) H5 _ _ s5 (.inr ⟨ie,CR,d1,_,["self"],jq K CR,rfl,e5,Ji _,wR,fun H6 e6 t6 Q' an=>⟨ie,d1,p5,(wx,wy),rfl,e6,Yk.a8 t6,by rw [hw] at an;exact an⟩⟩) fun H' CY s_ s' l' R' W' => ?_
   refine ⟨_,rfl,l,_,rfl,.inl (aU.of (K:=K) l'),rfl,_,rfl,?_⟩
   refine bf (fun c=>by simp at c) (fun _=> ?_)
   exact ⟨_,_,_,CY,s_,rfl,s',R',W'⟩
  ·rw [hw] at lw
   refine bf (fun c=>by rw [lw] at c;simp at c) (fun _=> ?_)
   refine ⟨_,rfl,l,_,rfl,.inl l2,rfl,_,rfl,?_⟩
   refine bf (fun c=>by rw [lw] at c;simp at c) (fun _=> ?_)
   refine ⟨_,rfl,l,_,rfl,.inl l2,rfl,_,rfl,?_⟩
   refine bf (fun _=> ?_) (fun c=>by rw [lw] at c;simp at c)
   refine ⟨_,rfl,a,C,dx,_,_,_,rfl,R2.obj,rfl,VX,_,rfl,_,rfl,sa,_,_,_,rfl,rfl,Jh,iI,_,rfl,sa,_,_,_,rfl,rfl,Jh,iJ,?_⟩
   intro ie d1 VY Yj ne1
   have s4:av H2 (upd (upd H2 d1 (.own ie)) ie (.ins CF d1 [])):=fun b o e=>by rw [aj (au e VY),aj (au e Yj)];exact e
   have e4:(upd (upd H2 d1 (.own ie)) ie (.ins CF d1 [])) ie =some (.ins CF d1 []):=ak
   generalize upd (upd H2 d1 (.own ie)) ie (.ins CF d1 [])=H4 at s4 e4 ⊢
   dsimp only [gN]
   refine fin (.ref ie) H4 _ _ s4 (.inr ⟨ie,CF,d1,_,["self"],jr K,rfl,e4,rfl,wF,fun H6 _ _ Q' an=>⟨ie,rfl,by rw [hw] at an;exact an⟩⟩) fun H' CY s_ s' l' R' W' => ?_
   exact ⟨_,_,_,CY,s_,rfl,s',R',W'⟩
 ·rintro σ H2 ⟨o4,o5,o6,kP,kW,rfl,s2,R2,W2⟩
  rw [lu,afc] at R2 W2
  have lv:d9.length=ao.length:=Paired.length pb
  refine ⟨_,rfl,bA,rfl,⟨_,aU.of (s2 _ _ hb)⟩,bP (K:=K) (a:=bA) (xs:=d9) (fun i σ H' =>∃(o3 o7 o8:Option V) (kB:List (Key×V)),σ=[some (.ref pA),some (.ref bA),some (.ref a),o3,o5,o6,o7,o8]∧av H H' ∧fE K H' C a dx pP pW pB (pins.map fun p=>(p.nm,kg p.sp)) ((ao.take i).map fun b=>(b.nm,b.one.nm,b.other.nm)) kP kW kB∧uw K H' (pins.map fun p=>(p.nm,p.ws)) kW) ⟨_,none,none,[],rfl,s2,R2,W2⟩ (fun i σ H' _ h=>by
    obtain ⟨_,_,_,_,_,s,_⟩:=h
    exact aU.of (s _ _ hb)) ?_ ?_⟩
  ·rintro i u σ H3 hu ⟨o3,o7,o8,kB,rfl,s3,R3,W3⟩
   obtain ⟨b,VZ,zJ⟩:=aE pb hu
   have mb:b∈ao:=ir VZ
   obtain ⟨ta,i1,j1,rfl,h1,g1,g2⟩:=zJ.same s3
   obtain ⟨m1,m2,m3⟩:=gb.ends b mb
   have tk:=take_snoc VZ
   have il:i < ao.length:=(be.mp VZ).1
   have Ri :∀(k:Nat) (p:aH),pins[k]? =some p→∃(c la:Addr) (sv:V),fN us (k:Int)=some (.ref c)∧bL K H3 c [.str p.nm,sv,.ref la]:=fun k p ek=>by
    obtain ⟨u',Yl,Ym⟩:=aE (cu pp) ek
    obtain ⟨c,la,sv,ws,rfl,q1,_⟩:=fS.same Ym s3
    exact ⟨c,la,sv,bG Yl,q1⟩
   obtain ⟨c1,la1,Yn,MT,q1⟩:=Ri _ _ g1
   obtain ⟨c2,Yo,Yp,MU,q2⟩:=Ri _ _ g2
   refine ⟨ta,_,rfl,h1,rfl,_,_,rfl,_,_,rfl,_,_,rfl,rfl,?_⟩
   have lp3:=aU.of (K:=K) (s3 _ _ hp)
   refine ⟨_,rfl,a,C,dx,_,_,_,rfl,R3.obj,rfl,Yh,_,rfl,_,rfl,_,rfl,pA,_,_,_,rfl,rfl,lp3,MT,c1,_,_,_,rfl,rfl,q1,rfl,_,rfl,_,rfl,pA,_,_,_,rfl,rfl,lp3,MU,c2,_,_,_,rfl,rfl,q2,rfl,?_⟩
   refine ⟨a,dx,pP,pW,pB,_,_,kP,kW,kB,b.nm,b.one.nm,b.other.nm,rfl,R3,fun z=> ?_,?_,?_,m3,?_,fun H' XR k' R' => ?_⟩
   ·rw [aeS] at z
    obtain ⟨b',gF,e'⟩:=abt.mp z
    exact ft (nm:=bq.nm) gb.nb VZ gF e'
   ·rw [aeS]
    exact abt.mpr ⟨_,m1,rfl⟩
   ·rw [aeS]
    exact abt.mpr ⟨_,m2,rfl⟩
   ·rw [aa_,ae2]
    omega
   ·refine ⟨_,_,_,XR,rfl,fun c o z=>k' c o (au z nB) (s3 _ _ z),?_,?_⟩
    ·rw [tk,aeR]
     exact R'
    ·refine Paired.bZ W3 fun p' kv z=>⟨z.1,?_⟩
     obtain ⟨l',ki,z1,z2,z3⟩:=z.2
     refine ⟨l',ki,z1,k' _ _ (fun z=>by rw [z,R3.br] at z2;cases z2) z2,z3.a8 fun c xs r=> ?_⟩
     rcases r with r | ⟨o',r⟩
     ·exact .inl (k' _ _ (fun e=>by rw [e,R3.br] at r;cases r) r)
     ·exact .inr ⟨o',k' _ _ (fun e=>by rw [e,R3.br] at r;cases r) r⟩
  ·rintro σ H3 ⟨o3,o7,o8,kB,rfl,s3,R3,W3⟩
   rw [lv,afc] at R3
   exact ⟨_,rfl,q a H3 s3 ⟨⟨dx,pP,pW,pB,kP,kW,kB,R3,W3⟩⟩⟩
def ax (k:Int)(p:Rat×Rat):Rat:=if k=0 then p.1 else p.2
theorem tZ {K:Frag}{H:Hp}{v:V}{p:Rat×Rat}{k:Int}(hk:k=0∨k=1)(h:d7 K H v p):∃(a:Addr) (xs:List V) (u:V),v=.ref a∧bL K H a xs∧fN xs k=some u∧eQ K H u (ax k p):=by
 obtain ⟨a,u1,u2,rfl,hq,h1,h2⟩:=h
 rcases hk with rfl | rfl
 ·exact ⟨a,_,u1,rfl,hq,rfl,h1⟩
 ·exact ⟨a,_,u2,rfl,hq,rfl,h2⟩
theorem DU {n:Nat}{p:Rat×Rat}{k:Int}(h:Sz n p.1∧Sz n p.2):Sz n (ax k p):=by
 unfold ax
 split
 ·exact h.1
 ·exact h.2
theorem q5 {K:Frag}{H:Hp}{us:List V}{pins:List aH}{k:Nat}{p:aH}(pp:Paired (fS K H) us pins)(e:pins[k]? =some p):∃(c la:Addr) (sv:V),fN us (k:Int)=some (.ref c)∧bL K H c [.str p.nm,sv,.ref la]∧d7 K H sv p.sp:=by
 obtain ⟨u',Yl,Ym⟩:=aE (cu pp) e
 obtain ⟨c,la,sv,ws,rfl,q1,q2,_⟩:fS K H u' p:=Ym
 exact ⟨c,la,sv,bG Yl,q1,q2⟩
inductive q_ (K:Frag)(vs:List V)(H:Hp)(Q:VK)(E_:XK):Prop where
 | mk (pA:Addr) (us:List V) (pins:List aH) (u:V) (b:bq) (k:Int) (_:vs=[.ref pA,u,.int k]) (_:H pA=some (.lst us)) (_:Paired (fS K H) us pins) (_:gU pins) (_:iU K H pins u b) (_:(k=0∨k=1)) (_:∀(v:V) (H' :Hp),av H H' →fQ K H' v 49 (ax k b.other.sp - ax k b.one.sp)→Q v H'):q_ K vs H Q E_
theorem Rj:aG ["_law_pins_here","_law_bar","_law_axis"] ["_law_pins_here","_law_bar","_law_axis"] (ag yD):=sq
theorem Rk (D:Def K mg "_law_arm" yD ["_law_pins_here","_law_bar","_law_axis"])(j4:Fn P w K mg base (a9 P w) 1 "_law_sum" ["_law_one","_law_other"] (b7 K fB))(DV:Fn P w K mg base (a9 P w) 1 "_law_turned" ["_law_one"] (eR K)):
  Fn P w K mg base (a9 P w) 2 "_law_arm" ["_law_pins_here","_law_bar","_law_axis"] (q_ K):=by
 refine D.ok Rj (fun vs H Q E h=> ?_) (fun f bF A outer s H vs Q E hr h=> ?_)
 ·obtain ⟨pA,us,pins,u,b,k,rfl,_⟩:=h
  rfl
 obtain ⟨pA,us,pins,u,b,k,rfl,hp,pp,gp,⟨ta,i,j,rfl,hb,e1,e2⟩,hk,q⟩:=h
 refine ⟨_,(ah (aF (aA j4 hr.mo pX (aq (aY iE (aS (aY aX (pv 0) (aS (pv 1)) (fun _ _=>rfl))) (pv 2) (fun _ _=>rfl)) (aq (aA DV hr.mo pX (aq (aY iE (aS (aY aX (pv 0) (aS (pv 1)) (fun _ _=>rfl))) (pv 2) (fun _ _=>rfl)) aa)) aa))))),?_⟩
 obtain ⟨c1,l1,Yn,MT,q1,r1⟩:=q5 pp e1
 obtain ⟨c2,l2,Yp,MU,q2,r2⟩:=q5 pp e2
 obtain ⟨a1,xs1,u1,rfl,t1,v1,n1⟩:=tZ hk r1
 obtain ⟨a2,xs2,u2,rfl,t2,v2,n2⟩:=tZ hk r2
 have z1:=DU (k:=k) (gp.sz _ (ir e1))
 have z2:=DU (k:=k) (gp.sz _ (ir e2))
 have lp:=aU.of (K:=K) hp
 refine ⟨_,rfl,_,rfl,ta,_,_,_,rfl,rfl,hb,rfl,pA,_,_,_,rfl,rfl,lp,MU,c2,_,_,_,rfl,rfl,q2,rfl,_,rfl,a2,_,_,_,rfl,rfl,t2,v2,_,rfl,_,rfl,ta,_,_,_,rfl,rfl,hb,rfl,pA,_,_,_,rfl,rfl,lp,MT,c1,_,_,_,rfl,rfl,q1,rfl,_,rfl,a1,_,_,_,rfl,rfl,t1,v1,?_⟩
 dsimp only [gN]
 show eR K [_] _ _ E0
 refine m_ (de n1 (kq z1 (aeG _))) fun p3 H3 s3 n3=> ?_
 show b7 K fB [_,_] _ _ E0
 refine h_ ((de n2 (kq z2 (aeG _))).same s3) n3 (by decide) fun p4 H4 s4 n4=> ?_
 refine q (.ref p4) H4 (s3.trans s4) ?_
 rw [ao_]
 exact n4
inductive nj (K:Frag)(vs:List V)(H:Hp)(Q:VK)(E_:XK):Prop where
 | mk (l1 l2:Addr) (u1 u2 v1 v2:V) (x1 x2 y1 y2:Rat) (m n:Nat) (_:vs=[.ref l1,.ref l2]) (_:(aU K H l1 [u1,u2]∨bL K H l1 [u1,u2])) (_:(aU K H l2 [v1,v2]∨bL K H l2 [v1,v2])) (_:fQ K H u1 m x1) (_:fQ K H u2 m x2) (_:fQ K H v1 n y1) (_:fQ K H v2 n y2) (_:m+n≤30000000) (_:∀(v:V) (H' :Hp),av H H' →fQ K H' v (m+n+(m+n)+1) (x1*y1+x2*y2)→Q v H'):nj K vs H Q E_
theorem Rl:aG ["_law_one","_law_other"] ["_law_one","_law_other"] (ag yK):=sq
theorem Rm (D:Def K mg "_law_dot" yK ["_law_one","_law_other"])(j4:Fn P w K mg base (a9 P w) 1 "_law_sum" ["_law_one","_law_other"] (b7 K fB))(DW:Fn P w K mg base (a9 P w) 1 "_law_times" ["_law_one","_law_other"] (b7 K j3)):
  Fn P w K mg base (a9 P w) 2 "_law_dot" ["_law_one","_law_other"] (nj K):=by
 refine D.ok Rl (fun vs H Q E h=> ?_) (fun f bF A outer s H vs Q E hr h=> ?_)
 ·obtain ⟨l1,l2,u1,u2,v1,v2,x1,x2,y1,y2,m,n,rfl,_⟩:=h
  rfl
 obtain ⟨l1,l2,u1,u2,v1,v2,x1,x2,y1,y2,m,n,rfl,h1,h2,a1,a2,b1,b2,le,q⟩:=h
 refine ⟨_,(ah (aF (aA j4 hr.mo pX (aq (aA DW hr.mo pX (aq (aY wo (pv 0) af (fun _ _=>rfl)) (aq (aY wo (pv 1) af (fun _ _=>rfl)) aa))) (aq (aA DW hr.mo pX (aq (aY wo (pv 0) af (fun _ _=>rfl)) (aq (aY wo (pv 1) af (fun _ _=>rfl)) aa))) aa))))),?_⟩
 refine ⟨_,rfl,l1,_,_,_,rfl,rfl,h1,rfl,_,rfl,l2,_,_,_,rfl,rfl,h2,rfl,?_⟩
 dsimp only [gN]
 show b7 K j3 [_,_] _ _ E0
 refine lF a1 b1 (by omega) fun p3 H3 s3 n3=> ?_
 refine ⟨_,rfl,l1,_,_,_,rfl,rfl,(h1.imp s3.seq (Ty.av.cR s3)),rfl,_,rfl,l2,_,_,_,rfl,rfl,(h2.imp s3.seq (Ty.av.cR s3)),rfl,?_⟩
 dsimp only [gN]
 show b7 K j3 [_,_] _ _ E0
 refine lF (a2.same s3) (b2.same s3) (by omega) fun p4 H4 s4 n4=> ?_
 show b7 K fB [_,_] _ _ E0
 refine h_ (n3.same s4) n4 (by omega) fun p5 H5 s5 n5=> ?_
 exact q (.ref p5) H5 (s3.trans (s4.trans s5)) n5
structure FF (K:Frag)(H:Hp)(pins:List aH)(d:Addr)(kM:List (Key×V))(M:Str→Rat×Rat)(N:Nat):Prop where
 hM:H d=some (.dK kM)
 keys:kM.map (·.1)=pins.map (fun p=>(afb p.nm:Key))
 tM:∀p∈pins,∃t v1 v2,bS kM (.inr p.nm)=some (.ref t)∧H t=some (.tup [v1,v2])∧eQ K H v1 (M p.nm).1∧eQ K H v2 (M p.nm).2
 zb:∀p∈pins,Zb N (M p.nm).1∧Zb N (M p.nm).2
 hN:N≤6000000
theorem FF.same {H H' :Hp}{pins:List aH}{d:Addr}{kM:List (Key×V)}{M:Str→Rat×Rat}{N:Nat}(h:FF K H pins d kM M N)(s:av H H'):FF K H' pins d kM M N:=⟨s _ _ h.hM,h.keys,fun p hp=>by
 obtain ⟨t,v1,v2,a,b,c,d⟩:=h.tM p hp
 exact ⟨t,v1,v2,a,s _ _ b,c.same s,d.same s⟩,h.zb,h.hN⟩
theorem FF.get {H:Hp}{pins:List aH}{d:Addr}{kM:List (Key×V)}{M:Str→Rat×Rat}{N:Nat}(h:FF K H pins d kM M N){p:aH}(hp:p∈pins):∃t v1 v2,cQ H d (.str p.nm) (some (.ref t))∧H t=some (.tup [v1,v2])∧eQ K H v1 (M p.nm).1∧eQ K H v2 (M p.nm).2:=by
 obtain ⟨t,v1,v2,a,b,c,d⟩:=h.tM p hp
 refine ⟨t,v1,v2,?_,b,c,d⟩
 have:=cQ.k (k:=.inr p.nm) h.hM
 rw [a] at this
 exact this
theorem KQ {n:Nat}{p:Rat×Rat}{k:Int}(h:Zb n p.1∧Zb n p.2):Zb n (ax k p):=by
 unfold ax
 split
 ·exact h.1
 ·exact h.2
inductive nq (K:Frag)(vs:List V)(H:Hp)(Q:VK)(E_:XK):Prop where
 | mk (pA dM:Addr) (us:List V) (pins:List aH) (u:V) (b:bq) (kM:List (Key×V)) (M:Str→Rat×Rat) (N:Nat) (_:vs=[.ref pA,u,.ref dM]) (_:H pA=some (.lst us)) (_:Paired (fS K H) us pins) (_:gU pins) (_:iU K H pins u b) (_:FF K H pins dM kM M N) (_:∀(v:V) (H' :Hp),av H H' →fQ K H' v (4*N+200) (vw M b)→Q v H'):nq K vs H Q E_
theorem wZ:aG ["_law_pins_here","_law_bar","_law_motion","_law_here","_law_there","_law_more"] ["_law_pins_here","_law_bar","_law_motion"] (ag yL):=sq
theorem Rn (D:Def K mg "_law_longer" yL ["_law_pins_here","_law_bar","_law_motion"])(bu:mg "range"=none)(j4:Fn P w K mg base (a9 P w) 1 "_law_sum" ["_law_one","_law_other"] (b7 K fB))(DV:Fn P w K mg base (a9 P w) 1 "_law_turned" ["_law_one"] (eR K))(Jj:Fn P w K mg base (a9 P w) 2 "_law_arm" ["_law_pins_here","_law_bar","_law_axis"] (q_ K))(DX:Fn P w K mg base (a9 P w) 2 "_law_dot" ["_law_one","_law_other"] (nj K)):
  Fn P w K mg base (a9 P w) 3 "_law_longer" ["_law_pins_here","_law_bar","_law_motion"] (nq K):=by
 refine D.ok wZ (fun vs H Q E h=> ?_) (fun f bF A outer s H vs Q E hr h=> ?_)
 ·obtain ⟨pA,dM,us,pins,u,b,kM,M,N,rfl,_⟩:=h
  rfl
 obtain ⟨pA,dM,us,pins,u,b,kM,M,N,rfl,hp,pp,gp,zJ,mo,q⟩:=h
 have hN:=mo.hN
 have L2:2≤sizeLine:=by decide
 refine ⟨_,(ae (aC (i:=3) wZ.nd rfl (aff rfl) (bX (bU hr) (pv 2) (aS (aY aX (pv 0) (aS (pv 1)) (fun _ _=>rfl))) (fun _ _=>rfl)))
  (ae (aC (i:=4) wZ.nd rfl (aff rfl) (bX (bU hr) (pv 2) (aS (aY aX (pv 0) (aS (pv 1)) (fun _ _=>rfl))) (fun _ _=>rfl)))
  (ae (g6 (i:=5) wZ.nd rfl (ab_ rfl) (tn:=["_law_axis"]) (fr:=["_law_there","_law_here"]) (caps:=[4,3]) rfl ⟨rfl,by decide+kernel,rfl,by decide+kernel,by decide+kernel,rfl,⟨(by first | exact ab_ rfl | exact aff rfl),⟨(by first | exact ab_ rfl | exact aff rfl),trivial⟩⟩,⟨(by first | exact ab_ rfl | exact aff rfl),⟨(by first | exact ab_ rfl | exact aff rfl),trivial⟩⟩⟩ (bM rfl bu (aq af aa)) (fun _ _ _ _=>(aw (i:=0) (show (["_law_axis","_law_there","_law_here"]:List Str).Nodup from by decide+kernel) rfl (ab_ rfl))) (fun _ _ _ _=>cj) (fun _ _ _ _=>(aA j4 hr.mo (mj (by first | assumption | exact a9.mh) rfl) (aq (aY (cp (K:=K) rfl) (pv 1) (pv 0) (fun _ _=>rfl)) (aq (aA DV hr.mo (mj (by first | assumption | exact a9.mh) rfl) (aq (aY (cp (K:=K) rfl) (pv 2) (pv 0) (fun _ _=>rfl)) aa)) aa)))))
  (ah (aF (aA DX hr.mo pX (aq (bR (aq (aA Jj hr.mo pX (aq (pv 0) (aq (pv 1) (aq af aa)))) (aq (aA Jj hr.mo pX (aq (pv 0) (aq (pv 1) (aq af aa)))) aa))) (aq (pv 5) aa)))))))),?_⟩
 obtain ⟨ta,i,j,rfl,hb,e1,e2⟩:=id zJ
 obtain ⟨c1,l1,Yn,MT,q1,_⟩:=q5 pp e1
 obtain ⟨c2,l2,Yp,MU,q2,_⟩:=q5 pp e2
 obtain ⟨t1,y1,y1',dg1,et1,m11,m12⟩:=mo.get (ir e1)
 obtain ⟨t2,y2,y2',dg2,et2,m21,m22⟩:=mo.get (ir e2)
 have XI:d7 K H (.ref t1) (M b.one.nm):=⟨t1,y1,y1',rfl,bL.of et1,m11,m12⟩
 have hw2:d7 K H (.ref t2) (M b.other.nm):=⟨t2,y2,y2',rfl,bL.of et2,m21,m22⟩
 have lp:=aU.of (K:=K) hp
 refine ⟨_,rfl,_,rfl,_,rfl,ta,_,_,_,rfl,rfl,hb,rfl,pA,_,_,_,rfl,rfl,lp,MT,c1,_,_,_,rfl,rfl,q1,rfl,dM,_,rfl,dg1,?_⟩
 refine ⟨_,rfl,_,rfl,_,rfl,ta,_,_,_,rfl,rfl,hb,rfl,pA,_,_,_,rfl,rfl,lp,MU,c2,_,_,_,rfl,rfl,q2,rfl,dM,_,rfl,dg2,?_⟩
 have z1:=mo.zb _ (ir e1)
 have z2:=mo.zb _ (ir e2)
 refine ⟨(2:Int),rfl,by decide,by decide,fun D1 n1=> ?_⟩
 refine uS (lo:=0) (n:=2) (cap:=[some (.ref t2),some (.ref t1)]) (fun k v H=>fQ K H v (N+N+1) (ax (k:Int) (M b.other.nm) - ax (k:Int) (M b.one.nm))) n1 (by decide) (fun _ _ _ _ _ h0 ks h=>by
   refine fQ.a8 h fun b xs r=> ?_
   rcases r with r | ⟨o',r⟩
   ·exact .inl (ks _ _ (fun e=>by rw [e,h0] at r;cases r) r)
   ·exact .inr ⟨o',ks _ _ (fun e=>by rw [e,h0] at r;cases r) r⟩) ?_ ?_
 ·intro k H3 R hk s3 kk
  have ek:(0:Int)+(k:Int)=(k:Int):=afa _
  rw [ek]
  have CM:(k:Int)=0∨(k:Int)=1:=by omega
  obtain ⟨a1,xs1,u1,MT,t1,v1,m1⟩:=tZ CM (XI.same s3)
  obtain ⟨a2,xs2,u2,MU,t2,v2,m2⟩:=tZ CM (hw2.same s3)
  cases MT
  cases MU
  refine ⟨_,rfl,_,rfl,_,_,_,_,rfl,rfl,t2,v2,_,rfl,_,rfl,_,_,_,_,rfl,rfl,t1,v1,?_⟩
  dsimp only [gN]
  show eR K [_] _ _ E0
  refine m_ (de m1 (KQ z1)) fun p4 H4 s4 n4=> ?_
  show b7 K fB [_,_] _ _ E0
  refine h_ ((de m2 (KQ z2)).same s4) n4 (by omega) fun p5 H5 s5 n5=> ?_
  refine kk _ _ (s4.trans s5) ?_
  rw [ao_]
  exact n5
 intro ys H3 ly hy s3 hD
 obtain ⟨y1,y2,rfl⟩:∃y1 y2,ys=[y1,y2]:=by
  match ys,ly with
  | [y1,y2],_=>exact ⟨y1,y2,rfl⟩
 have k1:=hy 0 y1 rfl
 have k2:=hy 1 y2 rfl
 refine ⟨_,rfl,_,rfl,pA,us,pins,_,b,0,rfl,s3 _ _ hp,Paired.bZ pp fun _ _ z=>z.same s3,gp,zJ.same s3,.inl rfl,fun v4 H4 s4 n4=> ?_⟩
 have iW:=s3.trans s4
 refine ⟨_,rfl,_,rfl,pA,us,pins,_,b,1,rfl,iW _ _ hp,Paired.bZ pp fun _ _ z=>z.same iW,gp,zJ.same iW,.inr rfl,fun v5 H5 s5 n5=>⟨L2,?_⟩⟩
 intro l6 m6;generalize eX:upd _ l6 _=H6;have ⟨s6,e6⟩:=nw m6 eX;clear eX
 have FG:=s4.trans (s5.trans s6)
 refine ⟨_,rfl,l6,D1,_,_,_,_,_,_,_,_,49,N+N+1,rfl,.inl (aU.of e6),.inl (aU.of (FG _ _ hD)),(n4.same (s5.trans s6)),n5.same s6,k1.same FG,k2.same FG,by omega,fun v H7 s7 n7=> ?_⟩
 exact q v H7 (s3.trans (FG.trans s7)) (n7.up (by omega))
inductive ra (K:Frag)(vs:List V)(H:Hp)(Q:VK)(E_:XK):Prop where
 | mk (pA dM:Addr) (us:List V) (pins:List aH) (kM:List (Key×V)) (M:Str→Rat×Rat) (N:Nat) (_:vs=[.ref pA,.ref dM]) (_:H pA=some (.lst us)) (_:Paired (fS K H) us pins) (_:gU pins) (_:FF K H pins dM kM M N) (_:(∀p∈pins,∀w∈p.ws,dt w (M p.nm)=0)) (_:∀(H' :Hp),av H H' →Q (.bl true) H'):ra K vs H Q E_
theorem t_:aG ["_law_pins_here","_law_motion","_law_name_here","_law_spot_here","_law_ways_here","_law_way"] ["_law_pins_here","_law_motion"] (ag yM):=sq
theorem Ro (D:Def K mg "_law_keeps" yM ["_law_pins_here","_law_motion"])(DX:Fn P w K mg base (a9 P w) 2 "_law_dot" ["_law_one","_law_other"] (nj K)):
  Fn P w K mg base (a9 P w) 3 "_law_keeps" ["_law_pins_here","_law_motion"] (ra K):=by
 refine D.ok t_ (fun vs H Q E h=> ?_) (fun f bF A outer s H vs Q E hr h=> ?_)
 ·obtain ⟨pA,dM,us,pins,kM,M,N,rfl,_⟩:=h
  rfl
 obtain ⟨pA,dM,us,pins,kM,M,N,rfl,hp,pp,gp,mo,ke,q⟩:=h
 have hN:=mo.hN
 refine ⟨_,(ae (bw PassesOwn.never rfl (bh (pv 0)) (dB rfl (aV (aw (i:=2) t_.nd rfl (ab_ rfl)) (aV (aw (i:=3) t_.nd rfl (ab_ rfl)) (aV (aw (i:=4) t_.nd rfl (ab_ rfl)) cC)))) (ah (bw PassesOwn.never rfl (bh (pv 4)) (aw (i:=5) t_.nd rfl (ab_ rfl)) (ah (bg (aQ fG (aS (aA DX hr.mo pX (aq (pv 5) (aq (bX (bU hr) (pv 1) (pv 2) (fun _ _=>rfl)) aa)))) af (aT _)) (ah (aF cg)) aL)))))
  (ah (aF cg))),?_⟩
 refine ⟨_,rfl,pA,rfl,⟨_,aU.of hp⟩,bP (K:=K) (a:=pA) (xs:=us) (fun i σ H' =>∃(o2 o3 o4 o5:Option V),σ=[some (.ref pA),some (.ref dM),o2,o3,o4,o5]∧av H H') ⟨none,none,none,none,rfl,av.refl _⟩ (fun i σ H' _ h=>by
   obtain ⟨_,_,_,_,_,s⟩:=h
   exact aU.of (s _ _ hp)) ?_ ?_⟩
 ·rintro i u σ H4 hu ⟨o2,o3,o4,o5,rfl,s4⟩
  obtain ⟨p,ep,oy⟩:=aE pp hu
  have mp:p∈pins:=ir ep
  obtain ⟨ta,l,sv,ws,rfl,h1,h2,h3,h4⟩:=oy.same s4
  refine ⟨ta,_,rfl,h1,rfl,_,_,rfl,_,_,rfl,_,_,rfl,rfl,?_⟩
  refine ⟨_,rfl,l,rfl,⟨_,aU.of h3⟩,bP (K:=K) (a:=l) (xs:=ws) (fun j σ H' =>∃(o5:Option V),σ=[some (.ref pA),some (.ref dM),some (.str p.nm),some sv,some (.ref l),o5]∧av H4 H') ⟨o5,rfl,av.refl _⟩ (fun j σ H' _ h=>by
     obtain ⟨_,_,s⟩:=h
     exact aU.of (s _ _ h3)) ?_ ?_⟩
  ·rintro j wv σ H5 hwv ⟨o5,rfl,s5⟩
   obtain ⟨wq,V0,Yq⟩:=aE h4 hwv
   have mw:wq∈p.ws:=ir V0
   have zw:=(gp.ws p mp).sz wq mw
   obtain ⟨wa,y1,y2,rfl,Kk,b1,b2⟩:=Yq.same s5
   have pG:=s4.trans s5
   obtain ⟨t,v1,v2,dg,et,m1,m2⟩:=(mo.same pG).get mp
   have zp:=mo.zb p mp
   refine ⟨_,rfl,_,rfl,_,rfl,dM,_,rfl,dg,?_⟩
   dsimp only [gN]
   refine ⟨wa,t,y1,y2,v1,v2,_,_,_,_,22,N,rfl,.inr Kk,.inr (bL.of et),de b1 (kq zw.1 (aeG _)),de b2 (kq zw.2 (aeG _)),de m1 zp.1,de m2 zp.2,by omega,fun v H6 s6 n6=> ?_⟩
   obtain ⟨x,⟨p6,rfl,k1⟩,k2,k3,k4⟩:=n6
   refine ⟨p6,_,_,_,rfl,rfl,k1,iI,rfl,_,rfl,?_⟩
   have e0:x.1=0:=(qV k2).mpr (by rw [k3];exact ke p mp wq mw)
   rw [e0]
   refine bf (fun c=>by simp at c) (fun _=> ?_)
   exact ⟨_,rfl,s5.trans s6⟩
  ·rintro σ H5 ⟨o5,rfl,s5⟩
   exact ⟨_,_,_,_,rfl,s4.trans s5⟩
 ·rintro σ H4 ⟨o2,o3,o4,o5,rfl,s4⟩
  exact q H4 s4
structure Found (K:Frag)(H:Hp)(fA:Addr)(ls:List Addr)(F:Nat→Rat×Rat)(B:Nat):Prop where
 hf:H fA=some (.lst (ls.map V.ref))
 nd:ls.Nodup
 nf:fA∉ls
 row:∀(i:Nat) (l:Addr),ls[i]? =some l→∃v1 v2,H l=some (.lst [v1,v2])∧fQ K H v1 B (F i).1∧fQ K H v2 B (F i).2
def KL (ls:List Addr)(H H' :Hp):Prop:=∀b o,b∉ls→H b=some o→H' b=some o
theorem Found.same {H H' :Hp}{fA:Addr}{ls:List Addr}{F:Nat→Rat×Rat}{B:Nat}(h:Found K H fA ls F B)(s:av H H'):Found K H' fA ls F B:=⟨s _ _ h.hf,h.nd,h.nf,fun i l e=>by
 obtain ⟨v1,v2,a,b,c⟩:=h.row i l e
 exact ⟨v1,v2,s _ _ a,b.same s,c.same s⟩⟩
theorem Found.up {H:Hp}{fA:Addr}{ls:List Addr}{F:Nat→Rat×Rat}{B B' :Nat}(h:Found K H fA ls F B)(l:B≤B'):Found K H fA ls F B' :=⟨h.hf,h.nd,h.nf,fun i x e=>by
 obtain ⟨v1,v2,a,b,c⟩:=h.row i x e
 exact ⟨v1,v2,a,b.up l,c.up l⟩⟩
theorem Found.a8 {H H' :Hp}{fA:Addr}{ls:List Addr}{F:Nat→Rat×Rat}{B:Nat}(h:Found K H fA ls F B)(k:KL ls H H'):bE H H' :=fun b xs r=>by
 have key:∀o,H b=some o→(∀ys,o≠.lst ys)→H' b=some o:=fun o e n=>k b o (fun m=>by
  obtain ⟨i,ei⟩:=aeK m
  obtain ⟨v1,v2,a,_⟩:=h.row i b ei
  rw [a] at e
  exact n _ (aeY e).symm) e
 rcases r with r | ⟨o',r⟩
 ·exact .inl (key _ r fun ys z=>nomatch z)
 ·exact .inr ⟨o',key _ r fun ys z=>nomatch z⟩
def dC (F:Nat→Rat×Rat)(k:Nat)(a:Int)(d:Rat):Nat→Rat×Rat:=fun i=>if i=k then (if a=0 then ((F i).1+d,(F i).2) else ((F i).1,(F i).2+d)) else F i
theorem rf {F:Nat→Rat×Rat}{k:Nat}{a:Int}{d:Rat}(ha:a=0∨a=1){c:Int}(hc:c=0∨c=1)(i:Nat):ax c (dC F k a d i)=ax c (F i)+if i=k∧c=a then d else 0:=by
 unfold dC ax
 by_cases hi:i=k
 ·subst hi
  rcases ha with rfl | rfl <;> rcases hc with rfl | rfl <;> simp <;> grind
 ·simp [hi]
  grind
inductive vA (K:Frag)(vs:List V)(H:Hp)(Q:VK)(E_:XK):Prop where
 | mk (fA:Addr) (ls:List Addr) (F:Nat→Rat×Rat) (B:Nat) (k:Nat) (a:Int) (v:V) (m:Nat) (d:Rat) (_:vs=[.ref fA,.int (k:Int),.int a,v]) (_:Found K H fA ls F B) (_:k < ls.length) (_:(a=0∨a=1)) (_:fQ K H v m d) (_:B+m≤130000000) (_:∀(H' :Hp),KL ls H H' →Found K H' fA ls (dC F k a d) (B+m+1)→Q .cE H'):vA K vs H Q E_
theorem Rp:aG ["_law_found","_law_k","_law_axis","_law_draw"] ["_law_found","_law_k","_law_axis","_law_draw"] (ag yE):=sq
theorem Rr (D:Def K mg "_law_add" yE ["_law_found","_law_k","_law_axis","_law_draw"])(j4:Fn P w K mg base (a9 P w) 1 "_law_sum" ["_law_one","_law_other"] (b7 K fB)):
  Fn P w K mg base (a9 P w) 2 "_law_add" ["_law_found","_law_k","_law_axis","_law_draw"] (vA K):=by
 refine D.ok Rp (fun vs H Q E h=> ?_) (fun f bF A outer s H vs Q E hr h=> ?_)
 ·obtain ⟨fA,ls,F,B,k,a,v,m,d,rfl,_⟩:=h
  rfl
 obtain ⟨fA,ls,F,B,k,a,v,m,d,rfl,hF,hk,ha,nv,le,q⟩:=h
 refine ⟨_,(ah (zW (aA j4 hr.mo pX (aq (aY aX (aY aX (pv 0) (pv 1) (fun _ _=>rfl)) (pv 2) (fun _ _=>rfl)) (aq (pv 3) aa))) (zV (aY aX (pv 0) (pv 1) (fun _ _=>rfl)) (pv 2) set_list))),?_⟩
 obtain ⟨l,el⟩:∃l,ls[k]? =some l:=⟨_,gE hk⟩
 obtain ⟨v1,v2,hl,n1,n2⟩:=hF.row k l el
 have ek:fN (ls.map V.ref) (k:Int)=some (.ref l):=bG (by rw [Wp,el];rfl)
 have lm:l∈ls:=ir el
 have lf:l≠fA:=fun z=>hF.nf (z▸lm)
 obtain ⟨u,ea,nu⟩:∃u,fN [v1,v2] a=some u∧fQ K H u B (ax a (F k)):=by
  rcases ha with rfl | rfl
  ·exact ⟨v1,rfl,n1⟩
  ·exact ⟨v2,rfl,n2⟩
 refine ⟨_,rfl,_,rfl,fA,_,_,_,rfl,rfl,aU.of hF.hf,ek,_,rfl,l,_,_,_,rfl,rfl,aU.of hl,ea,_,rfl,?_⟩
 dsimp only [gN]
 show b7 K fB [_,_] _ _ E0
 refine h_ nu nv le fun p3 H3 s3 n3=> ?_
 obtain ⟨j,ej,hj⟩:∃j,EU [v1,v2].length a=some j∧((a=0∧j=0)∨(a=1∧j=1)):=by
  rcases ha with rfl | rfl
  ·exact ⟨0,rfl,.inl ⟨rfl,rfl⟩⟩
  ·exact ⟨1,rfl,.inr ⟨rfl,rfl⟩⟩
 refine ⟨_,rfl,_,rfl,fA,_,_,_,rfl,rfl,aU.of (s3 _ _ hF.hf),ek,_,rfl,l,_,_,j,rfl,rfl,s3 _ _ hl,ej,?_⟩
 have F3:=hF.same s3
 have kl:KL ls H (upd H3 l (.lst ([v1,v2].set j (.ref p3)))):=fun b o nb e=>by
  rw [aj (fun z=>nb (by rw [z];exact lm))]
  exact s3 _ _ e
 have k3:KL ls H3 (upd H3 l (.lst ([v1,v2].set j (.ref p3)))):=fun b o nb e=>by
  rw [aj (fun z=>nb (by rw [z];exact lm))]
  exact e
 have st:=F3.a8 k3
 refine q _ kl ⟨?_,hF.nd,hF.nf,fun i l' e=> ?_⟩
 ·rw [aj (ae8 lf)]
  exact F3.hf
 ·by_cases c:i=k
  ·subst c
   rw [el] at e
   cases e
   refine ⟨([v1,v2].set j (.ref p3))[0]?.getD .cE,([v1,v2].set j (.ref p3))[1]?.getD .cE,?_,?_,?_⟩
   ·rw [ak]
    rcases hj with ⟨_,rfl⟩ | ⟨_,rfl⟩ <;> rfl
   ·unfold dC
    rw [if_pos rfl]
    rcases hj with ⟨rfl,rfl⟩ | ⟨rfl,rfl⟩
    ·exact n3.a8 st
    ·exact ((n1.same s3).a8 st).up (by omega)
   ·unfold dC
    rw [if_pos rfl]
    rcases hj with ⟨rfl,rfl⟩ | ⟨rfl,rfl⟩
    ·exact ((n2.same s3).a8 st).up (by omega)
    ·exact n3.a8 st
  ·obtain ⟨w1,w2,g1,g2,g3⟩:=F3.row i l' e
   have nl:l' ≠l:=fun z=>c (fe hF.nd e (z▸el))
   refine ⟨w1,w2,?_,?_,?_⟩
   ·rw [aj nl]
    exact g1
   ·unfold dC
    rw [if_neg c]
    exact (g2.a8 st).up (by omega)
   ·unfold dC
    rw [if_neg c]
    exact (g3.a8 st).up (by omega)
structure FH (K:Frag)(H:Hp)(pA bA:Addr)(us vs:List V)(pins:List aH)(ao:List bq):Prop where
 hp:H pA=some (.lst us)
 pp:Paired (fS K H) us pins
 gp:gU pins
 hb:H bA=some (.lst vs)
 pb:Paired (iU K H pins) vs ao
 en:∀b∈ao,b.one.nm≠b.other.nm
 lp:pins.length≤9
 lb:ao.length≤14
theorem FH.same {H H' :Hp}{pA bA:Addr}{us vs:List V}{pins:List aH}{ao:List bq}(h:FH K H pA bA us vs pins ao)(s:av H H'):FH K H' pA bA us vs pins ao:=⟨s _ _ h.hp,Paired.bZ h.pp fun _ _ z=>z.same s,h.gp,s _ _ h.hb,Paired.bZ h.pb fun _ _ z=>z.same s,h.en,h.lp,h.lb⟩
structure Yr (K:Frag)(H:Hp)(tA uA:Addr)(ts xs:List V)(pins:List aH)(ao:List bq)(T:Str→Rat)(U:Str→List Rat)(N:Nat):Prop where
 ht:H tA=some (.lst ts)
 pt:Paired (fun v (b:bq)=>fQ K H v N (T b.nm)) ts ao
 hu:H uA=some (.lst xs)
 pu:Paired (fun v (p:aH)=>∃la ys,v=.ref la∧H la=some (.lst ys)∧Paired (fun v r=>fQ K H v N r) ys (U p.nm)) xs pins
 lU:∀p∈pins,(U p.nm).length=p.ws.length
 hN:N≤1000000
theorem KL.same {H H6 H7:Hp}{ls:List Addr}(hn:∀l∈ls,H l=none)(s:av H H6)(k:KL ls H6 H7):av H H7:=fun b o e=>k b o (fun m=>by rw [hn b m] at e;cases e) (s b o e)
def jy (T:Str→Rat)(bs:List bq)(a:Int)(p:aH):Rat:=(bs.map fun b=>T b.nm*ax a (mv (du b) p.nm)).sum
theorem vB {T:Str→Rat}{bs:List bq}{b:bq}{a:Int}{p:aH}:jy T (bs++[b]) a p=jy T bs a p+T b.nm*ax a (mv (du b) p.nm):=by
 unfold jy
 rw [aeR,apA,ac_,afh,ae5,afQ]
 grind
theorem DY {pins:List aH}(nd:(pins.map (·.nm)).Nodup){i j:Nat}{p q:aH}(hi:pins[i]? =some p)(hj:pins[j]? =some q)(e:p.nm=q.nm):i=j:=fe nd (x:=q.nm) (by rw [Wp,hi, ← e];rfl) (by rw [Wp,hj];rfl)
theorem DZ {pins:List aH}(nd:(pins.map (·.nm)).Nodup){b:bq}(hb:b.one.nm≠b.other.nm){i i1 i2:Nat}{p:aH}(hi:pins[i]? =some p)(h1:pins[i1]? =some b.one)(h2:pins[i2]? =some b.other)(t:Rat)(k:Int):
  (if i=i1 then t*(ax k b.other.sp - ax k b.one.sp) else 0)+(if i=i2 then -(t*(ax k b.other.sp - ax k b.one.sp)) else 0)=t*ax k (mv (du b) p.nm):=by
 have NM:i1≠i2:=fun z=>by rw [z,h2] at h1;exact hb (by rw [aeY h1])
 unfold mv du
 by_cases c1:i=i1
 ·subst c1
  rw [h1] at hi
  cases hi
  rw [if_pos rfl,if_neg NM,if_pos rfl]
  show _=t*ax k (gS b.one b.other)
  unfold ax gS
  split <;> grind
 ·rw [if_neg c1,if_neg (fun z=>c1 (DY nd hi h1 z))]
  by_cases c2:i=i2
  ·subst c2
   rw [h2] at hi
   cases hi
   rw [if_pos rfl,if_pos rfl]
   show _=t*ax k (gS b.other b.one)
   unfold ax gS
   split <;> grind
  ·rw [if_neg c2,if_neg (fun z=>c2 (DY nd hi h2 z))]
   show (0:Rat)+0=t*ax k (0,0)
   unfold ax
   split <;> grind
inductive jz (K:Frag)(vs:List V)(H:Hp)(Q:VK)(E_:XK):Prop where
 | mk (pA bA tA uA:Addr) (us ws ts xs:List V) (pins:List aH) (ao:List bq) (T:Str→Rat) (U:Str→List Rat) (N:Nat) (_:vs=[.ref pA,.ref bA,.ref tA,.ref uA]) (_:FH K H pA bA us ws pins ao) (_:Yr K H tA uA ts xs pins ao T U N) (_:∀(fA:Addr) (ls:List Addr) (F:Nat→Rat×Rat) (H' :Hp),av H H' →ls.length=pins.length→Found K H' fA ls F (1+92*(N+51))→(∀(i:Nat) (p:aH),pins[i]? =some p→(F i).1=dX ao T U p (·.1)∧(F i).2=dX ao T U p (·.2))→Q (.ref fA) H'):jz K vs H Q E_
theorem ku:aG ["_law_pins_here","_law_bars_here","_law_pulls","_law_pushes","_law_found","_law_k","_law_axis","_law_draw","_law_j"] ["_law_pins_here","_law_bars_here","_law_pulls","_law_pushes"] (ag yF):=sq
theorem Rt (D:Def K mg "_law_forces" yF ["_law_pins_here","_law_bars_here","_law_pulls","_law_pushes"])(a_:mg "len"=none)(bu:mg "range"=none)(DW:Fn P w K mg base (a9 P w) 1 "_law_times" ["_law_one","_law_other"] (b7 K j3))(DV:Fn P w K mg base (a9 P w) 1 "_law_turned" ["_law_one"] (eR K))(Jj:Fn P w K mg base (a9 P w) 2 "_law_arm" ["_law_pins_here","_law_bar","_law_axis"] (q_ K))(MV:Fn P w K mg base (a9 P w) 2 "_law_add" ["_law_found","_law_k","_law_axis","_law_draw"] (vA K)):
  Fn P w K mg base (a9 P w) 3 "_law_forces" ["_law_pins_here","_law_bars_here","_law_pulls","_law_pushes"] (jz K):=by
 refine D.ok ku (fun vs H Q E h=> ?_) (fun f bF A outer s H vs Q E hr h=> ?_)
 ·obtain ⟨pA,bA,tA,uA,us,ws,ts,xs,pins,ao,T,U,N,rfl,_⟩:=h
  rfl
 obtain ⟨pA,bA,tA,uA,us,ws,ts,xs,pins,ao,T,U,N,rfl,fr,fo,q⟩:=h
 have L2:2≤sizeLine:=by decide
 have hN:=fo.hN
 have lp:=fr.lp
 have lb:=fr.lb
 have lu:us.length=pins.length:=Paired.length fr.pp
 have lw:ws.length=ao.length:=Paired.length fr.pb
 refine ⟨_,(ae (g6 (i:=4) ku.nd rfl (ab_ rfl) (tn:=["_law_pin"]) (fr:=[]) (caps:=[]) rfl ⟨rfl,by decide+kernel,rfl,by decide+kernel,by decide+kernel,rfl,trivial,trivial⟩ (bh (pv 0)) (fun _ _ _ _=>(aw (i:=0) (show (["_law_pin"]:List Str).Nodup from by decide+kernel) rfl (ab_ rfl))) (fun _ _ _ _=>cj) (fun _ _ _ _=>(bR (aq (aZ (aq af (aq af aa))) (aq (aZ (aq af (aq af aa))) aa)))))
  (ae (bw PassesOwn.never rfl (bM rfl bu (aq (aR aJ rfl a_ bW (aq (pv 1) aa)) aa)) (aw (i:=5) ku.nd rfl (ab_ rfl)) (ah (bw PassesOwn.never rfl (bM rfl bu (aq af aa)) (aw (i:=6) ku.nd rfl (ab_ rfl)) (ae (aC (i:=7) ku.nd rfl (ab_ rfl) (aA DW hr.mo pX (aq (aY aX (pv 2) (pv 5) (fun _ _=>rfl)) (aq (aA Jj hr.mo pX (aq (pv 0) (aq (aY aX (pv 1) (pv 5) (fun _ _=>rfl)) (aq (pv 6) aa)))) aa))))
    (ae (bO (aA MV hr.mo pX (aq (pv 4) (aq (aS (aY aX (pv 1) (pv 5) (fun _ _=>rfl))) (aq (pv 6) (aq (pv 7) aa))))))
    (ah (bO (aA MV hr.mo pX (aq (pv 4) (aq (aS (aY aX (pv 1) (pv 5) (fun _ _=>rfl))) (aq (pv 6) (aq (aA DV hr.mo pX (aq (pv 7) aa)) aa))))))))))))
  (ae (bw PassesOwn.never rfl (bM rfl bu (aq (aR aJ rfl a_ bW (aq (pv 0) aa)) aa)) (aw (i:=5) ku.nd rfl (ab_ rfl)) (ah (bw PassesOwn.never rfl (bM rfl bu (aq (aR aJ rfl a_ bW (aq (aS (aY aX (pv 0) (pv 5) (fun _ _=>rfl))) aa)) aa)) (aw (i:=8) ku.nd rfl (ab_ rfl)) (ah (bw PassesOwn.never rfl (bM rfl bu (aq af aa)) (aw (i:=6) ku.nd rfl (ab_ rfl)) (ah (bO (aA MV hr.mo pX (aq (pv 4) (aq (pv 5) (aq (pv 6) (aq (aA DW hr.mo pX (aq (aY aX (aY aX (pv 3) (pv 5) (fun _ _=>rfl)) (pv 8) (fun _ _=>rfl)) (aq (aY iE (aY aX (aS (aY aX (pv 0) (pv 5) (fun _ _=>rfl))) (pv 8) (fun _ _=>rfl)) (pv 6) (fun _ _=>rfl)) aa))) aa))))))))))))
  (ah (aF (pv 4)))))),?_⟩
 refine ⟨_,rfl,pA,rfl,⟨_,aU.of fr.hp⟩,fun fA n1=> ?_⟩
 refine u_ (cap:=[]) (K:=K) (a:=pA) (xs:=us) (fun ys H' =>∃ls:List Addr,ys=ls.map V.ref∧ls.Nodup∧fA∉ls∧∀l∈ls,H l=none∧∃p q:Addr,H' l=some (.lst [.ref p,.ref q])∧H' p=some (.tup [.int 0,.int 1])∧H' q=some (.tup [.int 0,.int 1])) n1 (by rw [lu];exact aeJ (show pins.length≤100 by omega) (by decide)) (fun H2 s2=>aU.of (s2 _ _ fr.hp)) ⟨[],rfl,agB,by simp,fun l h=>by cases h⟩ ?_ ?_
 ·intro i x ys H2 R hx ly hJ s2 hD k
  obtain ⟨ls,rfl,nd,nf,hl⟩:=hJ
  refine ⟨L2,?_⟩
  intro p3 n3;generalize eX:upd _ p3 _=H3;have ⟨s3,e3⟩:=nw n3 eX;clear eX
  refine ⟨L2,?_⟩
  intro p4 n4;generalize eX:upd _ p4 _=H4;have ⟨s4,e4⟩:=nw n4 eX;clear eX
  refine ⟨L2,?_⟩
  intro l5 n5;generalize eX:upd _ l5 _=H5;have ⟨s5,e5⟩:=nw n5 eX;clear eX
  have D_:=s3.trans (s4.trans s5)
  have D5:=D_ _ _ hD
  have D4:=s4 _ _ (s3 _ _ hD)
  refine k _ _ D_ ⟨ls++[l5],by simp,?_,?_,fun l hm=> ?_⟩
  ·rw [afP]
   refine ⟨nd,by simp,fun a ha b hb z=> ?_⟩
   have gF :b=l5:=by simpa using hb
   obtain ⟨_,p,q,h1,_⟩:=hl a ha
   rw [z,gF] at h1
   rw [s4 _ _ (s3 _ _ h1)] at n5
   cases n5
  ·intro z
   rcases aeM.mp z with z | z
   ·exact nf z
   ·rw [← aeH.mp z,D4] at n5
    cases n5
  ·rcases aeM.mp hm with z | z
   ·obtain ⟨h0,p,q,h1,h2,h3⟩:=hl l z
    refine ⟨h0,p,q,?_,?_,?_⟩
    ·rw [aj (fun e:l=fA=>nf (by rw [← e];exact z))]
     exact D_ _ _ h1
    ·rw [aj (fun e=>by rw [e,hD] at h2;cases h2)]
     exact D_ _ _ h2
    ·rw [aj (fun e=>by rw [e,hD] at h3;cases h3)]
     exact D_ _ _ h3
   ·have z:=aeH.mp z
    subst z
    refine ⟨(s2.trans (s3.trans s4)).free n5,p3,p4,?_,?_,?_⟩
    ·rw [aj (fun e=>by rw [e,D4] at n5;cases n5)]
     exact e5
    ·rw [aj (fun e=>by rw [e,hD] at n3;cases n3)]
     exact s5 _ _ (s4 _ _ e3)
    ·rw [aj (fun e=>by rw [e,s3 _ _ hD] at n4;cases n4)]
     exact s5 _ _ e4
 intro ys H2 ly hJ s2 hD
 obtain ⟨ls,rfl,nd,nf,hl⟩:=hJ
 have hn:∀l∈ls,H l=none:=fun l m=>(hl l m).1
 have ll:ls.length=pins.length:=by rw [← lu, ← ly,aa_]
 have z0:∀(p:Addr) (H' :Hp),H' p=some (.tup [.int 0,.int 1])→fQ K H' (.ref p) 1 0:=fun p H' e=>⟨(0,1),⟨p,rfl,bL.of e⟩,by decide,by decide+kernel,by decide,by decide⟩
 have F0:Found K H2 fA ls (fun _=>(0,0)) (1+0*(4*(N+51))):=⟨hD,nd,nf,fun i l e=>by
  obtain ⟨_,p,q,h1,h2,h3⟩:=hl l (ir e)
  rw [agk]
  exact ⟨_,_,h1,z0 p _ h2,z0 q _ h3⟩⟩
 have en:((ws.length:Nat):Int).toNat=ws.length:=by omega
 refine ⟨_,rfl,bA,_,rfl,.inl (aU.of (s2 _ _ fr.hb)),((ws.length:Nat):Int),rfl,by omega,by omega,bQ (lo:=0) (n:=((ws.length:Nat):Int).toNat) (fun t σ H' =>∃(F:Nat→Rat×Rat) (o5 o6 o7:Option V),σ=[some (.ref pA),some (.ref bA),some (.ref tA),some (.ref uA),some (.ref fA),o5,o6,o7,none]∧av H H' ∧Found K H' fA ls F (1+t*(4*(N+51)))∧∀(i:Nat) (p:aH),pins[i]? =some p→∀a:Int,(a=0∨a=1)→ax a (F i)=jy T (ao.take t) a p) ⟨_,none,none,none,rfl,s2,F0,fun i p _ a _=> ?_⟩ ?_ ?_⟩
 ·show ax a (0,0)=0
  unfold ax
  split <;> rfl
 ·rintro t σ H3 ht ⟨F,o5,o6,o7,rfl,s3,F3,hF⟩
  have ek:(0:Int)+(t:Int)=(t:Int):=afa _
  rw [ek]
  have htw:t < ws.length:=by omega
  obtain ⟨b,eb,zJ⟩:=aE fr.pb (gE htw)
  have mb:b∈ao:=ir eb
  obtain ⟨tv,etv,htv⟩:=aE (cu fo.pt) eb
  have V1:fN ws (t:Int)=some ws[t]:=bG (gE htw)
  have att:fN ts (t:Int)=some tv:=bG etv
  have bt:t*(4*(N+51))≤13*(4*(N+51)):=aeX _ (by omega)
  generalize hB:1+t*(4*(N+51))=B at F3
  refine ⟨(2:Int),rfl,by decide,by decide,bQ (lo:=0) (n:=2) (fun k σ H' =>∃(F:Nat→Rat×Rat) (o6 o7:Option V),σ=[some (.ref pA),some (.ref bA),some (.ref tA),some (.ref uA),some (.ref fA),some (.int (t:Int)),o6,o7,none]∧av H H' ∧Found K H' fA ls F (B+k*(2*(N+51)))∧∀(i:Nat) (p:aH),pins[i]? =some p→∀a:Int,(a=0∨a=1)→ax a (F i)=jy T (ao.take t) a p+if a < (k:Int) then T b.nm*ax a (mv (du b) p.nm) else 0) ⟨F,o6,o7,rfl,s3,by rw [agk];exact F3,fun i p e a ha=> ?_⟩ ?_ ?_⟩
  ·rw [hF i p e a ha,if_neg (by rcases ha with rfl | rfl <;> decide)]
   grind
  ·rintro k σ H4 hk ⟨F,o6,o7,rfl,s4,F4,hF⟩
   have ek:(0:Int)+(k:Int)=(k:Int):=afa _
   rw [ek]
   have CM:(k:Int)=0∨(k:Int)=1:=by omega
   have NT:=fr.same s4
   have bk:k*(2*(N+51))≤1*(2*(N+51)):=aeX _ (by omega)
   obtain ⟨ta,i1,i2,eta,hbt,e1,e2⟩:=zJ.same s4
   have Ko:i1 < ls.length:=by rw [ll];exact (be.mp e1).1
   have OP:i2 < ls.length:=by rw [ll];exact (be.mp e2).1
   refine ⟨_,rfl,_,rfl,tA,_,_,_,rfl,rfl,aU.of (s4 _ _ fo.ht),att,_,rfl,_,rfl,_,rfl,bA,_,_,_,rfl,rfl,aU.of NT.hb,V1,_,rfl,pA,us,pins,_,b,(k:Int),rfl,NT.hp,NT.pp,fr.gp,zJ.same s4,CM,fun v5 H5 s5 n5=> ?_⟩
   dsimp only [gN]
   show b7 K j3 [_,_] _ _ E0
   refine lF ((htv.same s4).same s5) n5 (by omega) fun p6 H6 s6 n6=> ?_
   have NU:=s4.trans (s5.trans s6)
   rw [eta] at V1
   have F6:=F4.same (s5.trans s6)
   refine ⟨_,rfl,_,rfl,_,rfl,bA,_,_,_,rfl,rfl,aU.of (NU _ _ fr.hb),V1,ta,_,_,_,rfl,rfl,Ty.av.cR (s5.trans s6) hbt,rfl,_,rfl,_,rfl,fA,ls,F,_,i1,(k:Int),_,_,_,rfl,F6,Ko,CM,n6,by omega,fun H7 k7 F7=> ?_⟩
   have s07:=KL.same hn NU k7
   have n7:=n6.a8 (F6.a8 k7)
   refine ⟨_,rfl,_,rfl,_,rfl,bA,_,_,_,rfl,rfl,aU.of (s07 _ _ fr.hb),V1,ta,_,_,_,rfl,rfl,(F6.a8 k7).cR (Ty.av.cR (s5.trans s6) hbt),rfl,_,rfl,_,rfl,?_⟩
   dsimp only [gN]
   show eR K [_] _ _ E0
   refine m_ n7 fun p8 H8 s8 n8=> ?_
   have F8:=F7.same s8
   refine ⟨fA,ls,_,_,i2,(k:Int),_,_,_,rfl,F8,OP,CM,n8,by omega,fun H9 k9 F9=> ?_⟩
   have V2:=KL.same hn (s07.trans s8) k9
   refine ⟨_,_,_,rfl,V2,F9.up (by rw [afx];omega),fun i p e a ha=> ?_⟩
   rw [rf CM ha,rf CM ha,hF i p e a ha]
   have bp:=DZ fr.gp.np (fr.en b mb) e e1 e2 (T b.nm) (k:Int)
   by_cases ca:a=(k:Int)
   ·subst ca
    rw [if_neg (c:=(k:Int) < (k:Int)) (by omega),if_pos (c:=(k:Int) < ((k+1:Nat):Int)) (by omega), ← bp]
    simp only [and_true]
    grind
   ·have c1:¬ (i=i1∧a=(k:Int)):=fun z=>ca z.2
    have c2:¬ (i=i2∧a=(k:Int)):=fun z=>ca z.2
    rw [if_neg c1,if_neg c2]
    by_cases cl:a < (k:Int)
    ·rw [if_pos cl,if_pos (c:=a < ((k+1:Nat):Int)) (by omega)]
     grind
    ·rw [if_neg cl,if_neg (c:=a < ((k+1:Nat):Int)) (by omega)]
     grind
  ·rintro σ H4 ⟨F,o6,o7,rfl,s4,F4,hF⟩
   refine ⟨F,_,_,_,rfl,s4,F4.up (by rw [afx, ← hB];omega),fun i p e a ha=> ?_⟩
   rw [take_snoc eb,vB,hF i p e a ha,if_pos (by rcases ha with rfl | rfl <;> decide)]
 ·rintro σ H3 ⟨F,o5,o6,o7,rfl,s3,F3,hF⟩
  rw [en,lw] at F3
  rw [en,lw,afc] at hF
  have bl:ao.length*(4*(N+51))≤14*(4*(N+51)):=aeX _ (by omega)
  generalize hB:1+ao.length*(4*(N+51))=B at F3
  have Ys:((us.length:Nat):Int).toNat=us.length:=by omega
  refine ⟨_,rfl,pA,_,rfl,.inl (aU.of (s3 _ _ fr.hp)),((us.length:Nat):Int),rfl,by omega,by omega,bQ (lo:=0) (n:=((us.length:Nat):Int).toNat) (fun k σ H' =>∃(F:Nat→Rat×Rat) (o5 o6 o7 o8:Option V),σ=[some (.ref pA),some (.ref bA),some (.ref tA),some (.ref uA),some (.ref fA),o5,o6,o7,o8]∧av H H' ∧Found K H' fA ls F (B+k*(4*(N+51)))∧∀(i:Nat) (p:aH),pins[i]? =some p→∀a:Int,(a=0∨a=1)→ax a (F i)=jy T ao a p+if i < k then sP (U p.nm) (p.ws.map (ax a)) else 0) ⟨F,o5,o6,o7,none,rfl,s3,by rw [agk];exact F3,fun i p e a ha=> ?_⟩ ?_ ?_⟩
  ·rw [hF i p e a ha,if_neg (by omega)]
   grind
  ·rintro k σ H4 hk ⟨F,o5,o6,o7,o8,rfl,s4,F4,hF⟩
   have ek:(0:Int)+(k:Int)=(k:Int):=afa _
   rw [ek]
   have hku:k < us.length:=by omega
   obtain ⟨p,ep,oy⟩:=aE fr.pp (gE hku)
   have mp:p∈pins:=ir ep
   obtain ⟨xv,exv,la,ys,exl,V3,py⟩:=aE (cu fo.pu) ep
   subst exl
   have lup:=fo.lU p mp
   have lwp:=(fr.gp.ws p mp).len
   have ly:ys.length=(U p.nm).length:=Paired.length py
   have akx:fN xs (k:Int)=some (.ref la):=bG exv
   have Yt:fN us (k:Int)=some us[k]:=bG (gE hku)
   obtain ⟨pa,l,sv,d9,epa,h1,h2,h3,h4⟩:=oy
   rw [epa] at Yt
   have lv:d9.length=p.ws.length:=Paired.length h4
   have kp:k < pins.length:=by omega
   have bk:k*(4*(N+51))≤8*(4*(N+51)):=aeX _ (by omega)
   generalize hB2:B+k*(4*(N+51))=B2 at F4
   have en3:((d9.length:Nat):Int).toNat=d9.length:=by omega
   refine ⟨_,rfl,_,rfl,pA,_,_,_,rfl,rfl,aU.of (s4 _ _ fr.hp),Yt,pa,_,_,_,rfl,rfl,Ty.av.cR s4 h1,rfl,l,_,rfl,.inl (aU.of (s4 _ _ h3)),((d9.length:Nat):Int),rfl,by omega,by omega,bQ (lo:=0) (n:=((d9.length:Nat):Int).toNat) (fun j σ H' =>∃(F:Nat→Rat×Rat) (o6 o7 o8:Option V),σ=[some (.ref pA),some (.ref bA),some (.ref tA),some (.ref uA),some (.ref fA),some (.int (k:Int)),o6,o7,o8]∧av H H' ∧Found K H' fA ls F (B2+j*(2*(N+51)))∧∀(i:Nat) (p:aH),pins[i]? =some p→∀a:Int,(a=0∨a=1)→ax a (F i)=jy T ao a p+if i < k then sP (U p.nm) (p.ws.map (ax a)) else if i=k then sP ((U p.nm).take j) ((p.ws.take j).map (ax a)) else 0) ⟨F,o6,o7,o8,rfl,s4,by rw [agk];exact F4,fun i p e a ha=> ?_⟩ ?_ ?_⟩
   ·rw [hF i p e a ha,List.take_zero,gA]
    split <;> simp
   ·rintro j σ H5 hj ⟨F,o6,o7,o8,rfl,s5,F5,hF⟩
    have ek:(0:Int)+(j:Int)=(j:Int):=afa _
    rw [ek]
    have hj1:j < d9.length:=by omega
    have hj2:j < ys.length:=by omega
    obtain ⟨x,ex,hx⟩:=aE py (gE hj2)
    obtain ⟨wq,V0,Yq⟩:=aE h4 (gE hj1)
    have zw:=(fr.gp.ws p mp).sz wq (ir V0)
    have axj:fN ys (j:Int)=some ys[j]:=bG (gE hj2)
    have awj:fN d9 (j:Int)=some d9[j]:=bG (gE hj1)
    have bj:j*(2*(N+51))≤1*(2*(N+51)):=aeX _ (by omega)
    generalize hB3:B2+j*(2*(N+51))=B3 at F5
    refine ⟨(2:Int),rfl,by decide,by decide,bQ (lo:=0) (n:=2) (fun c σ H' =>∃(F:Nat→Rat×Rat) (o6:Option V),σ=[some (.ref pA),some (.ref bA),some (.ref tA),some (.ref uA),some (.ref fA),some (.int (k:Int)),o6,o7,some (.int (j:Int))]∧av H H' ∧Found K H' fA ls F (B3+c*(N+51))∧∀(i:Nat) (p:aH),pins[i]? =some p→∀a:Int,(a=0∨a=1)→ax a (F i)=(jy T ao a p+if i < k then sP (U p.nm) (p.ws.map (ax a)) else if i=k then sP ((U p.nm).take j) ((p.ws.take j).map (ax a)) else 0)+if i=k∧a < (c:Int) then x*ax a wq else 0) ⟨F,o6,rfl,s5,by rw [agk];exact F5,fun i p e a ha=> ?_⟩ ?_ ?_⟩
    ·rw [hF i p e a ha,if_neg (c:=i=k∧a < ((0:Nat):Int)) (fun z=>by rcases ha with rfl | rfl <;> exact absurd z.2 (by decide))]
     grind
    ·rintro c σ H6 hc ⟨F,o6,rfl,s6,F6,hF⟩
     have ek:(0:Int)+(c:Int)=(c:Int):=afa _
     rw [ek]
     have VA:(c:Int)=0∨(c:Int)=1:=by omega
     have bc:c*(N+51)≤1*(N+51):=aeX _ (by omega)
     obtain ⟨wa,zs,u,ewa,Kk,awc,nwc⟩:=tZ VA (Yq.same s6)
     rw [ewa] at awj
     refine ⟨_,rfl,_,rfl,_,rfl,_,rfl,_,rfl,uA,_,_,_,rfl,rfl,aU.of (s6 _ _ fo.hu),akx,_,rfl,la,_,_,_,rfl,rfl,aU.of (s6 _ _ V3),axj,_,rfl,_,rfl,pA,_,_,_,rfl,rfl,aU.of (s6 _ _ fr.hp),Yt,pa,_,_,_,rfl,rfl,Ty.av.cR s6 h1,rfl,_,rfl,l,_,_,_,rfl,rfl,aU.of (s6 _ _ h3),awj,_,rfl,wa,_,_,_,rfl,rfl,Kk,awc,?_⟩
     dsimp only [gN]
     show b7 K j3 [_,_] _ _ E0
     refine lF (hx.same s6) (de nwc (kq (DU zw) (aeG _))) (by omega) fun p7 H7 s7 n7=> ?_
     refine ⟨fA,ls,F,_,k,(c:Int),_,_,_,rfl,F6.same s7,by omega,VA,n7,by omega,fun H8 k8 F8=> ?_⟩
     refine ⟨_,_,rfl,KL.same hn (s6.trans s7) k8,F8.up (by rw [afx];omega),fun i p' e a ha=> ?_⟩
     rw [rf VA ha,hF i p' e a ha]
     by_cases ci:i=k
     ·by_cases ca:a=(c:Int)
      ·subst ca
       rw [if_neg (c:=i=k∧(c:Int) < (c:Int)) (fun z=>by omega),if_pos (c:=i=k∧(c:Int)=(c:Int)) ⟨ci,rfl⟩,if_pos (c:=i=k∧(c:Int) < ((c+1:Nat):Int)) ⟨ci,by omega⟩]
       grind
      ·rw [if_neg (c:=i=k∧a=(c:Int)) (fun z=>ca z.2)]
       by_cases cl:a < (c:Int)
       ·rw [if_pos (c:=i=k∧a < (c:Int)) ⟨ci,cl⟩,if_pos (c:=i=k∧a < ((c+1:Nat):Int)) ⟨ci,by omega⟩]
        grind
       ·rw [if_neg (c:=i=k∧a < (c:Int)) (fun z=>cl z.2),if_neg (c:=i=k∧a < ((c+1:Nat):Int)) (fun z=>by have:=z.2;omega)]
        grind
     ·rw [if_neg (c:=i=k∧a < (c:Int)) (fun z=>ci z.1),if_neg (c:=i=k∧a=(c:Int)) (fun z=>ci z.1),if_neg (c:=i=k∧a < ((c+1:Nat):Int)) (fun z=>ci z.1)]
      grind
    ·rintro σ H6 ⟨F,o6,rfl,s6,F6,hF⟩
     refine ⟨F,_,_,_,rfl,s6,F6.up (by rw [afx, ← hB3];omega),fun i p' e a ha=> ?_⟩
     rw [hF i p' e a ha]
     by_cases ci:i=k
     ·subst ci
      rw [ep] at e
      cases e
      rw [if_neg (afj _),if_pos rfl,if_neg (afj _),if_pos rfl,if_pos (c:=i=i∧a < ((2:Nat):Int)) ⟨rfl,by rcases ha with rfl | rfl <;> decide⟩]
      rw [take_snoc ex,take_snoc V0,aeR,iP _ _ (by rw [aa_,ae2,ae2];omega),ac_,afh,dI,gA]
      grind
     ·rw [if_neg (c:=i=k∧a < ((2:Nat):Int)) (fun z=>ci z.1),if_neg ci,if_neg ci]
      grind
   ·rintro σ H5 ⟨F,o6,o7,o8,rfl,s5,F5,hF⟩
    rw [en3] at F5 hF
    refine ⟨F,_,_,_,_,rfl,s5,F5.up (by
     have:d9.length*(2*(N+51))≤2*(2*(N+51)):=aeX _ (by omega)
     rw [afx, ← hB2]
     omega),fun i p' e a ha=> ?_⟩
    rw [hF i p' e a ha]
    by_cases ci:i=k
    ·subst ci
     rw [ep] at e
     cases e
     rw [if_neg (afj _),if_pos rfl,if_pos (afe _),afu (by omega),afu (by omega)]
    ·rw [if_neg ci]
     by_cases cl:i < k
     ·rw [if_pos cl,if_pos (by omega)]
     ·rw [if_neg cl,if_neg (by omega)]
  ·rintro σ H4 ⟨F,o5,o6,o7,o8,rfl,s4,F4,hF⟩
   rw [Ys,lu] at F4 hF
   have bp:pins.length*(4*(N+51))≤9*(4*(N+51)):=aeX _ (by omega)
   refine ⟨_,rfl,q fA ls F H4 s4 ll (F4.up (by omega)) fun i p e=> ?_⟩
   have hi:=(be.mp e).1
   have a0:=hF i p e 0 (.inl rfl)
   have a1:=hF i p e 1 (.inr rfl)
   rw [if_pos hi] at a0 a1
   unfold dX
   unfold jy at a0 a1
   have e0:ax 0=fun p:Rat×Rat=>p.1:=rfl
   have e1:ax 1=fun p:Rat×Rat=>p.2:=rfl
   rw [e0] at a0
   rw [e1] at a1
   exact ⟨a0.trans (Rat.add_comm _ _),a1.trans (Rat.add_comm _ _)⟩
theorem Yu:PySem.W.kitOne K (.type "int") (.type "int")=some true:=by unfold PySem.W.kitOne;rw [if_pos (by decide)]
theorem Yv:PySem.W.kitOne K (.type "int") (.type "bool")=some false:=AW ⟨by decide,fun _=>⟨by decide+kernel,by decide+kernel⟩⟩
theorem Jk (x:Int×Int):cO [.v (.int x.1),.v (.int x.2)] [.v (.int x.1),.v (.int x.2)]=true:=by
 simp [cO,fX,i5]
inductive jA (K:Frag)(vs:List V)(H:Hp)(Q:VK)(E_:XK):Prop where
 | mk (u:V) (r:Rat) (_:vs=[u]) (_:eQ K H u r) (_:∀H',av H H' →Q (.bl true) H'):jA K vs H Q E_
theorem KR:aG ["_law_x","_law_part"] ["_law_x"] (ag yG):=sq
theorem Ru (D:Def K mg "_law_number" yG ["_law_x"])(a_:mg "len"=none)(bo:mg "isinstance"=none)(pK:mg "int"=none)(vC:mg "bool"=none)(eV:mg "tuple"=none)
  (iT:Fn P w K mg base (a9 P w) 33 "_law_lowest" ["_law_top","_law_bottom"] cA):Fn P w K mg base (a9 P w) 34 "_law_number" ["_law_x"] (jA K):=by
 refine D.ok KR (fun vs H Q E h=> ?_) (fun f bF A outer s H vs Q E hr h=> ?_)
 ·obtain ⟨u,r,rfl,_⟩:=h
  rfl
 obtain ⟨_,r,rfl,⟨p1,rfl,h1⟩,q⟩:=h
 have hp:=cz r
 have hg:=jQ r
 generalize qr r=x at h1 hp hg
 refine ⟨_,(ae (bg (PW.pt (ff (cS (cx (aR xR rfl bo b6 (aq (pv 0) (aq (ja rfl eV qg) aa))))) (dA (aQ fG (aR aJ rfl a_ bW (aq (pv 0) aa)) af (aT _))))) (ah (aF cg)) aL)
  (ae (bw PassesOwn.never rfl (Lk (pv 0)) (aw (i:=1) KR.nd rfl (ab_ rfl)) (ah (bg (PW.pt (ff (cS (cx (aR d5 rfl bo b6 (aq (pv 1) (aq (ja rfl pK Kg) aa))))) (dA (cx (aR d5 rfl bo b6 (aq (pv 1) (aq (ja rfl vC LD) aa))))))) (ah (aF cg)) aL)))
  (ah (aF (uE (iZ z_ (aS (pv 0)) af (aT _)) (uD (iZ (vX hr.units) (aA iT hr.mo pX (aq (aS (pv 0)) (aq (aS (pv 0)) aa))) (pv 0) (aT _)))))))),?_⟩
 refine ⟨_,rfl,p1,_,rfl,h1,_,rfl,?_⟩
 refine bf (fun c=>nomatch c) (fun _=> ?_)
 refine ⟨_,rfl,p1,_,rfl,.inr h1,rfl,_,rfl,?_⟩
 refine AU rfl ?_
 refine ⟨_,rfl,p1,rfl,⟨_,h1⟩,GG (K:=K) (a:=p1) (xs:=[.int x.1,.int x.2]) (fun i σ H' =>∃o,σ=[some (.ref p1),o]∧H' =H) ⟨none,rfl,rfl⟩ (fun i σ H' _ ⟨o,_,e⟩=>by rw [e];exact h1) ?_ ?_⟩
 ·rintro i z σ H' hi ⟨o,rfl,rfl⟩
  obtain ⟨n,rfl⟩:∃n,z=V.int n:=by
   match i,hi with
   | 0,hi=>exact ⟨_,(aeY hi).symm⟩
   | 1,hi=>exact ⟨_,(aeY hi).symm⟩
  refine ⟨_,rfl,_,_,_,true,rfl,rfl,.int n,Yu,_,rfl,?_⟩
  refine bf (fun c=>nomatch c) (fun _=> ?_)
  refine ⟨_,rfl,_,_,_,false,rfl,rfl,.int n,Yv,_,rfl,?_⟩
  refine bf (fun c=>nomatch c) (fun _=> ?_)
  exact ⟨_,rfl,rfl⟩
 ·rintro σ H' ⟨o,rfl,rfl⟩
  refine ⟨_,rfl,p1,_,_,_,rfl,rfl,h1,iJ,_,_,rfl,rfl,_,rfl,?_⟩
  refine bf (fun _=> ?_) (fun c=>absurd (decide_eq_true hp) c)
  refine ⟨_,rfl,p1,_,_,_,rfl,rfl,h1,iI,_,rfl,p1,_,_,_,rfl,rfl,h1,iJ,_,_,rfl,hp,fun p2 H2 s2 e2=> ?_⟩
  rw [l_ hp hg] at e2
  refine ⟨_,rfl,_,_,.inl ⟨lh (q:=x) ⟨p2,rfl,bL.of e2⟩,lh (q:=x) ⟨p1,rfl,Ty.av.cR s2 h1⟩⟩,rfl,HE,?_⟩
  rw [Jk x]
  exact q _ s2
theorem MX:PySem.W.kitOne K (.type "tuple") (.type "tuple")=some true:=by unfold PySem.W.kitOne;rw [if_pos (by decide)]
theorem MY:PySem.W.kitOne K (.type "dict") (.type "dict")=some true:=by unfold PySem.W.kitOne;rw [if_pos (by decide)]
theorem Yw:PySem.W.kitOne K (.type "list") (.type "list")=some true:=by unfold PySem.W.kitOne;rw [if_pos (by decide)]
theorem nA {K:Frag}{H:Hp}:∀ws:List Str,fh K H (ws.map fun w=>Da.v (.str w)) (ws.map V.str)
 | []=>by unfold fh;trivial
 | w::ws=>by
  rw [ac_,ac_]
  unfold fh
  refine ⟨?_,nA ws⟩
  unfold Is
  exact ⟨rfl,rfl⟩
theorem w4:∀ws:List Str,cO (ws.map fun w=>Da.v (.str w)) (ws.map fun w=>Da.v (.str w))=true
 | []=>by simp [cO]
 | w::ws=>by
  rw [ac_]
  unfold cO
  rw [w4 ws]
  simp [fX,i5]
theorem w6:∀ws:List Str,cT (ws.map fun w=>Da.v (.str w)) (ws.map fun w=>Da.v (.str w))=true
 | []=>by simp [cT]
 | w::ws=>by
  rw [ac_]
  unfold cT
  rw [w6 ws]
  simp [alike]
theorem ua:∀ws:List Str,fj (ws.map fun w=>Da.v (.str w))≤60
 | []=>by simp [fj]
 | w::ws=>by
  rw [ac_]
  unfold fj
  have:=ua ws
  simp only [dep]
  omega
theorem rg {K:Frag}{H:Hp}{p p2:Addr}{ws:List Str}{Q:VK}(e1:H p=some (.lst (ws.map V.str)))(e2:H p2=some (.lst (ws.map V.str)))(q:Q (.bl false) H):so K (.ref p) (.ref p2) H Q:=by
 refine ⟨ws.map fun w=>Da.v (.str w),ws.map fun w=>Da.v (.str w),.inr ⟨?_,?_⟩,w6 ws,ua ws,by rw [w4];exact q⟩
 ·unfold Is
  exact ⟨p,_,rfl,aU.of e1,nA ws⟩
 ·unfold Is
  exact ⟨p2,_,rfl,aU.of e2,nA ws⟩
theorem jB {x:V}{ys:List V}:fN (x::ys) 0=some x:=bG (xs:=x::ys) (j:=0) rfl
theorem nE {α:Type}{D1 a:Addr}{H:Hp}{us:List V}{zs:List α}{nm:α→Str}{cap:L2.St}{R:VK}(n1:H D1=none)(ha:H a=some (.lst us))(pr:Paired (fun u z=>∃c ys,u=.ref c∧bL K H c (.str (nm z)::ys)) us zs)(l:zs.length≤1000)(k:∀H',av H H' →H' D1=some (.lst ((zs.map nm).map V.str))→R (.ref D1) H'):
  kJ D1 (cZ 0) jb (Ll (AK K) (FZ 0) (tC (V.int 0))) (GB K a) (none::cap) H R:=by
 have lu:us.length=zs.length:=Paired.length pr
 refine b_ (K:=K) (a:=a) (xs:=us) (fun i v _=>∃z,zs[i]? =some z∧v=.str (nm z)) n1 (by rw [lu];exact aeJ l (by decide)) (fun H2 s2=>aU.of (s2 _ _ ha)) (fun _ _ _ _ _ _ _ h=>h) ?_ ?_
 ·intro i u H2 R hu s2 k
  obtain ⟨z,ez,c,ys,rfl,h1⟩:=aE pr hu
  exact ⟨_,rfl,c,_,_,_,rfl,rfl,Ty.av.cR s2 h1,jB,k _ _ (av.refl _) ⟨z,ez,rfl⟩⟩
 ·intro ys H2 hy dR s2 hD
  refine k H2 s2 ?_
  rw [hD]
  congr 2
  refine afg fun i=> ?_
  rw [aeS,Wp]
  by_cases c:i < ys.length
  ·obtain ⟨p,e1,e2⟩:=dR i ys[i] (gE c)
   rw [gE c,e1,e2]
   rfl
  ·rw [aeE (by omega),aeE (by omega)]
   rfl
theorem kd {α:Type}{nm:α→Str}{kM:List (Key×V)}{zs:List α}(h:kM.map (·.1)=zs.map (fun p=>(afb (nm p):Key))):(kM.map fun kv=>kV kv.1)=(zs.map nm).map V.str:=by
 have:(kM.map fun kv=>kV kv.1)=(kM.map (·.1)).map kV:=by rw [aeS];rfl
 rw [this,h,aeS,aeS]
 rfl
theorem nF {H:Hp}{us:List V}{pins:List aH}(h:Paired (fS K H) us pins):Paired (fun u (z:aH)=>∃c ys,u=.ref c∧bL K H c (.str z.nm::ys)) us pins:=Paired.bZ h fun _ _ ⟨a,l,s,us,e,h1,_,_,_⟩=>⟨a,_,e,h1⟩
theorem vD {H:Hp}{us:List V}{pins:List aH}{ao:List bq}(h:Paired (iU K H pins) us ao):Paired (fun u (z:bq)=>∃c ys,u=.ref c∧bL K H c (.str z.nm::ys)) us ao:=Paired.bZ h fun _ _ ⟨a,i,j,e,h1,_,_⟩=>⟨a,_,e,h1⟩
theorem ub {ys:List V}(h:∀(i:Nat) (v:V),ys[i]? =some v→v=.bl true):∃bs:List Bool,ys=bs.map V.bl∧bs.all id=true:=by
 induction ys with
 | nil=>exact ⟨[],rfl,rfl⟩
 | cons y ys ih=>
  obtain ⟨bs,e,h2⟩:=ih fun i v e=>h (i+1) v (by simpa using e)
  exact ⟨true::bs,by rw [h 0 y rfl,e];rfl,by simp [h2]⟩
structure FI (K:Frag)(H:Hp)(pins:List aH)(ao:List bq)(dT dU:Addr)(kT kU:List (Key×V))(T:Str→Rat)(U:Str→List Rat)(N:Nat):Prop where
 hT:H dT=some (.dK kT)
 hU:H dU=some (.dK kU)
 zk:kT.map (·.1)=ao.map (fun b=>(afb b.nm:Key))
 zo:kU.map (·.1)=pins.map (fun p=>(afb p.nm:Key))
 tT:∀b∈ao,∃v,bS kT (.inr b.nm)=some v∧eQ K H v (T b.nm)
 tU:∀p∈pins,∃la vs,bS kU (.inr p.nm)=some (.ref la)∧H la=some (.lst vs)∧Paired (eQ K H) vs (U p.nm)
 lU:∀p∈pins,(U p.nm).length=p.ws.length
 zT:∀b∈ao,Zb N (T b.nm)
 zU:∀p∈pins,∀u∈U p.nm,Zb N u
 hN:N≤1000000
theorem FI.same {H H' :Hp}{pins:List aH}{ao:List bq}{dT dU:Addr}{kT kU:List (Key×V)}{T:Str→Rat}{U:Str→List Rat}{N:Nat}(h:FI K H pins ao dT dU kT kU T U N)(s:av H H'):FI K H' pins ao dT dU kT kU T U N:=⟨s _ _ h.hT,s _ _ h.hU,h.zk,h.zo,fun b hb=>by
 obtain ⟨v,a,b⟩:=h.tT b hb
 exact ⟨v,a,b.same s⟩,fun p hp=>by
 obtain ⟨la,vs,a,b,c⟩:=h.tU p hp
 exact ⟨la,vs,a,s _ _ b,Paired.bZ c fun _ _ z=>z.same s⟩,h.lU,h.zT,h.zU,h.hN⟩
theorem FI.Yx {H:Hp}{pins:List aH}{ao:List bq}{dT dU:Addr}{kT kU:List (Key×V)}{T:Str→Rat}{U:Str→List Rat}{N:Nat}(h:FI K H pins ao dT dU kT kU T U N){b:bq}(hb:b∈ao):∃v,cQ H dT (.str b.nm) (some v)∧eQ K H v (T b.nm):=by
 obtain ⟨v,a,c⟩:=h.tT b hb
 refine ⟨v,?_,c⟩
 have:=cQ.k (k:=.inr b.nm) h.hT
 rw [a] at this
 exact this
theorem FI.MZ {H:Hp}{pins:List aH}{ao:List bq}{dT dU:Addr}{kT kU:List (Key×V)}{T:Str→Rat}{U:Str→List Rat}{N:Nat}(h:FI K H pins ao dT dU kT kU T U N){p:aH}(hp:p∈pins):∃la vs,cQ H dU (.str p.nm) (some (.ref la))∧H la=some (.lst vs)∧Paired (eQ K H) vs (U p.nm):=by
 obtain ⟨la,vs,a,b,c⟩:=h.tU p hp
 refine ⟨la,vs,?_,b,c⟩
 have:=cQ.k (k:=.inr p.nm) h.hU
 rw [a] at this
 exact this
inductive vE (K:Frag)(vs:List V)(H:Hp)(Q:VK)(E_:XK):Prop where
 | mk (pA bA dT dU:Addr) (us ws:List V) (pins:List aH) (ao:List bq) (kT kU:List (Key×V)) (T:Str→Rat) (U:Str→List Rat) (N:Nat) (_:vs=[.ref pA,.ref bA,.ref dT,.ref dU]) (_:FH K H pA bA us ws pins ao) (_:FI K H pins ao dT dU kT kU T U N) (_:∀H',av H H' →Q (.bl true) H'):vE K vs H Q E_
theorem w8:aG ["_law_pins_here","_law_bars_here","_law_pulls","_law_pushes","_law_name_here","_law_spot_here","_law_ways_here"] ["_law_pins_here","_law_bars_here","_law_pulls","_law_pushes"] (ag yH):=sq
theorem Rv (D:Def K mg "_law_are_forces" yH ["_law_pins_here","_law_bars_here","_law_pulls","_law_pushes"])(bo:mg "isinstance"=none)(dH:mg "dict"=none)(bN:mg "list"=none)(a_:mg "len"=none)(w_:mg "all"=none)(D':Fn P w K mg base (a9 P w) 34 "_law_number" ["_law_x"] (jA K)):
  Fn P w K mg base (a9 P w) 35 "_law_are_forces" ["_law_pins_here","_law_bars_here","_law_pulls","_law_pushes"] (vE K):=by
 refine D.ok w8 (fun vs H Q E h=> ?_) (fun f bF A outer s H vs Q E hr h=> ?_)
 ·obtain ⟨pA,bA,dT,dU,us,ws,pins,ao,kT,kU,T,U,N,rfl,_⟩:=h
  rfl
 obtain ⟨pA,bA,dT,dU,us,ws,pins,ao,kT,kU,T,U,N,rfl,fr,pl,q⟩:=h
 have lp:=fr.lp
 have lb:=fr.lb
 have lw:ws.length=ao.length:=Paired.length fr.pb
 refine ⟨_,(ae (bg (PW.pt (ff (cS (cx (aR d5 rfl bo b6 (aq (pv 2) (aq (ja rfl dH mf) aa))))) (dA (aQ (eK hr.units) (ck (dP rfl) rfl bN gk (aq (pv 2) aa)) (cD (tn:=["_law_bar"]) (fr:=[]) (caps:=[]) rfl ⟨rfl,by decide+kernel,rfl,by decide+kernel,by decide+kernel,rfl,trivial,trivial⟩ (bh (pv 1)) (fun _ _ _ _=>(aw (i:=0) (show (["_law_bar"]:List Str).Nodup from by decide+kernel) rfl (ab_ rfl))) (fun _ _ _ _=>cj) (fun _ _ _ _=>(aY (cp (K:=K) rfl) (pv 0) af (fun _ _=>rfl)))) (aT _))))) (ah (aF cg)) aL)
  (ae (bg (PW.pt (ff (cS (cx (aR d5 rfl bo b6 (aq (pv 3) (aq (ja rfl dH mf) aa))))) (dA (aQ (eK hr.units) (ck (dP rfl) rfl bN gk (aq (pv 3) aa)) (cD (tn:=["_law_pin"]) (fr:=[]) (caps:=[]) rfl ⟨rfl,by decide+kernel,rfl,by decide+kernel,by decide+kernel,rfl,trivial,trivial⟩ (bh (pv 0)) (fun _ _ _ _=>(aw (i:=0) (show (["_law_pin"]:List Str).Nodup from by decide+kernel) rfl (ab_ rfl))) (fun _ _ _ _=>cj) (fun _ _ _ _=>(aY (cp (K:=K) rfl) (pv 0) af (fun _ _=>rfl)))) (aT _))))) (ah (aF cg)) aL)
  (ae (bg (cS (cx (aR (oP rfl) rfl w_ Kf (aq (cD (tn:=["_law_bar"]) (fr:=["_law_pulls"]) (caps:=[2]) rfl ⟨rfl,by decide+kernel,rfl,by decide+kernel,by decide+kernel,rfl,⟨(by first | exact ab_ rfl | exact aff rfl),trivial⟩,⟨(by first | exact ab_ rfl | exact aff rfl),trivial⟩⟩ (bh (pv 1)) (fun _ _ _ _=>(aw (i:=0) (show (["_law_bar","_law_pulls"]:List Str).Nodup from by decide+kernel) rfl (ab_ rfl))) (fun _ _ _ _=>cj) (fun _ _ _ _=>(aA D' hr.mo (mj (by first | assumption | exact a9.mh) rfl) (aq (bX (bU hr) (pv 1) (aY (cp (K:=K) rfl) (pv 0) af (fun _ _=>rfl)) (fun _ _=>rfl)) aa)))) aa)))) (ah (aF cg)) aL)
  (ae (bw PassesOwn.never rfl (bh (pv 0)) (dB rfl (aV (aw (i:=4) w8.nd rfl (ab_ rfl)) (aV (aw (i:=5) w8.nd rfl (ab_ rfl)) (aV (aw (i:=6) w8.nd rfl (ab_ rfl)) cC)))) (ae (bg (PW.pt (ff (cS (cx (aR d5 rfl bo b6 (aq (bX (bU hr) (pv 3) (pv 4) (fun _ _=>rfl)) (aq (ja rfl bN gk) aa))))) (dA (aQ fG (aR aJ rfl a_ bW (aq (bX (bU hr) (pv 3) (pv 4) (fun _ _=>rfl)) aa)) (aR aJ rfl a_ bW (aq (pv 6) aa)) (aT _))))) (ah (aF cg)) aL)
   (ah (bg (cS (cx (aR (oP rfl) rfl w_ Kf (aq (cD (tn:=["_law_one"]) (fr:=[]) (caps:=[]) rfl ⟨rfl,by decide+kernel,rfl,by decide+kernel,by decide+kernel,rfl,trivial,trivial⟩ (bh (bX (bU hr) (pv 3) (pv 4) (fun _ _=>rfl))) (fun _ _ _ _=>(aw (i:=0) (show (["_law_one"]:List Str).Nodup from by decide+kernel) rfl (ab_ rfl))) (fun _ _ _ _=>cj) (fun _ _ _ _=>(aA D' hr.mo (mj (by first | assumption | exact a9.mh) rfl) (aq (pv 0) aa)))) aa)))) (ah (aF cg)) aL))))
  (ah (aF cg)))))),?_⟩
 refine ⟨_,rfl,_,_,_,true,rfl,rfl,.dK pl.hT,MY,_,rfl,?_⟩
 refine bf (fun c=>nomatch c) (fun _=> ?_)
 refine ⟨_,rfl,dT,_,rfl,.inl pl.hT,?_⟩
 intro l1 n1;generalize eX:upd _ l1 _=H1;have ⟨s1,e1⟩:=nw n1 eX;clear eX
 rw [kd (nm:=bq.nm) pl.zk] at e1
 have Yy:=fr.same s1
 refine ⟨_,rfl,bA,rfl,⟨_,aU.of Yy.hb⟩,fun D2 n2=> ?_⟩
 refine nE (nm:=bq.nm) n2 Yy.hb (vD Yy.pb) (by omega) fun H2 s2 e2=> ?_
 refine rg (s2 _ _ e1) e2 ?_
 refine ⟨_,rfl,?_⟩
 refine bf (fun c=>nomatch c) (fun _=> ?_)
 have jE:=s1.trans s2
 refine ⟨_,rfl,_,_,_,true,rfl,rfl,.dK (jE _ _ pl.hU),MY,_,rfl,?_⟩
 refine bf (fun c=>nomatch c) (fun _=> ?_)
 refine ⟨_,rfl,dU,_,rfl,.inl (jE _ _ pl.hU),?_⟩
 intro l3 n3;generalize eX:upd _ l3 _=H3;have ⟨s3,e3⟩:=nw n3 eX;clear eX
 rw [kd (nm:=aH.nm) pl.zo] at e3
 have nG:=jE.trans s3
 have uH:=fr.same nG
 refine ⟨_,rfl,pA,rfl,⟨_,aU.of uH.hp⟩,fun D4 n4=> ?_⟩
 refine nE (nm:=aH.nm) n4 uH.hp (nF uH.pp) (by omega) fun H4 s4 e4=> ?_
 refine rg (s4 _ _ e3) e4 ?_
 refine ⟨_,rfl,?_⟩
 refine bf (fun c=>nomatch c) (fun _=> ?_)
 have iW:=nG.trans s4
 refine ⟨_,rfl,bA,rfl,⟨_,aU.of (iW _ _ fr.hb)⟩,fun D5 n5=> ?_⟩
 refine b_ (cap:=[some (.ref dT)]) (K:=K) (a:=bA) (xs:=ws) (fun _ v _=>v=.bl true) n5 (by rw [lw];exact aeJ (show ao.length≤100 by omega) (by decide)) (fun H5 s5=>aU.of (s5 _ _ (iW _ _ fr.hb))) (fun _ _ _ _ _ _ _ h=>h) ?_ ?_
 ·intro i u H5 R hu s5 k
  obtain ⟨b,eb,c,i1,i2,rfl,h1,_⟩:=aE fr.pb hu
  have pG:=iW.trans s5
  obtain ⟨v,dg,nv⟩:=(pl.same pG).Yx (ir eb)
  exact ⟨_,rfl,_,rfl,c,_,_,_,rfl,rfl,Ty.av.cR pG h1,rfl,dT,_,rfl,dg,v,_,rfl,nv,fun H6 s6=>k _ _ s6 rfl⟩
 intro ys H5 hy dR s5 hD
 obtain ⟨bs,eb,ea⟩:=ub dR
 refine ⟨D5,bs,rfl,by rw [← eb];exact aU.of hD,?_⟩
 rw [ea]
 refine ⟨_,rfl,?_⟩
 refine bf (fun c=>nomatch c) (fun _=> ?_)
 have pG:=iW.trans s5
 refine ⟨_,rfl,pA,rfl,⟨_,aU.of (pG _ _ fr.hp)⟩,bP (K:=K) (a:=pA) (xs:=us) (fun i σ H' =>∃(o4 o5 o6:Option V),σ=[some (.ref pA),some (.ref bA),some (.ref dT),some (.ref dU),o4,o5,o6]∧av H H') ⟨none,none,none,rfl,pG⟩ (fun i σ H' _ h=>by
   obtain ⟨_,_,_,_,s⟩:=h
   exact aU.of (s _ _ fr.hp)) ?_ ?_⟩
 ·rintro i u σ H6 hu ⟨o4,o5,o6,rfl,s6⟩
  obtain ⟨p,ep,oy⟩:=aE fr.pp hu
  have mp:p∈pins:=ir ep
  obtain ⟨ta,l,sv,d9,rfl,h1,h2,h3,h4⟩:=oy.same s6
  refine ⟨ta,_,rfl,h1,rfl,_,_,rfl,_,_,rfl,_,_,rfl,rfl,?_⟩
  obtain ⟨la,xs,dg,et,pu⟩:=(pl.same s6).MZ mp
  have lw:d9.length=p.ws.length:=Paired.length h4
  have lx:xs.length=(U p.nm).length:=Paired.length pu
  have lup:=pl.lU p mp
  have lwp:=(fr.gp.ws p mp).len
  refine ⟨_,rfl,_,rfl,dU,_,rfl,dg,_,_,_,true,rfl,rfl,.lst et,Yw,_,rfl,?_⟩
  refine bf (fun c=>nomatch c) (fun _=> ?_)
  refine ⟨_,rfl,_,rfl,dU,_,rfl,dg,la,_,rfl,.inl (aU.of et),_,rfl,l,_,rfl,.inl (aU.of h3),rfl,_,rfl,?_⟩
  refine bf (fun c=>absurd (show (xs.length:Int)=(d9.length:Int) by omega) (fun e=>by rw [e] at c;simp at c)) (fun _=> ?_)
  refine ⟨_,rfl,_,rfl,dU,_,rfl,dg,la,rfl,⟨_,aU.of et⟩,fun D7 n7=> ?_⟩
  refine b_ (cap:=[]) (K:=K) (a:=la) (xs:=xs) (fun _ v _=>v=.bl true) n7 (aeJ (show xs.length≤100 by omega) (by decide)) (fun H7 s7=>aU.of (s7 _ _ et)) (fun _ _ _ _ _ _ _ h=>h) ?_ ?_
  ·intro j x H7 R hx s7 k
   obtain ⟨r,er,nr⟩:=aE pu hx
   exact ⟨_,rfl,x,r,rfl,nr.same s7,fun H8 s8=>k _ _ s8 rfl⟩
  intro ys H7 hy dR s7 hD
  obtain ⟨bs,eb,ea⟩:=ub dR
  refine ⟨D7,bs,rfl,by rw [← eb];exact aU.of hD,?_⟩
  rw [ea]
  refine ⟨_,rfl,?_⟩
  refine bf (fun c=>nomatch c) (fun _=> ?_)
  exact ⟨_,_,_,rfl,s6.trans s7⟩
 ·rintro σ H6 ⟨o4,o5,o6,rfl,s6⟩
  exact q H6 s6
inductive EA (K:Frag)(vs:List V)(H:Hp)(Q:VK)(E_:XK):Prop where
 | mk (pA dM:Addr) (us:List V) (pins:List aH) (kM:List (Key×V)) (M:Str→Rat×Rat) (N:Nat) (_:vs=[.ref pA,.ref dM]) (_:H pA=some (.lst us)) (_:Paired (fS K H) us pins) (_:pins.length≤100) (_:FF K H pins dM kM M N) (_:∀H',av H H' →Q (.bl true) H'):EA K vs H Q E_
theorem xa:aG ["_law_pins_here","_law_motion","_law_name_here","_law_spot_here","_law_ways_here"] ["_law_pins_here","_law_motion"] (ag yI):=sq
theorem Rw (D:Def K mg "_law_is_motion" yI ["_law_pins_here","_law_motion"])(bo:mg "isinstance"=none)(dH:mg "dict"=none)(bN:mg "list"=none)(eV:mg "tuple"=none)(a_:mg "len"=none)(D':Fn P w K mg base (a9 P w) 34 "_law_number" ["_law_x"] (jA K)):
  Fn P w K mg base (a9 P w) 35 "_law_is_motion" ["_law_pins_here","_law_motion"] (EA K):=by
 refine D.ok xa (fun vs H Q E h=> ?_) (fun f bF A outer s H vs Q E hr h=> ?_)
 ·obtain ⟨pA,dM,us,pins,kM,M,N,rfl,_⟩:=h
  rfl
 obtain ⟨pA,dM,us,pins,kM,M,N,rfl,hp,pp,lp,mo,q⟩:=h
 refine ⟨_,(ae (bg (PW.pt (ff (cS (cx (aR d5 rfl bo b6 (aq (pv 1) (aq (ja rfl dH mf) aa))))) (dA (aQ (eK hr.units) (ck (dP rfl) rfl bN gk (aq (pv 1) aa)) (cD (tn:=["_law_pin"]) (fr:=[]) (caps:=[]) rfl ⟨rfl,by decide+kernel,rfl,by decide+kernel,by decide+kernel,rfl,trivial,trivial⟩ (bh (pv 0)) (fun _ _ _ _=>(aw (i:=0) (show (["_law_pin"]:List Str).Nodup from by decide+kernel) rfl (ab_ rfl))) (fun _ _ _ _=>cj) (fun _ _ _ _=>(aY (cp (K:=K) rfl) (pv 0) af (fun _ _=>rfl)))) (aT _))))) (ah (aF cg)) aL)
  (ae (bw PassesOwn.never rfl (bh (pv 0)) (dB rfl (aV (aw (i:=2) xa.nd rfl (ab_ rfl)) (aV (aw (i:=3) xa.nd rfl (ab_ rfl)) (aV (aw (i:=4) xa.nd rfl (ab_ rfl)) cC)))) (ae (bg (PW.pt (ff (cS (cx (aR d5 rfl bo b6 (aq (bX (bU hr) (pv 1) (pv 2) (fun _ _=>rfl)) (aq (ja rfl eV qg) aa))))) (dA (aQ fG (aR aJ rfl a_ bW (aq (bX (bU hr) (pv 1) (pv 2) (fun _ _=>rfl)) aa)) af (aT _))))) (ah (aF cg)) aL)
   (ah (bg (PW.pt (ff (cS (cx (aA D' hr.mo pX (aq (aS (bX (bU hr) (pv 1) (pv 2) (fun _ _=>rfl))) aa)))) (dA (cS (cx (aA D' hr.mo pX (aq (aS (bX (bU hr) (pv 1) (pv 2) (fun _ _=>rfl))) aa))))))) (ah (aF cg)) aL))))
  (ah (aF cg)))),?_⟩
 refine ⟨_,rfl,_,_,_,true,rfl,rfl,.dK mo.hM,MY,_,rfl,?_⟩
 refine bf (fun c=>nomatch c) (fun _=> ?_)
 refine ⟨_,rfl,dM,_,rfl,.inl mo.hM,?_⟩
 intro l1 n1;generalize eX:upd _ l1 _=H1;have ⟨s1,e1⟩:=nw n1 eX;clear eX
 rw [kd (nm:=aH.nm) mo.keys] at e1
 have pp1:Paired (fS K H1) us pins:=Paired.bZ pp fun _ _ z=>z.same s1
 refine ⟨_,rfl,pA,rfl,⟨_,aU.of (s1 _ _ hp)⟩,fun D2 n2=> ?_⟩
 refine nE (nm:=aH.nm) n2 (s1 _ _ hp) (nF pp1) (by omega) fun H2 s2 e2=> ?_
 refine rg (s2 _ _ e1) e2 ?_
 refine ⟨_,rfl,?_⟩
 refine bf (fun c=>nomatch c) (fun _=> ?_)
 have jE:=s1.trans s2
 refine ⟨_,rfl,pA,rfl,⟨_,aU.of (jE _ _ hp)⟩,bP (K:=K) (a:=pA) (xs:=us) (fun i σ H' =>∃(o2 o3 o4:Option V),σ=[some (.ref pA),some (.ref dM),o2,o3,o4]∧av H H') ⟨none,none,none,rfl,jE⟩ (fun i σ H' _ h=>by
   obtain ⟨_,_,_,_,s⟩:=h
   exact aU.of (s _ _ hp)) ?_ ?_⟩
 ·rintro i u σ H4 hu ⟨o2,o3,o4,rfl,s4⟩
  obtain ⟨p,ep,oy⟩:=aE pp hu
  have mp:p∈pins:=ir ep
  obtain ⟨ta,l,sv,ws,rfl,h1,h2,h3,h4⟩:=oy.same s4
  refine ⟨ta,_,rfl,h1,rfl,_,_,rfl,_,_,rfl,_,_,rfl,rfl,?_⟩
  obtain ⟨t,v1,v2,dg,et,m1,m2⟩:=(mo.same s4).get mp
  refine ⟨_,rfl,_,rfl,dM,_,rfl,dg,?_⟩
  refine ⟨_,_,_,true,rfl,rfl,.tup et,MX,_,rfl,?_⟩
  refine bf (fun c=>nomatch c) (fun _=> ?_)
  refine ⟨_,rfl,_,rfl,dM,_,rfl,dg,t,_,rfl,.inr (bL.of et),rfl,_,rfl,?_⟩
  refine AU rfl ?_
  refine ⟨_,rfl,_,rfl,dM,_,rfl,dg,t,_,_,_,rfl,rfl,bL.of et,iI,_,_,rfl,m1,fun H5 s5=> ?_⟩
  refine ⟨_,rfl,?_⟩
  refine bf (fun c=>nomatch c) (fun _=> ?_)
  obtain ⟨t,v1,v2,dg,et,m1,m2⟩:=(mo.same (s4.trans s5)).get mp
  refine ⟨_,rfl,_,rfl,dM,_,rfl,dg,t,_,_,_,rfl,rfl,bL.of et,iJ,_,_,rfl,m2,fun H6 s6=> ?_⟩
  refine ⟨_,rfl,?_⟩
  refine bf (fun c=>nomatch c) (fun _=> ?_)
  exact ⟨_,_,_,rfl,s4.trans (s5.trans s6)⟩
 ·rintro σ H4 ⟨o2,o3,o4,rfl,s4⟩
  exact q H4 s4
inductive nH (K:Frag)(vs:List V)(H:Hp)(Q:VK)(E_:XK):Prop where
 | mk (pA bA dT dU dL:Addr) (us ws:List V) (pins:List aH) (ao:List bq) (kT kU kL:List (Key×V)) (T:Str→Rat) (U:Str→List Rat) (N:Nat) (L:Str→Option (Rat×Rat)) (_:vs=[.ref pA,.ref bA,.ref dT,.ref dU,.ref dL]) (_:FH K H pA bA us ws pins ao) (_:FI K H pins ao dT dU kT kU T U N) (_:H dL=some (.dK kL)) (_:uz K H kL L) (_:VS L) (_:fP pins ao T U L) (_:∀H',av H H' →Q (.bl true) H'):nH K vs H Q E_
theorem pO:aG ["_law_pins_here","_law_bars_here","_law_pulls","_law_pushes","_law_load_here","_law_some","_law_found","_law_k","_law_drawn","_law_axis"] ["_law_pins_here","_law_bars_here","_law_pulls","_law_pushes","_law_load_here"] (ag yJ):=sq
theorem Rx (D:Def K mg "_law_at_rest" yJ ["_law_pins_here","_law_bars_here","_law_pulls","_law_pushes","_law_load_here"])(a_:mg "len"=none)(bu:mg "range"=none)(M0:Fn P w K mg base (a9 P w) 3 "_law_forces" ["_law_pins_here","_law_bars_here","_law_pulls","_law_pushes"] (jz K))(j4:Fn P w K mg base (a9 P w) 1 "_law_sum" ["_law_one","_law_other"] (b7 K fB)):
  Fn P w K mg base (a9 P w) 4 "_law_at_rest" ["_law_pins_here","_law_bars_here","_law_pulls","_law_pushes","_law_load_here"] (nH K):=by
 refine D.ok pO (fun vs H Q E h=> ?_) (fun f bF A outer s H vs Q E hr h=> ?_)
 ·obtain ⟨pA,bA,dT,dU,dL,us,ws,pins,ao,kT,kU,kL,T,U,N,L,rfl,_⟩:=h
  rfl
 obtain ⟨pA,bA,dT,dU,dL,us,ws,pins,ao,kT,kU,kL,T,U,N,L,rfl,fr,pl,hL,pL,zL,rest,q⟩:=h
 have L2:2≤sizeLine:=by decide
 have lp:=fr.lp
 have lb:=fr.lb
 have hN:=pl.hN
 have lu:us.length=pins.length:=Paired.length fr.pp
 have lw:ws.length=ao.length:=Paired.length fr.pb
 refine ⟨_,(ae (g6 (i:=5) pO.nd rfl (ab_ rfl) (tn:=["_law_pin"]) (fr:=["_law_pushes"]) (caps:=[3]) rfl ⟨rfl,by decide+kernel,rfl,by decide+kernel,by decide+kernel,rfl,⟨(by first | exact ab_ rfl | exact aff rfl),trivial⟩,⟨(by first | exact ab_ rfl | exact aff rfl),trivial⟩⟩ (bh (pv 0)) (fun _ _ _ _=>(aw (i:=0) (show (["_law_pin","_law_pushes"]:List Str).Nodup from by decide+kernel) rfl (ab_ rfl))) (fun _ _ _ _=>cj) (fun _ _ _ _=>(bX (bU hr) (pv 1) (aY (cp (K:=K) rfl) (pv 0) af (fun _ _=>rfl)) (fun _ _=>rfl))))
  (ae (aC (i:=6) pO.nd rfl (ab_ rfl) (aA M0 hr.mo pX (aq (pv 0) (aq (pv 1) (aq (cD (tn:=["_law_bar"]) (fr:=["_law_pulls"]) (caps:=[2]) rfl ⟨rfl,by decide+kernel,rfl,by decide+kernel,by decide+kernel,rfl,⟨(by first | exact ab_ rfl | exact aff rfl),trivial⟩,⟨(by first | exact ab_ rfl | exact aff rfl),trivial⟩⟩ (bh (pv 1)) (fun _ _ _ _=>(aw (i:=0) (show (["_law_bar","_law_pulls"]:List Str).Nodup from by decide+kernel) rfl (ab_ rfl))) (fun _ _ _ _=>cj) (fun _ _ _ _=>(bX (bU hr) (pv 1) (aY (cp (K:=K) rfl) (pv 0) af (fun _ _=>rfl)) (fun _ _=>rfl)))) (aq (pv 5) aa))))))
  (ae (bw PassesOwn.never rfl (bM rfl bu (aq (aR aJ rfl a_ bW (aq (pv 0) aa)) aa)) (aw (i:=7) pO.nd rfl (ab_ rfl)) (ae (aC (i:=8) pO.nd rfl (ab_ rfl) (sT (bU hr) (pv 4) (aS (aY aX (pv 0) (pv 7) (fun _ _=>rfl))) (aZ (aq (aZ (aq af (aq af aa))) (aq (aZ (aq af (aq af aa))) aa))) ⟨rfl,rfl,rfl,rfl⟩))
   (ah (bw PassesOwn.never rfl (bM rfl bu (aq af aa)) (aw (i:=9) pO.nd rfl (ab_ rfl)) (ah (bg (aQ fG (aS (aA j4 hr.mo pX (aq (aY aX (aY aX (pv 6) (pv 7) (fun _ _=>rfl)) (pv 9) (fun _ _=>rfl)) (aq (aY iE (pv 8) (pv 9) (fun _ _=>rfl)) aa)))) af (aT _)) (ah (aF cg)) aL))))))
  (ah (aF cg))))),?_⟩
 refine ⟨_,rfl,pA,rfl,⟨_,aU.of fr.hp⟩,fun D1 n1=> ?_⟩
 refine b_ (cap:=[some (.ref dU)]) (K:=K) (a:=pA) (xs:=us) (fun i v H' =>∃p la ys,pins[i]? =some p∧v=.ref la∧H la=some (.lst ys)∧Paired (eQ K H) ys (U p.nm)) n1 (by rw [lu];exact aeJ (show pins.length≤100 by omega) (by decide)) (fun H5 s5=>aU.of (s5 _ _ fr.hp)) (fun _ _ _ _ _ _ _ h=>h) ?_ ?_
 ·intro i u H5 R hu s5 k
  obtain ⟨p,ep,c,l,sv,ki,rfl,h1,_⟩:=aE fr.pp hu
  obtain ⟨la,ys,dg,V3,pu⟩:=pl.MZ (ir ep)
  obtain ⟨la',ys',dg',arM,_⟩:=(pl.same s5).MZ (ir ep)
  obtain ⟨Yo,ys2,g1,g2,g3⟩:=pl.tU p (ir ep)
  have Yz:cQ H5 dU (.str p.nm) (some (.ref Yo)):=by
   have:=cQ.k (k:=.inr p.nm) (s5 _ _ pl.hU)
   rw [g1] at this
   exact this
  exact ⟨_,rfl,_,rfl,c,_,_,_,rfl,rfl,Ty.av.cR s5 h1,rfl,dU,_,rfl,Yz,k _ _ (av.refl _) ⟨p,Yo,ys2,ep,rfl,g2,g3⟩⟩
 intro xs H2 hx dR s2 hD
 refine ⟨_,rfl,_,rfl,_,rfl,bA,rfl,⟨_,aU.of (s2 _ _ fr.hb)⟩,fun D3 n3=> ?_⟩
 refine b_ (cap:=[some (.ref dT)]) (K:=K) (a:=bA) (xs:=ws) (fun i v _=>∃b,ao[i]? =some b∧eQ K H v (T b.nm)) n3 (by rw [lw];exact aeJ (show ao.length≤100 by omega) (by decide)) (fun H5 s5=>aU.of (s5 _ _ (s2 _ _ fr.hb))) (fun _ _ _ _ _ _ _ h=>h) ?_ ?_
 ·intro i u H5 R hu s5 k
  obtain ⟨b,eb,c,i1,i2,rfl,h1,_⟩:=aE fr.pb hu
  have pG:=s2.trans s5
  obtain ⟨v,g1,g2⟩:=pl.tT b (ir eb)
  have Yz:cQ H5 dT (.str b.nm) (some v):=by
   have:=cQ.k (k:=.inr b.nm) (pG _ _ pl.hT)
   rw [g1] at this
   exact this
  exact ⟨_,rfl,_,rfl,c,_,_,_,rfl,rfl,Ty.av.cR pG h1,rfl,dT,_,rfl,Yz,k _ _ (av.refl _) ⟨b,eb,g2⟩⟩
 intro ts H3 ht hrt s3 hT
 have nG:=s2.trans s3
 have fo:Yr K H3 D3 D1 ts xs pins ao T U N:=by
  refine ⟨hT,e_ (by omega) fun i v e=> ?_,s3 _ _ hD,e_ (by omega) fun i v e=> ?_,pl.lU,pl.hN⟩
  ·obtain ⟨b,eb,nv⟩:=hrt i v e
   exact ⟨b,eb,de (nv.same nG) (pl.zT b (ir eb))⟩
  ·obtain ⟨p,la,ys,ep,rfl,V3,pu⟩:=dR i v e
   have mp:=ir ep
   refine ⟨p,ep,la,ys,rfl,nG _ _ V3,e_ (Paired.length pu) fun j y ey=> ?_⟩
   obtain ⟨r,er,nr⟩:=aE pu ey
   exact ⟨r,er,de (nr.same nG) (pl.zU p mp r (ir er))⟩
 refine ⟨_,rfl,pA,bA,D3,D1,us,ws,ts,xs,pins,ao,T,U,N,rfl,fr.same nG,fo,fun fA ls F H4 s4 ll hF eF=> ?_⟩
 have iW:=nG.trans s4
 have en:((us.length:Nat):Int).toNat=us.length:=by omega
 refine ⟨_,rfl,pA,_,rfl,.inl (aU.of (iW _ _ fr.hp)),((us.length:Nat):Int),rfl,by omega,by omega,bQ (lo:=0) (n:=((us.length:Nat):Int).toNat) (fun t σ H' =>∃(o7 o8 o9:Option V),σ=[some (.ref pA),some (.ref bA),some (.ref dT),some (.ref dU),some (.ref dL),some (.ref D1),some (.ref fA),o7,o8,o9]∧av H4 H') ⟨none,none,none,rfl,av.refl _⟩ ?_ ?_⟩
 ·rintro t σ H5 ht ⟨o7,o8,o9,rfl,s5⟩
  have ek:(0:Int)+(t:Int)=(t:Int):=afa _
  rw [ek]
  have pG:=iW.trans s5
  have htu:t < us.length:=by omega
  obtain ⟨p,ep,oy⟩:=aE fr.pp (gE htu)
  have mp:=ir ep
  have atu:fN us (t:Int)=some us[t]:=bG (gE htu)
  obtain ⟨c,l,sv,ki,ec,h1,_,_,_⟩:=oy
  rw [ec] at atu
  refine ⟨_,rfl,dL,rfl,.inl ⟨_,.inl (pG _ _ hL)⟩,_,rfl,_,rfl,pA,_,_,_,rfl,rfl,aU.of (pG _ _ fr.hp),atu,c,_,_,_,rfl,rfl,Ty.av.cR pG h1,jB,L2,?_⟩
  intro p7 n7;generalize eX:upd _ p7 _=H7;have ⟨s7,e7⟩:=nw n7 eX;clear eX
  refine ⟨L2,?_⟩
  intro p8 n8;generalize eX:upd _ p8 _=H8;have ⟨s8,e8⟩:=nw n8 eX;clear eX
  refine ⟨L2,?_⟩
  intro p9 n9;generalize eX:upd _ p9 _=H9;have ⟨s9,e9⟩:=nw n9 eX;clear eX
  have YA:=s7.trans (s8.trans s9)
  have V2:=pG.trans YA
  refine ⟨_,cQ.k (k:=.inr p.nm) (V2 _ _ hL),?_⟩
  have hd:d7 K H9 ((bS kL (.inr p.nm)).getD (.ref p9)) (mv L p.nm):=(pL.same V2).Pd (tS cK cK e9 (s9 _ _ (s8 _ _ e7)) (s9 _ _ e8))
  have zd:=zL p.nm
  generalize (bS kL (.inr p.nm)).getD (.ref p9)=dv at hd ⊢
  obtain ⟨da,u1,u2,rfl,YB,KA,hd2⟩:=hd
  refine ⟨(2:Int),rfl,by decide,by decide,bQ (lo:=0) (n:=2) (fun k σ H' =>∃(o9:Option V),σ=[some (.ref pA),some (.ref bA),some (.ref dT),some (.ref dU),some (.ref dL),some (.ref D1),some (.ref fA),some (.int (t:Int)),some (.ref da),o9]∧av H9 H') ⟨o9,rfl,av.refl _⟩ ?_ ?_⟩
  ·rintro k σ HF hk ⟨o9,rfl,qi⟩
   have ek:(0:Int)+(k:Int)=(k:Int):=afa _
   rw [ek]
   have CM:(k:Int)=0∨(k:Int)=1:=by omega
   have F10:=hF.same (s5.trans (YA.trans qi))
   obtain ⟨lr,Ry⟩:∃lr,ls[t]? =some lr:=⟨_,gE (by omega)⟩
   obtain ⟨w1,w2,V4,nw1,nw2⟩:=F10.row t lr Ry
   obtain ⟨f1,f2⟩:=eF t p ep
   obtain ⟨r1,r2⟩:=rest p mp
   obtain ⟨x,y,X,Y,a1,a2,nx,ny,zy,e0⟩:∃(x y:V) (X Y:Rat),fN [w1,w2] (k:Int)=some x∧fN [u1,u2] (k:Int)=some y∧fQ K HF x (1+92*(N+51)) X∧eQ K HF y Y∧Sz 1000 Y∧X+Y=0:=by
    rcases CM with e | e
    ·exact ⟨w1,u1,_,_,by rw [e];rfl,by rw [e];rfl,nw1,KA.same qi,zd.1,by rw [f1];exact r1⟩
    ·exact ⟨w2,u2,_,_,by rw [e];rfl,by rw [e];rfl,nw2,hd2.same qi,zd.2,by rw [f2];exact r2⟩
   have NV:fN (ls.map V.ref) (t:Int)=some (.ref lr):=bG (by rw [Wp,Ry];rfl)
   refine ⟨_,rfl,_,rfl,fA,_,_,_,rfl,rfl,aU.of F10.hf,NV,_,rfl,lr,_,_,_,rfl,rfl,aU.of V4,a1,_,rfl,_,rfl,da,_,_,_,rfl,rfl,Ty.av.cR qi YB,a2,?_⟩
   dsimp only [gN]
   show b7 K fB [_,_] _ _ E0
   refine h_ nx (de ny (kq zy (aeG _))) (by omega) fun XJ H12 zG NM=> ?_
   rw [e0] at NM
   obtain ⟨z,⟨arR,e12,k1⟩,k2,k3,_⟩:=NM
   cases e12
   have z0:z.1=0:=(qV k2).mpr k3
   rw [z0] at k1
   refine ⟨XJ,_,_,_,rfl,rfl,k1,iI,rfl,_,rfl,?_⟩
   refine bf (fun c=>by simp at c) (fun _=> ?_)
   exact ⟨_,rfl,qi.trans zG⟩
  ·rintro σ HF ⟨o9,rfl,qi⟩
   exact ⟨_,_,_,rfl,s5.trans (YA.trans qi)⟩
 ·rintro σ H5 ⟨o7,o8,o9,rfl,s5⟩
  exact q H5 (iW.trans s5)
structure rP (K:Frag)(H:Hp)(d:Addr)(kvs:List (Key×V))(pins:List aH)(L:Str→Option (Rat×Rat)):Prop where
 hd:H d=some (.dK kvs)
 pt:uz K H kvs L
 nk:(kvs.map (·.1)).Nodup
 ks:∀kv∈kvs,∃x∈pins.map (·.nm),kv.1=.inr x
 sz:VS L
 ll:kvs.length≤100
theorem rP.same {H H' :Hp}{d:Addr}{kvs:List (Key×V)}{pins:List aH}{L:Str→Option (Rat×Rat)}(h:rP K H d kvs pins L)(s:av H H'):rP K H' d kvs pins L:=⟨s _ _ h.hd,h.pt.same s,h.nk,h.ks,h.sz,h.ll⟩
theorem rP.at {H:Hp}{d:Addr}{kvs:List (Key×V)}{pins:List aH}{L:Str→Option (Rat×Rat)}(h:rP K H d kvs pins L){t:Nat}{k:Key}{y:V}(e:kvs[t]? =some (k,y)):∃x,k=.inr x∧x∈pins.map (·.nm)∧d7 K H y (mv L x):=by
 obtain ⟨x,hx,ek⟩:=h.ks _ (ir e)
 have ek' :k=.inr x:=ek
 subst ek'
 refine ⟨x,rfl,hx,?_⟩
 have ev:=h7 h.nk e
 rcases h.pt x with ⟨z,_⟩ | ⟨v,p,z1,z2,z3⟩
 ·rw [ev] at z
  cases z
 ·rw [ev] at z1
  cases z1
  unfold mv
  rw [z2]
  exact z3
theorem EB {f:Str→Rat}:∀{ks names:List Str},ks.Nodup→names.Nodup→(∀x∈ks,x∈names)→(∀x∈names,x∉ks→f x=0)→(ks.map f).sum=(names.map f).sum:=by
 have YC:∀{f:Str→Rat} {l:List Str},(∀x∈l,f x=0)→(l.map f).sum=0:=fun {f l} h=>by
  induction l with
  | nil=>rfl
  | cons a l ih=>
   rw [ac_,ae5,h a aeI,ih fun x hx=>h x (aeF _ hx)]
   grind
 have pull:∀{f:Str→Rat} {k:Str} {l:List Str},l.Nodup→k∈l→(l.map f).sum=f k+(l.map fun x=>if x=k then 0 else f x).sum:=fun {f k l} nd hk=>by
  induction l with
  | nil=>cases hk
  | cons a l ih=>
   rw [ae9] at nd
   rw [ac_,ac_,ae5,ae5]
   by_cases c:a=k
   ·subst c
    rw [if_pos rfl]
    have e:(l.map fun x=>if x=a then 0 else f x)=l.map f:=ae3 fun x hx=>if_neg (fun z=>nd.1 (by rw [← z];exact hx))
    rw [e]
    grind
   ·have hk' :k∈l:=by
     rcases ae1.mp hk with z | z
     ·exact absurd z.symm c
     ·exact z
    rw [ih nd.2 hk',if_neg c]
    grind
 intro ks
 induction ks generalizing f with
 | nil=>
  intro names _ _ _ h
  rw [YC fun x hx=>h x hx (by simp)]
  rfl
 | cons k ks ih=>
  intro names nk nn sub h
  rw [ae9] at nk
  rw [ac_,ae5,pull nn (sub k aeI)]
  congr 1
  rw [← ih (f:=fun x=>if x=k then 0 else f x) nk.2 nn (fun x hx=>sub x (aeF _ hx)) fun x hx nx=> ?_]
  ·exact congrArg List.sum (ae3 fun x hx=>(if_neg (fun z:x=k=>nk.1 (by rw [← z];exact hx))).symm)
  ·show (if x=k then 0 else f x)=0
   by_cases c:x=k
   ·rw [if_pos c]
   ·rw [if_neg c]
    exact h x hx (by
     intro z
     rcases ae1.mp z with z | z
     ·exact c z
     ·exact nx z)
def ip:Key→Str
 | .inr x=>x
 | .inl _=> ""
theorem rP.sum {H:Hp}{d:Addr}{kvs:List (Key×V)}{pins:List aH}{L:Str→Option (Rat×Rat)}(h:rP K H d kvs pins L)(np:(pins.map (·.nm)).Nodup)(M:Str→Rat×Rat):(kvs.map fun kv=>dt (mv L (ip kv.1)) (M (ip kv.1))).sum=iz pins L M:=by
 have nk:(kvs.map fun kv=>ip kv.1).Nodup:=by
  have e:(kvs.map fun kv=>ip kv.1)=(kvs.map (·.1)).map ip:=by rw [aeS];rfl
  rw [e]
  unfold ao5
  rw [agg]
  refine al_ (fun {a b} ha hb ne e=>ne ?_) h.nk
  obtain ⟨ka,hka,rfl⟩:=abt.mp ha
  obtain ⟨kb,hkb,rfl⟩:=abt.mp hb
  obtain ⟨x,_,ex⟩:=h.ks ka hka
  obtain ⟨y,_,ey⟩:=h.ks kb hkb
  rw [ex,ey] at e ⊢
  exact congrArg afb e
 have s:=EB (f:=fun x=>dt (mv L x) (M x)) nk np (fun x hx=>by
  obtain ⟨kv,M1,rfl⟩:=abt.mp hx
  obtain ⟨y,hy,ey⟩:=h.ks kv M1
  rw [ey]
  exact hy) fun x hx nx=>by
   rcases h.pt x with ⟨_,z⟩ | ⟨v,p,z1,_,_⟩
   ·unfold mv
    rw [z]
    exact h8 _
   ·exact absurd (abt.mpr ⟨_,mK z1,rfl⟩) nx
 rw [aeS,aeS] at s
 exact s
inductive vF (K:Frag)(vs:List V)(H:Hp)(Q:VK)(E_:XK):Prop where
 | mk (d dM:Addr) (kvs kM:List (Key×V)) (pins:List aH) (L:Str→Option (Rat×Rat)) (M:Str→Rat×Rat) (N:Nat) (_:vs=[.ref d,.ref dM]) (_:rP K H d kvs pins L) (_:(pins.map (·.nm)).Nodup) (_:FF K H pins dM kM M N) (_:dM≠d) (_:kvs.length≤9) (_:N≤1000000) (_:∀(v:V) (H' :Hp),av H H' →fQ K H' v (1+9*(2*N+2002)) (iz pins L M)→Q v H'):vF K vs H Q E_
theorem uc:aG ["_law_load_here","_law_motion","_law_total","_law_name_here","_law_drawn"] ["_law_load_here","_law_motion"] (ag yN):=sq
theorem Rz (D:Def K mg "_law_work" yN ["_law_load_here","_law_motion"])(j4:Fn P w K mg base (a9 P w) 1 "_law_sum" ["_law_one","_law_other"] (b7 K fB))(DX:Fn P w K mg base (a9 P w) 2 "_law_dot" ["_law_one","_law_other"] (nj K)):
  Fn P w K mg base (a9 P w) 3 "_law_work" ["_law_load_here","_law_motion"] (vF K):=by
 refine D.ok uc (fun vs H Q E h=> ?_) (fun f bF A outer s H vs Q E hr h=> ?_)
 ·obtain ⟨d,dM,kvs,kM,pins,L,M,N,rfl,_⟩:=h
  rfl
 obtain ⟨d,dM,kvs,kM,pins,L,M,N,rfl,ld,np,mo,ne,lk,hN,q⟩:=h
 have L2:2≤sizeLine:=by decide
 have sm:=ld.sum np M
 refine ⟨_,(ae (aC (i:=2) uc.nd rfl (ab_ rfl) (aZ (aq af (aq af aa))))
  (ae (qz (bw PassesOwn.never rfl (mH (pv 0)) (dB rfl (aV (aw (i:=3) uc.nd rfl (ab_ rfl)) (aV (aw (i:=4) uc.nd rfl (ab_ rfl)) cC))) (ah (aC (i:=2) uc.nd rfl (ab_ rfl) (aA j4 hr.mo pX (aq (pv 2) (aq (aA DX hr.mo pX (aq (pv 4) (aq (bX (bU hr) (pv 1) (pv 3) (fun _ _=>rfl)) aa))) aa)))))))
  (ah (aF (pv 2))))),?_⟩
 refine ⟨L2,?_⟩
 intro t1 n1;generalize eX:upd _ t1 _=H1;have ⟨s1,e1⟩:=nw n1 eX;clear eX
 have EC:=ld.same s1
 have mo1:=mo.same s1
 have t0:fQ K H1 (.ref t1) (1+0*(2*N+2002)) ((kvs.take 0).map fun kv=>dt (mv L (ip kv.1)) (M (ip kv.1))).sum:=by
  rw [agk]
  exact ⟨(0,1),⟨t1,rfl,bL.of e1⟩,by decide,(show vl ((0,1):Int×Int)=0 by decide+kernel),by decide,by decide⟩
 refine ⟨_,rfl,d,kvs,rfl,EC.hd,fun o=> ?_⟩
 have st:∀{H' :Hp},bT d H1 H' →bE H1 H' :=fun {H'} k b xs r=>by
  rcases r with r | ⟨o',r⟩
  ·exact .inl (k _ _ (fun e=>by rw [e,EC.hd] at r;cases r) r)
  ·exact .inr ⟨o',k _ _ (fun e=>by rw [e,EC.hd] at r;cases r) r⟩
 have k0:bT d H1 (upd H1 d (.fU o (.dK kvs))):=fun b o' n e=>by rw [aj n];exact e
 refine jO (d:=d) (o:=o) (kvs:=kvs) (fun t σ H' =>∃(tv:V) (o3 o4:Option V),σ=[some (.ref d),some (.ref dM),some tv,o3,o4]∧bT d H1 H' ∧H' d=some (.fU o (.dK kvs))∧fQ K H' tv (1+t*(2*N+2002)) ((kvs.take t).map fun kv=>dt (mv L (ip kv.1)) (M (ip kv.1))).sum) ⟨.ref t1,none,none,rfl,k0,ak,t0.a8 (st k0)⟩ (fun t σ H' _ h=>by
   obtain ⟨_,_,_,_,_,h,_⟩:=h
   exact h) ?_ ?_
 ·rintro t k y σ H6 p7 za ⟨tv,o3,o4,rfl,k6,Mp,nt⟩ n7
  have ht:t < kvs.length:=(be.mp za).1
  obtain ⟨x,rfl,hx,hv⟩:=EC.at za
  obtain ⟨p,mp,rfl⟩:=abt.mp hx
  have s7:=aK n7 (.tup [kV (.inr p.nm),y])
  have e7:(upd H6 p7 (.tup [kV (.inr p.nm),y])) p7=some (.tup [kV (.inr p.nm),y]):=ak
  generalize upd H6 p7 (.tup [kV (.inr p.nm),y])=H7 at s7 e7 ⊢
  have k7:bT d H1 H7:=fun b o' n e=>s7 _ _ (k6 b o' n e)
  refine ⟨p7,_,rfl,bL.of e7,rfl,_,_,rfl,_,_,rfl,rfl,?_⟩
  obtain ⟨tm,v1,v2,dg,et,m1,m2⟩:=mo1.tM p mp
  have dg7:cQ H7 dM (.str p.nm) (some (.ref tm)):=by
   have:=cQ.k (k:=.inr p.nm) (k7 _ _ ne mo1.hM)
   rw [dg] at this
   exact this
  have et7:H7 tm=some (.tup [v1,v2]):=k7 _ _ (fun e=>by rw [e,EC.hd] at et;cases et) et
  obtain ⟨da,u1,u2,rfl,YB,KA,hd2⟩:=hv.a8 (st k7)
  have zd:=ld.sz p.nm
  have zm:=mo.zb p mp
  refine ⟨_,rfl,_,rfl,_,rfl,_,rfl,dM,_,rfl,dg7,?_⟩
  dsimp only [gN]
  refine ⟨da,tm,u1,u2,v1,v2,_,_,_,_,1000,N,rfl,.inr YB,.inr (bL.of et7),de KA (kq zd.1 (aeG _)),de hd2 (kq zd.2 (aeG _)),de (m1.a8 (st k7)) zm.1,de (m2.a8 (st k7)) zm.2,by omega,fun v8 H8 s8 n8=> ?_⟩
  show b7 K fB [_,_] _ _ E0
  have bt:t*(2*N+2002)≤8*(2*N+2002):=aeX _ (by omega)
  refine h_ ((nt.same s7).same s8) n8 (by omega) fun p9 H9 s9 n9=> ?_
  refine ⟨_,_,_,rfl,fun b o' n e=>s9 _ _ (s8 _ _ (k7 b o' n e)),s9 _ _ (s8 _ _ (s7 _ _ Mp)),?_⟩
  have ew:((kvs.take (t+1)).map fun kv=>dt (mv L (ip kv.1)) (M (ip kv.1))).sum=((kvs.take t).map fun kv=>dt (mv L (ip kv.1)) (M (ip kv.1))).sum+((mv L p.nm).1*(M p.nm).1+(mv L p.nm).2*(M p.nm).2):=by
   rw [take_snoc za,aeR,apA,ac_,afh,ae5,afQ]
   show _+(dt (mv L p.nm) (M p.nm)+0)=_
   unfold dt
   grind
  rw [ew]
  exact n9.up (by rw [afx];omega)
 ·rintro σ H6 ⟨tv,o3,o4,rfl,k6,Mp,nt⟩
  refine ⟨d,o,kvs,Mp,fun o' u' z=>(by have z' :H d=some (.fU o' u'):=z;rw [ld.hd] at z';cases z'),?_⟩
  have s2:av H1 (upd H6 d (.dK kvs)):=fun b o' e=>by
   by_cases n:b=d
   ·subst n
    rw [EC.hd] at e
    rw [ak]
    exact e
   ·rw [aj n]
    exact k6 b o' n e
  have t2:fQ K (upd H6 d (.dK kvs)) tv (1+kvs.length*(2*N+2002)) ((kvs.take kvs.length).map fun kv=>dt (mv L (ip kv.1)) (M (ip kv.1))).sum:=nt.a8 fun b xs r=>by
   rcases r with r | ⟨o',r⟩
   ·exact .inl (by rw [aj (fun e=>by rw [e,Mp] at r;cases r)];exact r)
   ·by_cases c:b=d
    ·rw [c,Mp] at r
     cases r
    ·exact .inr ⟨o',by rw [aj c];exact r⟩
  generalize upd H6 d (.dK kvs)=H8 at s2 t2 ⊢
  rw [afc,sm] at t2
  have bt:kvs.length*(2*N+2002)≤9*(2*N+2002):=aeX _ lk
  exact ⟨_,rfl,q tv H8 (s1.trans s2) (t2.up (by omega))⟩
theorem uz.put {K:Frag}{H:Hp}{kvs:List (Key×V)}{F:Str→Option (Rat×Rat)}(h:uz K H kvs F){x:Str}{v:V}{q:Rat×Rat}(n:d7 K H v q):uz K H (putK kvs (.inr x) v) (fun nm=>if nm=x then some q else F nm):=fun nm=>by
 show (bS (putK kvs (.inr x) v) (.inr nm)=none∧(if nm=x then some q else F nm)=none)∨∃v' p,bS (putK kvs (.inr x) v) (.inr nm)=some v' ∧(if nm=x then some q else F nm)=some p∧d7 K H v' p
 rw [mB]
 by_cases c:nm=x
 ·subst c
  rw [if_pos rfl,if_pos rfl]
  exact .inr ⟨v,q,rfl,rfl,n⟩
 ·rw [if_neg (fun e=>c (by injection e)),if_neg c]
  exact h nm
theorem vG {kvs:List (Key×V)}{k:Key}{v:V}(h:(kvs.map (·.1)).Nodup):((putK kvs k v).map (·.1)).Nodup:=by
 unfold putK
 split
 ·have e:((kvs.map fun kv=>if kv.1=k then (kv.1,v) else kv).map (·.1))=kvs.map (·.1):=by
   rw [aeS]
   refine ae3 fun kv _=> ?_
   show (if kv.1=k then (kv.1,v) else kv).1=kv.1
   split <;> rfl
  rw [e]
  exact h
 ·rename_i c
  rw [aeR,afP]
  refine ⟨h,by simp,fun a ha b hb z=>c ?_⟩
  have gF :b=k:=by simpa using hb
  obtain ⟨kv,M1,ek⟩:=abt.mp ha
  rw [afU]
  exact ⟨kv,M1,decide_eq_true (by rw [ek,z,gF])⟩
theorem p9:Lo 10 9:=⟨by decide,by decide,by decide⟩
theorem p18:Lo 10 18:=⟨by decide,by decide,by decide⟩
theorem ED {t b:Int}(h:0 < b)(h1:t.natAbs < 1073741824)(h2:b < 1073741824):Sz 30 ((t:Rat) / (b:Rat)):=qA (afd h) (intBits_le_iff.mpr (by show _ < 1073741824;omega)) (intBits_le_iff.mpr (by show _ < 1073741824;omega))
inductive rh (K:Frag)(vs:List V)(H:Hp)(Q:VK)(E_:XK):Prop where
 | mk (sA pA:Addr) (ns:List Int) (us:List V) (pins:List aH) (_:vs=[.ref sA,.ref pA]) (_:aU K H sA (ns.map V.int)) (_:(∀i∈ns,intBits i≤1048576)) (_:H pA=some (.lst us)) (_:Paired (fS K H) us pins) (_:pins.length≤9) (_:∀(d:Addr) (kM:List (Key×V)) (M:Str→Option (Rat×Rat)) (H' :Hp),av H H' →rP K H' d kM pins M→kM.length≤9→Q (.ref d) H'):rh K vs H Q E_
theorem kz:aG ["_law_script","_law_pins_here","_law_load_here","_law_far","_law_k","_law_cell","_law_x","_law_other","_law_y"] ["_law_script","_law_pins_here"] (ag s_by):=sq
theorem RA (D:Def K mg "_law_load" s_by ["_law_script","_law_pins_here"])(bu:mg "range"=none)(a_:mg "len"=none)(pK:mg "int"=none)(iV:Fn P w K mg base (a9 P w) 1 "_law_cell_at" ["_law_script","_law_k"] (iR K))(cF:Fn P w K mg base (a9 P w) 1 "_law_field" ["_law_cell","_law_prime","_law_many"] dZ)(iT:Fn P w K mg base (a9 P w) 33 "_law_lowest" ["_law_top","_law_bottom"] cA):
  Fn P w K mg base (a9 P w) 34 "_law_load" ["_law_script","_law_pins_here"] (rh K):=by
 refine D.ok kz (fun vs H Q E h=> ?_) (fun f bF A outer s H vs Q E hr h=> ?_)
 ·obtain ⟨sA,pA,ns,us,pins,rfl,_⟩:=h
  rfl
 obtain ⟨sA,pA,ns,us,pins,rfl,hS,hb,hp,pp,lp,q⟩:=h
 have L2:2≤sizeLine:=by decide
 have lu:us.length=pins.length:=Paired.length pp
 refine ⟨_,(ae (aC (i:=2) kz.nd rfl (ab_ rfl) d6)
  (ae (aC (i:=3) kz.nd rfl (ab_ rfl) (aI z6 af af))
  (ae (bw PassesOwn.never rfl (bM rfl bu (aq (aR aJ rfl a_ bW (aq (pv 1) aa)) aa)) (aw (i:=4) kz.nd rfl (ab_ rfl)) (ae (aC (i:=5) kz.nd rfl (ab_ rfl) (aA iV hr.mo pX (aq (pv 0) (aq (aI bH af (pv 4)) aa))))
   (ae (aC (i:=6) kz.nd rfl (ab_ rfl) (aA iT hr.mo pX (aq (aI cL (aI dE (pv 5) (aI bH (aI cf af (pv 3)) af)) (pv 3)) (aq (aI bH af (aA cF hr.mo pX (aq (pv 5) (aq af (aq af aa))))) aa))))
   (ae (aC (i:=7) kz.nd rfl (ab_ rfl) (aY aX (bR (aq (aI cf (pv 5) af) (aq (aI ma (pv 5) (aI bH (aI cf af (pv 3)) af)) aa))) (ck xp rfl pK Kg (aq (Ld (AD Oh oG af (pv 5) (aI z6 af af))) aa)) (fun _ _=>rfl)))
   (ae (aC (i:=8) kz.nd rfl (ab_ rfl) (aA iT hr.mo pX (aq (aI cL (aI dE (pv 7) (aI bH (aI cf af (pv 3)) af)) (pv 3)) (aq (aI bH af (aA cF hr.mo pX (aq (pv 5) (aq af (aq af aa))))) aa))))
   (ah (bg (aQ z_ (aA cF hr.mo pX (aq (pv 5) (aq af (aq af aa)))) af (aT _)) (ah (eO (bU hr) (pv 2) (aS (aY aX (pv 1) (pv 4) (fun _ _=>rfl))) (aZ (aq (pv 6) (aq (pv 8) aa))) rfl)) aL)))))))
  (ah (aF (pv 2)))))),?_⟩
 intro d n1;generalize eX:upd _ d _=H1;have ⟨s1,e1⟩:=nw n1 eX;clear eX
 dsimp only
 refine cV (fun σ' H' =>σ' =[some (.ref sA),some (.ref pA),some (.ref d),some (.int 1000000000),none,none,none,none,none]∧H' =H1) (fun Nx jw=>⟨_,_,rfl,rfl,p9,jw _ _ ⟨rfl,rfl⟩⟩) ?_
 rintro σ' Hy ⟨rfl,rfl⟩
 refine ⟨_,rfl,pA,_,rfl,.inl (aU.of (s1 _ _ hp)),((us.length:Nat):Int),rfl,by omega,by omega,bQ (lo:=0) (n:=((us.length:Nat):Int).toNat) (fun i σ H' =>∃(o4 o5 o6 o7 o8:Option V) (kM:List (Key×V)) (M:Str→Option (Rat×Rat)),σ=[some (.ref sA),some (.ref pA),some (.ref d),some (.int 1000000000),o4,o5,o6,o7,o8]∧av H H' ∧H' d=some (.dK kM)∧uz K H' kM M∧VS M∧(∀kv∈kM,∃x∈pins.map (·.nm),kv.1=.inr x)∧(kM.map (·.1)).Nodup∧kM.length≤i) ⟨none,none,none,none,none,[],fun _=>none,rfl,s1,e1,fun nm=>.inl ⟨rfl,rfl⟩,fun x=>⟨dr (by decide),dr (by decide)⟩,fun kv h=>(nomatch h),agB,aeG _⟩ ?_ ?_⟩
 ·rintro i σ H2 hi ⟨o4,o5,o6,o7,o8,kM,M,rfl,s2,e2,pM,zM,ky,V5,ll⟩
  have ek:(0:Int)+(i:Int)=(i:Int):=afa _
  rw [ek]
  have Ko:i < us.length:=by omega
  refine ⟨_,rfl,_,rfl,_,_,rfl,rfl,sA,ns,_,rfl,s2.seq hS,by omega,by omega,?_⟩
  have cb:=zu hb (26+(i:Int))
  generalize cell ns (26+(i:Int))=c at cb ⊢
  have i1:=ba (c:=c) (p:=1009) (m:=997) (by decide)
  have i2:=ba (c:=c) (p:=2003) (m:=997) (by decide)
  have f1:=gB (x:=c) (m:=2*1000000000+1) (by decide)
  refine ⟨_,rfl,_,rfl,_,_,rfl,rfl,⟨by decide+kernel,by decide+kernel⟩,_,_,rfl,rfl,_,_,rfl,rfl,nz (by decide),_,rfl,_,_,rfl,rfl,_,rfl,_,_,_,rfl,by decide,by decide,by decide,_,_,rfl,rfl,_,_,rfl,by omega,fun p1 H3 s3 e3=> ?_⟩
  rw [dQ (by omega)] at e3
  have z3:=ED (t:=c.fmod (2*1000000000+1) - 1000000000) (b:=1+field c 1009 997) (by omega) (by omega) (by omega)
  generalize ((c.fmod (2*1000000000+1) - 1000000000:Int):Rat) / ((1+field c 1009 997:Int):Rat)=x at e3 z3
  dsimp only [cZ]
  refine cV (fun σ' H' =>∃z:Int,σ' =[some (.ref sA),some (.ref pA),some (.ref d),some (.int 1000000000),some (.int (i:Int)),some (.int c),some (.ref p1),some (.int z),o8]∧av H3 H') (fun Nx jw=> ?_) ?_
  ·refine ⟨_,rfl,_,_,rfl,rfl,⟨ad_ cb (by decide),by decide+kernel⟩,_,rfl,_,rfl,_,_,rfl,rfl,⟨by decide+kernel,by decide+kernel⟩,_,_,rfl,rfl,_,_,rfl,rfl,⟨by decide,by decide+kernel⟩,L2,?_⟩
   intro t4 n4;generalize eX:upd _ t4 _=H4;have ⟨s4,e4⟩:=nw n4 eX;clear eX
   have done:∀k:Bool,∃z:Int,fN [V.int (c*69621),.int (c.fdiv (2*1000000000+1))] (if k=true then 1 else 0)=some (.int z):=fun k=>by
    cases k
    ·exact ⟨_,rfl⟩
    ·exact ⟨_,rfl⟩
   refine ⟨_,rfl,_,_,rfl,rfl,_,rfl,?_⟩
   refine bf (fun _=> ?_) (fun _=> ?_)
   ·refine ⟨_,_,rfl,rfl,p18,_,_,rfl,rfl,_,rfl,.inr ⟨_,rfl,?_⟩⟩
    obtain ⟨z,ez⟩:=done (!decide (c < (10:Int)^(18:Int).toNat))
    exact ⟨t4,_,_,_,rfl,rfl,aU.of e4,ez,jw _ _ ⟨z,rfl,s4⟩⟩
   ·refine ⟨_,rfl,.inr ⟨_,rfl,?_⟩⟩
    obtain ⟨z,ez⟩:=done (!false)
    exact ⟨t4,_,_,_,rfl,rfl,aU.of e4,ez,jw _ _ ⟨z,rfl,s4⟩⟩
  rintro σ' H4 ⟨z,rfl,s4⟩
  have f2:=gB (x:=z) (m:=2*1000000000+1) (by decide)
  refine ⟨_,rfl,_,rfl,_,_,rfl,rfl,⟨by decide+kernel,by decide+kernel⟩,_,_,rfl,rfl,_,_,rfl,rfl,nz (by decide),_,rfl,_,_,rfl,rfl,_,rfl,_,_,_,rfl,by decide,by decide,by decide,_,_,rfl,rfl,_,_,rfl,by omega,fun p5 H5 s5 e5=> ?_⟩
  rw [dQ (by omega)] at e5
  have z5:=ED (t:=z.fmod (2*1000000000+1) - 1000000000) (b:=1+field c 2003 997) (by omega) (by omega) (by omega)
  generalize ((z.fmod (2*1000000000+1) - 1000000000:Int):Rat) / ((1+field c 2003 997:Int):Rat)=y at e5 z5
  have D_:=s3.trans (s4.trans s5)
  have pG:=s2.trans D_
  obtain ⟨p,ep,oy⟩:=aE pp (gE Ko)
  have mp:p∈pins:=ir ep
  refine ⟨_,rfl,_,_,_,rfl,by decide,by decide,by decide,_,_,rfl,rfl,_,rfl,?_⟩
  refine bf (fun _=> ?_) (fun _=> ?_)
  ·refine ⟨_,rfl,_,rfl,L2,?_⟩
   intro va n6;generalize eX:upd _ va _=H6;have ⟨s6,e6⟩:=nw n6 eX;clear eX
   have NU:=pG.trans s6
   obtain ⟨ta,l,sv,ws,eu,h1,_⟩:=oy.same NU
   have ai:fN us (i:Int)=some (.ref ta):=bG (by rw [gE Ko,eu])
   have YD:=s6 _ _ (D_ _ _ e2)
   refine ⟨_,rfl,_,rfl,_,rfl,pA,_,_,_,rfl,rfl,aU.of (NU _ _ hp),ai,ta,_,_,_,rfl,rfl,h1,jB,d,_,rfl,je.k (k:=.inr p.nm) YD (aeJ (show kM.length≤1000 by omega) (by decide)),?_⟩
   have t7:bE H6 (upd H6 d (.dK (putK kM (.inr p.nm) (.ref va)))):=fun b zs r=>by
    rcases r with r | ⟨o',r⟩
    ·exact .inl (by rw [aj (fun e=>by rw [e,YD] at r;cases r)];exact r)
    ·exact .inr ⟨o',by rw [aj (fun e=>by rw [e,YD] at r;cases r)];exact r⟩
   have hv:d7 K H6 (.ref va) (x,y):=ng e6 ((gH e3).same (s4.trans (s5.trans s6))) ((gH e5).same s6)
   refine ⟨_,_,_,_,_,_,_,rfl,fun b o' z=> ?_,ak,uz.put (F:=M) (fun nm=> ?_) (hv.a8 t7),fun nm=> ?_,xU (fun k:Key=>∃x∈pins.map (·.nm),k=afb x) ky ⟨p.nm,abt.mpr ⟨p,mp,rfl⟩,rfl⟩,vG V5,ad_ (fH _ _ _) (by omega)⟩
   ·rw [aj (au z n1)]
    exact NU _ _ z
   ·rcases (pM.same (D_.trans s6)) nm with h | ⟨v,q',a1,a2,a3⟩
    ·exact .inl h
    ·exact .inr ⟨v,q',a1,a2,a3.a8 t7⟩
   ·show Sz 1000 ((if nm=p.nm then some (x,y) else M nm).getD (0,0)).1∧Sz 1000 ((if nm=p.nm then some (x,y) else M nm).getD (0,0)).2
    by_cases cc:nm=p.nm
    ·rw [if_pos cc]
     exact ⟨z3.up (by decide),z5.up (by decide)⟩
    ·rw [if_neg cc]
     exact zM nm
  ·exact ⟨_,_,_,_,_,kM,M,rfl,pG,D_ _ _ e2,pM.same D_,zM,ky,V5,by omega⟩
 ·rintro σ H2 ⟨o4,o5,o6,o7,o8,kM,M,rfl,s2,e2,pM,zM,ky,V5,ll⟩
  exact ⟨_,rfl,q d kM M H2 s2 ⟨e2,pM,V5,ky,zM,by omega⟩ (by omega)⟩
theorem vH {α β:Type}{nm:α→Str}(b0:β){l:List α}(nd:(l.map nm).Nodup)(f:Nat→β):∃T:Str→β,∀(i:Nat) (x:α),l[i]? =some x→T (nm x)=f i:=by
 classical
 refine ⟨fun s=>if h:∃i,(l.map nm)[i]? =some s then f h.choose else b0,fun i x e=> ?_⟩
 have e' :(l.map nm)[i]? =some (nm x):=by rw [Wp,e];rfl
 have h:∃i,(l.map nm)[i]? =some (nm x):=⟨i,e'⟩
 show (if h:∃i,(l.map nm)[i]? =some (nm x) then f h.choose else b0)=f i
 rw [dif_pos h]
 exact congrArg f (fe nd h.choose_spec e')
theorem rl {t b:Int}(h:0 < b)(h1:t.natAbs < 2048)(h2:b < 2048):Sz 11 (vl (t,b)):=qA (afd h) (intBits_le_iff.mpr (by show _ < 2048;omega)) (intBits_le_iff.mpr (by show _ < 2048;omega))
theorem nK {H:Hp}{p:Addr}{t b:Int}(e:H p=some (.tup [.int t,.int b]))(h:0 < b)(h1:t.natAbs < 2048)(h2:b < 2048):fQ K H (.ref p) 11 (vl (t,b)):=⟨(t,b),⟨p,rfl,bL.of e⟩,h,rfl,(by show _≤2048;omega),(by show _≤2048;omega)⟩
theorem kA {α:Type}{R:V→α→Prop}:∀(n:Nat) {us:List V} {zs:List α},Paired R us zs→Paired R (us.take n) (zs.take n)
 | 0,_,_,_=>by simpa using Paired.nil
 | n+1,_,_,.nil=>by simpa using Paired.nil
 | n+1,_,_,.cons h t=>by
  rw [ao1,ao1]
  exact .cons h (kA n t)
theorem EE {α:Type}{k:Nat}{f:α→Rat}:∀{l:List α},(∀x∈l,Sz k (f x))→Sz (l.length*(k+1)+1) (l.map f).sum
 | [],_=>by
  rw [afh,afQ]
  exact dr (by simp)
 | x::l,h=>by
  rw [ac_,ae5,ae6]
  refine ((h x aeI).add (EE fun y hy=>h y (aeF _ hy))).up ?_
  rw [afx]
  omega
theorem KS {k m:Nat}:∀{us ws:List Rat},(∀u∈us,Sz k u)→(∀w∈ws,Sz m w)→Sz (us.length*(k+m+1)+1) (sP us ws)
 | [],ws,_,_=>by
  rw [gA]
  exact dr (by simp)
 | u::us,[],_,_=>by
  have:sP (u::us) []=0:=by simp [sP]
  rw [this]
  exact dr (by simp)
 | u::us,w::ws,h1,h2=>by
  rw [dI,ae6]
  refine (((h1 u aeI).mul (h2 w aeI)).add (KS (us:=us) (ws:=ws) (fun y hy=>h1 y (aeF _ hy)) fun y hy=>h2 y (aeF _ hy))).up ?_
  rw [afx]
  omega
theorem ud {pins:List aH}{ao:List bq}(g:fq pins ao){T:Str→Rat}{U:Str→List Rat}(zT:∀b∈ao,Sz 11 (T b.nm))(zU:∀p∈pins,∀u∈U p.nm,Sz 11 u)(lU:∀p∈pins,(U p.nm).length=p.ws.length){p:aH}(hp:p∈pins){c:Rat×Rat→Rat}(hc:∀{n:Nat} {w:Rat×Rat},Sz n w.1∧Sz n w.2→Sz n (c w)):Sz 1000 (dX ao T U p c):=by
 unfold dX
 have z1:Sz ((U p.nm).length*(11+22+1)+1) (sP (U p.nm) (p.ws.map c)):=KS (zU p hp) fun w hw=>by
  obtain ⟨w',P0,rfl⟩:=abt.mp hw
  exact hc ((g.sz p hp).2.2 w' P0)
 have z2:Sz (ao.length*(61+1)+1) (ao.map fun b=>T b.nm*c (mv (du b) p.nm)).sum:=EE fun b hb=>((zT b hb).mul (hc (DH g hb p.nm))).up (by decide)
 have l1:=g.lw p hp
 have l2:=g.lb
 have l3:=lU p hp
 have m1:(U p.nm).length*(11+22+1)≤2*34:=aeX 34 (by omega)
 have m2:ao.length*(61+1)≤14*62:=aeX 62 l2
 exact (z1.add z2).up (by omega)
def EF (ao:List bq)(T:Str→Rat)(U:Str→List Rat)(p:aH):Rat×Rat:=(-(dX ao T U p (·.1)), -(dX ao T U p (·.2)))
theorem xc {q:Int×Int}{r:Rat}(h:0 < q.2)(e:vl q=r):low (0 - q.1) q.2=qr (-r):=by
 rw [dQ (afd h), ← e]
 congr 1
 unfold vl
 push_cast
 grind
inductive rm (K:Frag)(vs:List V)(H:Hp)(Q:VK)(E_:XK):Prop where
 | mk (sA pA bA:Addr) (ns:List Int) (us ws:List V) (pins:List aH) (ao:List bq) (_:vs=[.ref sA,.ref pA,.ref bA]) (_:aU K H sA (ns.map V.int)) (_:FH K H pA bA us ws pins ao) (_:fq pins ao) (_:∀(d:Addr) (kvs:List (Key×V)) (L:Str→Option (Rat×Rat)) (T:Str→Rat) (U:Str→List Rat) (H' :Hp),av H H' →rP K H' d kvs pins L→kvs.length≤9→fP pins ao T U L→Q (.ref d) H'):rm K vs H Q E_
theorem gh:aG ["_law_script","_law_pins_here","_law_bars_here","_law_pulls","_law_k","_law_cell","_law_pushes","_law_some","_law_found","_law_load_here","_law_x","_law_y"] ["_law_script","_law_pins_here","_law_bars_here"] (ag yO):=sq
theorem RB (D:Def K mg "_law_borne" yO ["_law_script","_law_pins_here","_law_bars_here"])(a_:mg "len"=none)(bu:mg "range"=none)(iV:Fn P w K mg base (a9 P w) 1 "_law_cell_at" ["_law_script","_law_k"] (iR K))(cF:Fn P w K mg base (a9 P w) 1 "_law_field" ["_law_cell","_law_prime","_law_many"] dZ)(M0:Fn P w K mg base (a9 P w) 3 "_law_forces" ["_law_pins_here","_law_bars_here","_law_pulls","_law_pushes"] (jz K))(iT:Fn P w K mg base (a9 P w) 33 "_law_lowest" ["_law_top","_law_bottom"] cA):
  Fn P w K mg base (a9 P w) 34 "_law_borne" ["_law_script","_law_pins_here","_law_bars_here"] (rm K):=by
 refine D.ok gh (fun vs H Q E h=> ?_) (fun f bF A outer s H vs Q E hr h=> ?_)
 ·obtain ⟨sA,pA,bA,ns,us,ws,pins,ao,rfl,_⟩:=h
  rfl
 obtain ⟨sA,pA,bA,ns,us,ws,pins,ao,rfl,hS,fr,g,q⟩:=h
 have nb:=g.nb
 have L2:2≤sizeLine:=by decide
 have lp:=fr.lp
 have lb:=fr.lb
 have lu:us.length=pins.length:=Paired.length fr.pp
 have lw:ws.length=ao.length:=Paired.length fr.pb
 refine ⟨_,(ae (aC (i:=3) gh.nd rfl (ab_ rfl) (bR aa))
  (ae (bw PassesOwn.never rfl (bM rfl bu (aq (aR aJ rfl a_ bW (aq (pv 2) aa)) aa)) (aw (i:=4) gh.nd rfl (ab_ rfl)) (ae (aC (i:=5) gh.nd rfl (ab_ rfl) (aA iV hr.mo pX (aq (pv 0) (aq (aI bH af (pv 4)) aa))))
   (ah (bO (i7 PySem.F.plainAttrs_list PySem.F.slot_list_append PySem.F.type_list_append cW (pv 3) (aq (aZ (aq (aI cL (aA cF hr.mo pX (aq (pv 5) (aq af (aq af aa)))) af) (aq (aI bH af (aA cF hr.mo pX (aq (pv 5) (aq af (aq af aa))))) aa))) aa))))))
  (ae (aC (i:=6) gh.nd rfl (ab_ rfl) (bR aa))
  (ae (bw PassesOwn.never rfl (bM rfl bu (aq (aR aJ rfl a_ bW (aq (pv 1) aa)) aa)) (aw (i:=4) gh.nd rfl (ab_ rfl)) (ae (aC (i:=5) gh.nd rfl (ab_ rfl) (aA iV hr.mo pX (aq (pv 0) (aq (aI bH af (pv 4)) aa))))
   (ae (aC (i:=7) gh.nd rfl (ab_ rfl) (bR (aq (aZ (aq (aI cL (aA cF hr.mo pX (aq (pv 5) (aq af (aq af aa)))) af) (aq af aa))) (aq (aZ (aq (aI cL (aA cF hr.mo pX (aq (pv 5) (aq af (aq af aa)))) af) (aq af aa))) aa))))
   (ah (bO (i7 PySem.F.plainAttrs_list PySem.F.slot_list_append PySem.F.type_list_append cW (pv 6) (aq (dj eG (pv 7) eE (dD (aR aJ rfl a_ bW (aq (aS (aY aX (pv 1) (pv 4) (fun _ _=>rfl))) aa)))) aa)))))))
  (ae (aC (i:=8) gh.nd rfl (ab_ rfl) (aA M0 hr.mo pX (aq (pv 1) (aq (pv 2) (aq (pv 3) (aq (pv 6) aa))))))
  (ae (aC (i:=9) gh.nd rfl (ab_ rfl) d6)
  (ae (bw PassesOwn.never rfl (bM rfl bu (aq (aR aJ rfl a_ bW (aq (pv 1) aa)) aa)) (aw (i:=4) gh.nd rfl (ab_ rfl)) (ae (aC (i:=10) gh.nd rfl (ab_ rfl) (aA iT hr.mo pX (aq (aI cL af (aS (pj (aY aX (pv 8) (pv 4) (fun _ _=>rfl))))) (aq (aS (pj (aY aX (pv 8) (pv 4) (fun _ _=>rfl)))) aa))))
   (ae (aC (i:=11) gh.nd rfl (ab_ rfl) (aA iT hr.mo pX (aq (aI cL af (aS (pj (aY aX (pv 8) (pv 4) (fun _ _=>rfl))))) (aq (aS (pj (aY aX (pv 8) (pv 4) (fun _ _=>rfl)))) aa))))
   (ah (eO (bU hr) (pv 9) (aS (aY aX (pv 1) (pv 4) (fun _ _=>rfl))) (aZ (aq (pv 10) (aq (pv 11) aa))) rfl)))))
  (ah (aF (pv 9)))))))))),?_⟩
 refine ⟨(by show 0≤sizeLine;decide),?_⟩
 intro lT nT;generalize eX:upd _ lT _=H1;have ⟨s1,eT⟩:=nw nT eX;clear eX
 have en:((ws.length:Nat):Int).toNat=ws.length:=by omega
 refine ⟨_,rfl,bA,_,rfl,.inl (aU.of (s1 _ _ fr.hb)),((ws.length:Nat):Int),rfl,by omega,by omega,bQ (lo:=0) (n:=((ws.length:Nat):Int).toNat) (fun i σ H' =>∃(o4 o5:Option V) (ts:List V) (rs:List Rat),σ=[some (.ref sA),some (.ref pA),some (.ref bA),some (.ref lT),o4,o5,none,none,none,none,none,none]∧av H H' ∧H' lT=some (.lst ts)∧Paired (fun v r=>fQ K H' v 11 r) ts rs∧rs.length=i∧∀r∈rs,Sz 11 r) ⟨none,none,[],[],rfl,s1,eT,.nil,rfl,by simp⟩ ?_ ?_⟩
 ·rintro i σ H2 hi ⟨o4,o5,ts,rs,rfl,s2,e2,pt,lr,zr⟩
  have ek:(0:Int)+(i:Int)=(i:Int):=afa _
  rw [ek]
  have lt:ts.length=rs.length:=Paired.length pt
  refine ⟨_,rfl,_,rfl,_,_,rfl,rfl,sA,ns,_,rfl,s2.seq hS,by omega,by omega,?_⟩
  generalize cell ns (35+(i:Int))=c0
  have f1:=ba (c:=c0) (p:=4001) (m:=2001) (by decide)
  have f2:=ba (c:=c0) (p:=5003) (m:=9) (by decide)
  refine ⟨_,rfl,.inl ⟨rfl,_,aU.of e2⟩,_,rfl,_,_,_,rfl,by decide,by decide,by decide,_,_,rfl,rfl,_,rfl,_,_,_,rfl,by decide,by decide,by decide,_,_,rfl,rfl,L2,?_⟩
  intro p3 n3;generalize eX:upd _ p3 _=H3;have ⟨s3,e3⟩:=nw n3 eX;clear eX
  have e23:=s3 _ _ e2
  refine ⟨lT,_,_,rfl,rfl,e23,aeJ (show ts.length≤100 by omega) (by decide),?_⟩
  have st:bE H3 (upd H3 lT (.lst (ts++[.ref p3]))):=.list e23
  refine ⟨_,_,ts++[.ref p3],rs++[vl (field c0 4001 2001 - 1000,1+field c0 5003 9)],rfl,fun b o z=> ?_,ak,ef (Paired.bZ pt fun _ _ z=>(z.same s3).a8 st) ((nK e3 (by omega) (by omega) (by omega)).a8 st),by simp [lr],fun r hr=> ?_⟩
  ·rw [aj (au z nT)]
   exact s3 _ _ (s2 _ _ z)
  ·rcases aeM.mp hr with z | z
   ·exact zr r z
   ·rw [aeH.mp z]
    exact rl (by omega) (by omega) (by omega)
 rintro σ H2 ⟨o4,o5,ts,rs,rfl,s2,e2,pt,lr,zr⟩
 rw [en,lw] at lr
 refine ⟨(by show 0≤sizeLine;decide),?_⟩
 intro lU nU;generalize eX:upd _ lU _=H3;have ⟨s3,eU⟩:=nw nU eX;clear eX
 have nG:=s2.trans s3
 have Ys:((us.length:Nat):Int).toNat=us.length:=by omega
 refine ⟨_,rfl,pA,_,rfl,.inl (aU.of (nG _ _ fr.hp)),((us.length:Nat):Int),rfl,by omega,by omega,bQ (lo:=0) (n:=((us.length:Nat):Int).toNat) (fun i σ H' =>∃(o4 o5 o7:Option V) (xs:List V) (zK:List (List Rat)),σ=[some (.ref sA),some (.ref pA),some (.ref bA),some (.ref lT),o4,o5,some (.ref lU),o7,none,none,none,none]∧av H2 H' ∧H' lU=some (.lst xs)∧Paired (fun v rs=>∃la ys,v=.ref la∧la≠lU∧H' la=some (.lst ys)∧Paired (fun v r=>fQ K H' v 11 r) ys rs) xs zK∧zK.length=i∧∀(j:Nat) (rs:List Rat) (p:aH),zK[j]? =some rs→pins[j]? =some p→rs.length=p.ws.length∧∀r∈rs,Sz 11 r) ⟨o4,o5,none,[],[],rfl,s3,eU,.nil,rfl,by simp⟩ ?_ ?_⟩
 ·rintro i σ H4 hi ⟨o4,o5,o7,xs,zK,rfl,s4,e4,Ky,V6,zz⟩
  have ek:(0:Int)+(i:Int)=(i:Int):=afa _
  rw [ek]
  have iW:=s2.trans s4
  have lx:xs.length=zK.length:=Paired.length Ky
  have RC:i < us.length:=by omega
  obtain ⟨p,ep,oy⟩:=aE fr.pp (gE RC)
  have mp:=ir ep
  obtain ⟨ta,l,sv,d9,eu,h1,h2,h3,h4⟩:=oy.same iW
  have ai:fN us (i:Int)=some (.ref ta):=bG (by rw [gE RC,eu])
  have lv:d9.length=p.ws.length:=Paired.length h4
  have lwp:=(fr.gp.ws p mp).len
  refine ⟨_,rfl,_,rfl,_,_,rfl,rfl,sA,ns,_,rfl,iW.seq hS,by omega,by omega,?_⟩
  generalize cell ns (26+(i:Int))=c0
  have f1:=ba (c:=c0) (p:=6007) (m:=201) (by decide)
  have f2:=ba (c:=c0) (p:=7001) (m:=201) (by decide)
  refine ⟨_,rfl,_,_,_,rfl,by decide,by decide,by decide,_,_,rfl,rfl,L2,?_⟩
  intro p5 n5;generalize eX:upd _ p5 _=H5;have ⟨s5,e5⟩:=nw n5 eX;clear eX
  refine ⟨_,rfl,_,_,_,rfl,by decide,by decide,by decide,_,_,rfl,rfl,L2,?_⟩
  intro p6 n6;generalize eX:upd _ p6 _=H6;have ⟨s6,e6⟩:=nw n6 eX;clear eX
  refine ⟨L2,?_⟩
  intro l7 n7;generalize eX:upd _ l7 _=H7;have ⟨s7,e7⟩:=nw n7 eX;clear eX
  have RD:=s5.trans (s6.trans s7)
  have YE:=RD _ _ e4
  refine ⟨_,rfl,.inl ⟨rfl,_,aU.of YE⟩,_,rfl,_,rfl,_,rfl,pA,_,_,_,rfl,rfl,aU.of ((iW.trans RD) _ _ fr.hp),ai,ta,_,_,_,rfl,rfl,Ty.av.cR RD h1,rfl,l,_,rfl,.inl (aU.of (RD _ _ h3)),_,rfl,l7,_,rfl,aU.of e7,?_⟩
  rw [lj (show d9.length≤[V.ref p5,V.ref p6].length by show d9.length≤2;omega)]
  intro la n8;generalize eX:upd _ la _=H8;have ⟨s8,e8⟩:=nw n8 eX;clear eX
  have e48:=s8 _ _ YE
  have NR:=RD.trans s8
  refine ⟨lU,_,_,rfl,rfl,e48,aeJ (show xs.length≤100 by omega) (by decide),?_⟩
  have st:bE H8 (upd H8 lU (.lst (xs++[.ref la]))):=.list e48
  have FE:la≠lU:=fun z=>by rw [z,YE] at n8;cases n8
  have two:Paired (fun v r=>fQ K H8 v 11 r) [V.ref p5,V.ref p6] [vl (field c0 6007 201 - 100,1),vl (field c0 7001 201 - 100,2)]:=.cons (nK (s8 _ _ (s7 _ _ (s6 _ _ e5))) (by decide) (by omega) (by decide)) (.cons (nK (s8 _ _ (s7 _ _ e6)) (by decide) (by omega) (by decide)) .nil)
  refine ⟨_,_,_,xs++[.ref la],zK++[[vl (field c0 6007 201 - 100,1),vl (field c0 7001 201 - 100,2)].take d9.length],rfl,fun b o z=> ?_,ak,ef (Paired.bZ Ky fun v rs ⟨la',ys,a,b,c,d⟩=>⟨la',ys,a,b,by rw [aj b];exact NR _ _ c,Paired.bZ d fun _ _ z=>(z.same NR).a8 st⟩) ⟨la,_,rfl,FE,by rw [aj FE];exact e8,Paired.bZ (kA _ two) fun _ _ z=>z.a8 st⟩,by simp [V6],fun j rs p' ej oC => ?_⟩
  ·rw [aj (au z nU)]
   exact NR _ _ (s4 _ _ z)
  ·by_cases c:j < zK.length
   ·rw [aeL c] at ej
    exact zz j rs p' ej oC
   ·rw [aeP (by omega)] at ej
    have YF:j=i:=by
     by_cases z:j - zK.length=0
     ·omega
     ·rw [aeE (by simp;omega)] at ej
      cases ej
    subst YF
    rw [show j - zK.length=0 by omega] at ej
    cases ej
    rw [ep] at oC
    cases oC
    refine ⟨?_,fun r hr=> ?_⟩
    ·rw [ae2]
     show min d9.length 2=p.ws.length
     omega
    ·have:=aoY hr
     rcases ae1.mp this with z | z
     ·rw [z]
      exact rl (by decide) (by omega) (by decide)
     ·rw [aeH.mp z]
      exact rl (by decide) (by omega) (by decide)
 rintro σ H4 ⟨o4,oc,os,xs,zK,rfl,s4,e4,Ky,V6,zz⟩
 rw [Ys,lu] at V6
 obtain ⟨T,hT⟩:=vH (nm:=bq.nm) (0:Rat) nb fun i=>rs.getD i 0
 obtain ⟨U,hU⟩:=vH (nm:=aH.nm) ([]:List Rat) fr.gp.np fun i=>zK.getD i []
 have tT:∀(i:Nat) (b:bq),ao[i]? =some b→rs[i]? =some (T b.nm):=fun i b e=>by
  have hi:=(be.mp e).1
  rw [hT i b e,aeV,gE (by omega)]
  rfl
 have tU:∀(i:Nat) (p:aH),pins[i]? =some p→zK[i]? =some (U p.nm):=fun i p e=>by
  have hi:=(be.mp e).1
  rw [hU i p e,aeV,gE (by omega)]
  rfl
 have fo:Yr K H4 lT lU ts xs pins ao T U 11:=by
  refine ⟨s4 _ _ e2,e_ (by rw [Paired.length pt,lr]) fun i v e=> ?_,e4,e_ (by rw [Paired.length Ky,V6]) fun i v e=> ?_,fun p hp=> ?_,by decide⟩
  ·obtain ⟨r,er,nr⟩:=aE pt e
   have hi:=(be.mp er).1
   obtain ⟨b,eb⟩:∃b,ao[i]? =some b:=⟨_,gE (by omega)⟩
   have:=tT i b eb
   rw [er] at this
   exact ⟨b,eb,by rw [← aeY this];exact nr.same s4⟩
  ·obtain ⟨rs',er,la,ys,a,b,c,d⟩:=aE Ky e
   have hi:=(be.mp er).1
   obtain ⟨p,ep⟩:∃p,pins[i]? =some p:=⟨_,gE (by omega)⟩
   have:=tU i p ep
   rw [er] at this
   exact ⟨p,ep,la,ys,a,c,by rw [← aeY this];exact d⟩
  ·obtain ⟨i,ei⟩:=aeK hp
   exact (zz i _ p (tU i p ei) ei).1
 have zT:∀b∈ao,Sz 11 (T b.nm):=fun b hb=>by
  obtain ⟨i,ei⟩:=aeK hb
  exact zr _ (ir (tT i b ei))
 have zU:∀p∈pins,∀u∈U p.nm,Sz 11 u:=fun p hp u hu=>by
  obtain ⟨i,ei⟩:=aeK hp
  exact (zz i _ p (tU i p ei) ei).2 u hu
 have iW:=s2.trans s4
 refine ⟨_,rfl,_,rfl,_,rfl,_,rfl,pA,bA,lT,lU,us,ws,ts,xs,pins,ao,T,U,11,rfl,fr.same iW,fo,fun fA ls F H1 s1 ll hF eF=> ?_⟩
 have Mz:=iW.trans s1
 obtain ⟨L,hL⟩:=vH (nm:=aH.nm) ((0,0):Rat×Rat) fr.gp.np fun i=>(pins[i]?.map (EF ao T U)).getD (0,0)
 have eL:∀(i:Nat) (p:aH),pins[i]? =some p→L p.nm=EF ao T U p:=fun i p e=>by
  rw [hL i p e,e]
  rfl
 intro d nd;generalize eX:upd _ d _=H2;have ⟨s2,e2⟩:=nw nd eX;clear eX
 have jE:=Mz.trans s2
 have enb:((us.length:Nat):Int).toNat=us.length:=by omega
 refine ⟨_,rfl,pA,_,rfl,.inl (aU.of (jE _ _ fr.hp)),((us.length:Nat):Int),rfl,by omega,by omega,bQ (lo:=0) (n:=((us.length:Nat):Int).toNat) (fun i σ H' =>∃(o5 o6 o7:Option V) (kvs:List (Key×V)),σ=[some (.ref sA),some (.ref pA),some (.ref bA),some (.ref lT),o5,oc,some (.ref lU),os,some (.ref fA),some (.ref d),o6,o7]∧av H1 H' ∧H' d=some (.dK kvs)∧kvs.map (·.1)=(pins.take i).map (fun p=>(afb p.nm:Key))∧∀(j:Nat) (p:aH),(pins.take i)[j]? =some p→∃v,kvs[j]? =some (.inr p.nm,v)∧d7 K H' v (L p.nm)) ⟨o4,none,none,[],rfl,s2,e2,by simp,fun j p e=>by simp at e⟩ ?_ ?_⟩
 ·rintro i σ H3 hi ⟨o5,o6,o7,kvs,rfl,s3,e3,ky,tv⟩
  have ek:(0:Int)+(i:Int)=(i:Int):=afa _
  rw [ek]
  have nG:=Mz.trans s3
  have RC:i < us.length:=by omega
  obtain ⟨p,ep,oy⟩:=aE fr.pp (gE RC)
  have mp:=ir ep
  obtain ⟨ta,lw,sv,d9,eu,h1,_,_,_⟩:=oy.same nG
  have ai:fN us (i:Int)=some (.ref ta):=bG (by rw [gE RC,eu])
  have F3:=hF.same s3
  obtain ⟨lr,Ry⟩:∃lr,ls[i]? =some lr:=⟨_,gE (by omega)⟩
  obtain ⟨w1,w2,V4,⟨q1,⟨a1,rfl,m1⟩,b1,c1,_⟩,⟨q2,⟨a2,rfl,m2⟩,b2,c2,_⟩⟩:=F3.row i lr Ry
  obtain ⟨f1,f2⟩:=eF i p ep
  have NV:fN (ls.map V.ref) (i:Int)=some (.ref lr):=bG (by rw [Wp,Ry];rfl)
  have lf:=aU.of (K:=K) F3.hf
  have lrq:=aU.of (K:=K) V4
  refine ⟨_,rfl,_,rfl,fA,_,_,_,rfl,rfl,lf,NV,lr,_,_,_,rfl,rfl,lrq,rfl,a1,_,_,_,rfl,rfl,m1,iI,_,_,rfl,rfl,_,rfl,_,rfl,fA,_,_,_,rfl,rfl,lf,NV,lr,_,_,_,rfl,rfl,lrq,rfl,a1,_,_,_,rfl,rfl,m1,iJ,_,_,rfl,b1,fun p4 H4 s4 e4=> ?_⟩
  rw [xc b1 (c1.trans f1)] at e4
  have lf4:=aU.of (K:=K) (s4 _ _ F3.hf)
  have lr4:=aU.of (K:=K) (s4 _ _ V4)
  have m24:=Ty.av.cR s4 m2
  refine ⟨_,rfl,_,rfl,fA,_,_,_,rfl,rfl,lf4,NV,lr,_,_,_,rfl,rfl,lr4,rfl,a2,_,_,_,rfl,rfl,m24,iI,_,_,rfl,rfl,_,rfl,_,rfl,fA,_,_,_,rfl,rfl,lf4,NV,lr,_,_,_,rfl,rfl,lr4,rfl,a2,_,_,_,rfl,rfl,m24,iJ,_,_,rfl,b2,fun p5 H5 s5 e5=> ?_⟩
  rw [xc b2 (c2.trans f2)] at e5
  refine ⟨_,rfl,_,rfl,L2,?_⟩
  intro p6 n6;generalize eX:upd _ p6 _=H6;have ⟨s6,e6⟩:=nw n6 eX;clear eX
  have FG:=s4.trans (s5.trans s6)
  have YG:=FG _ _ e3
  have lk:kvs.length=i:=by
   have:=congrArg afJ ky
   rw [aa_,aa_,ae2] at this
   omega
  refine ⟨_,rfl,_,rfl,_,rfl,pA,_,_,_,rfl,rfl,aU.of ((nG.trans FG) _ _ fr.hp),ai,ta,_,_,_,rfl,rfl,Ty.av.cR FG h1,jB,d,_,rfl,je.k (k:=.inr p.nm) YG (aeJ (show kvs.length≤100 by omega) (by decide)),?_⟩
  have new:bS kvs (.inr p.nm)=none:=bY (by
   rw [ky]
   intro z
   obtain ⟨p',iO,e'⟩:=abt.mp z
   exact ft (nm:=aH.nm) fr.gp.np ep iO (by injection e'))
  rw [dm _ new]
  have t6:bE H6 (upd H6 d (.dK (kvs++[(.inr p.nm,.ref p6)]))):=fun b zs r=>by
   rcases r with r | ⟨o',r⟩
   ·exact .inl (by rw [aj (fun e=>by rw [e,YG] at r;cases r)];exact r)
   ·exact .inr ⟨o',by rw [aj (fun e=>by rw [e,YG] at r;cases r)];exact r⟩
  have pv:d7 K H6 (.ref p6) (L p.nm):=by
   rw [eL i p ep]
   exact ⟨p6,_,_,rfl,bL.of e6,gH (s6 _ _ (s5 _ _ e4)),gH (s6 _ _ e5)⟩
  refine ⟨_,_,_,kvs++[(.inr p.nm,.ref p6)],rfl,fun b o z=> ?_,ak,?_,fun j p' ej=> ?_⟩
  ·rw [aj (au z nd)]
   exact FG _ _ (s3 _ _ z)
  ·rw [aeR,ky,take_snoc ep,aeR]
   rfl
  ·rw [take_snoc ep] at ej
   have l0:(pins.take i).length=i:=by rw [ae2];omega
   by_cases c:j < i
   ·rw [aeL (by omega)] at ej
    obtain ⟨v,e1,e2⟩:=tv j p' ej
    exact ⟨v,by rw [aeL (by omega)];exact e1,(e2.same FG).a8 t6⟩
   ·have YF:j=i:=by
     rw [aeP (by omega)] at ej
     by_cases z:j - (pins.take i).length=0
     ·omega
     ·rw [aeE (by simp only [aoO];omega)] at ej
      cases ej
    subst YF
    rw [aeP (by omega),show j - (pins.take j).length=0 by omega] at ej
    cases ej
    exact ⟨.ref p6,by rw [aeP (by omega),show j - kvs.length=0 by omega];rfl,pv.a8 t6⟩
 ·rintro σ H3 ⟨o5,o6,o7,kvs,rfl,s3,e3,ky,tv⟩
  rw [enb,lu,afc] at ky tv
  have lk:kvs.length=pins.length:=by
   have:=congrArg afJ ky
   rw [aa_,aa_] at this
   exact this
  have nk:(kvs.map (·.1)).Nodup:=by
   rw [ky]
   have:(pins.map fun p=>(afb p.nm:Key))=(pins.map (·.nm)).map afb:=by rw [aeS];rfl
   rw [this]
   exact List.Pairwise.map _ (fun a b n z=>n (by injection z)) fr.gp.np
  have mvp:∀p∈pins,mv (fun x=>if x∈pins.map (·.nm) then some (L x) else none) p.nm=L p.nm:=fun p hp=>by
   show (if p.nm∈pins.map (·.nm) then some (L p.nm) else none).getD (0,0)=L p.nm
   rw [if_pos (abt.mpr ⟨p,hp,rfl⟩)]
   rfl
  refine ⟨_,rfl,q d kvs (fun x=>if x∈pins.map (·.nm) then some (L x) else none) T U H3 (Mz.trans s3) ⟨e3,fun x=> ?_,nk,fun kv M1=> ?_,fun x=> ?_,by omega⟩ (by omega) fun p hp=> ?_⟩
  ·by_cases c:x∈pins.map (·.nm)
   ·obtain ⟨p,mp,rfl⟩:=abt.mp c
    obtain ⟨i,ei⟩:=aeK mp
    obtain ⟨v,a,b⟩:=tv i p ei
    exact .inr ⟨v,L p.nm,h7 nk a,if_pos c,b⟩
   ·refine .inl ⟨bY (fun z=>c ?_),if_neg c⟩
    rw [ky] at z
    obtain ⟨p,mp,e⟩:=abt.mp z
    exact abt.mpr ⟨p,mp,by injection e⟩
  ·have:kv.1∈kvs.map (·.1):=abt.mpr ⟨kv,M1,rfl⟩
   rw [ky] at this
   obtain ⟨p',mp,e⟩:=abt.mp this
   exact ⟨p'.nm,abt.mpr ⟨p',mp,rfl⟩,e.symm⟩
  ·by_cases c:x∈pins.map (·.nm)
   ·obtain ⟨p,mp,rfl⟩:=abt.mp c
    rw [mvp p mp]
    obtain ⟨i,ei⟩:=aeK mp
    rw [eL i p ei]
    exact ⟨(ud g zT zU fo.lU mp (fun h=>h.1)).neg,(ud g zT zU fo.lU mp (fun h=>h.2)).neg⟩
   ·show Sz 1000 ((if x∈pins.map (·.nm) then some (L x) else none).getD (0,0)).1∧Sz 1000 ((if x∈pins.map (·.nm) then some (L x) else none).getD (0,0)).2
    rw [if_neg c]
    exact ⟨dr (by decide),dr (by decide)⟩
  ·rw [mvp p hp]
   obtain ⟨i,ei⟩:=aeK hp
   rw [eL i p ei]
   unfold EF
   constructor <;> grind
def EG (K:Frag)(H:Hp)(pins:List aH)(ao:List bq)(L:Str→Option (Rat×Rat))(d p:Addr)(N:Nat):Prop:=∃(dM:Addr) (kM:List (Key×V)) (M:Str→Rat×Rat),H p=some (.tup [.str "moves",.ref dM])∧dM≠d∧FF K H pins dM kM M N∧m5 pins ao M∧iz pins L M=1
def EH (K:Frag)(H:Hp)(pins:List aH)(ao:List bq)(L:Str→Option (Rat×Rat))(p:Addr)(N:Nat):Prop:=∃(dT dU:Addr) (kT kU:List (Key×V)) (T:Str→Rat) (U:Str→List Rat),H p=some (.tup [.str "rest",.ref dT,.ref dU])∧FI K H pins ao dT dU kT kU T U N∧fP pins ao T U L
inductive rn (K:Frag)(vs:List V)(H:Hp)(Q:VK)(E_:XK):Prop where
 | mk (pA bA p d:Addr) (us ws:List V) (pins:List aH) (ao:List bq) (kvs:List (Key×V)) (L:Str→Option (Rat×Rat)) (N:Nat) (_:vs=[.ref pA,.ref bA,.ref p,.ref d]) (_:FH K H pA bA us ws pins ao) (_:rP K H d kvs pins L) (_:kvs.length≤9) (_:N≤1000000) (_:(EG K H pins ao L d p N∨EH K H pins ao L p N)) (_:∀H',av H H' →Q (.bl true) H'):rn K vs H Q E_
theorem xf:aG ["_law_pins_here","_law_bars_here","_law_told","_law_load_here","_law_good","_law_bar","_law_total"] ["_law_pins_here","_law_bars_here","_law_told","_law_load_here"] (ag yP):=sq
theorem RE (D:Def K mg "_law_right" yP ["_law_pins_here","_law_bars_here","_law_told","_law_load_here"])(a_:mg "len"=none)(bo:mg "isinstance"=none)(eV:mg "tuple"=none)(YH:Fn P w K mg base (a9 P w) 35 "_law_are_forces" ["_law_pins_here","_law_bars_here","_law_pulls","_law_pushes"] (vE K))(YI:Fn P w K mg base (a9 P w) 4 "_law_at_rest" ["_law_pins_here","_law_bars_here","_law_pulls","_law_pushes","_law_load_here"] (nH K))(YJ:Fn P w K mg base (a9 P w) 35 "_law_is_motion" ["_law_pins_here","_law_motion"] (EA K))(YK:Fn P w K mg base (a9 P w) 3 "_law_longer" ["_law_pins_here","_law_bar","_law_motion"] (nq K))(YL:Fn P w K mg base (a9 P w) 3 "_law_keeps" ["_law_pins_here","_law_motion"] (ra K))(YM:Fn P w K mg base (a9 P w) 3 "_law_work" ["_law_load_here","_law_motion"] (vF K)):
  Fn P w K mg base (a9 P w) 36 "_law_right" ["_law_pins_here","_law_bars_here","_law_told","_law_load_here"] (rn K):=by
 refine D.ok xf (fun vs H Q E h=> ?_) (fun f bF A outer s H vs Q E hr h=> ?_)
 ·obtain ⟨pA,bA,p,d,us,ws,pins,ao,kvs,L,N,rfl,_⟩:=h
  rfl
 obtain ⟨pA,bA,p,d,us,ws,pins,ao,kvs,L,N,rfl,fr,ld,lk,hN,told,q⟩:=h
 have L2:2≤sizeLine:=by decide
 have lp:=fr.lp
 refine ⟨_,(ae (bg (PW.pt (ff (cS (cx (aR d5 rfl bo b6 (aq (pv 2) (aq (ja rfl eV qg) aa))))) (dA (aQ i6 (aR aJ rfl a_ bW (aq (pv 2) aa)) (bR (aq af (aq af aa))) rfl)))) (ah (aF cg)) aL)
  (ae (bg (PW.pt (pS (aQ cN (aS (pv 2)) dz (aT _)) (kO (aQ cN (aR aJ rfl a_ bW (aq (pv 2) aa)) af (aT _))))) (ae (aC (i:=4) xf.nd rfl (ab_ rfl) (aA YH hr.mo pX (aq (pv 0) (aq (pv 1) (aq (aS (pv 2)) (aq (aS (pv 2)) aa))))))
   (ah (aF (uE (pv 4) (uD (aA YI hr.mo pX (aq (pv 0) (aq (pv 1) (aq (aS (pv 2)) (aq (aS (pv 2)) (aq (pv 3) aa))))))))))) aL)
  (ae (bg (PW.pt (ff (aQ fG (aS (pv 2)) dz (aT _)) (ff (aQ fG (aR aJ rfl a_ bW (aq (pv 2) aa)) af (aT _)) (dA (cS (cx (aA YJ hr.mo pX (aq (pv 0) (aq (aS (pv 2)) aa))))))))) (ah (aF cg)) aL)
  (ae (bw PassesOwn.never rfl (bh (pv 1)) (aw (i:=5) xf.nd rfl (ab_ rfl)) (ah (bg (aQ fG (aS (aA YK hr.mo pX (aq (pv 0) (aq (pv 5) (aq (aS (pv 2)) aa))))) af (aT _)) (ah (aF cg)) aL)))
  (ae (aC (i:=6) xf.nd rfl (ab_ rfl) (aA YM hr.mo pX (aq (pv 3) (aq (aS (pv 2)) aa))))
  (ah (aF (uE (aA YL hr.mo pX (aq (pv 0) (aq (aS (pv 2)) aa))) (uD (iZ cN (aS (pv 6)) (aS (pv 6)) (aT _))))))))))),?_⟩
 rcases told with ⟨dM,kM,M,hp,ne,mo,mm,wk⟩ | ⟨dT,dU,kT,kU,T,U,hp,pl,rest⟩
 ·refine ⟨_,rfl,_,_,_,true,rfl,rfl,.tup hp,MX,_,rfl,?_⟩
  refine bf (fun c=>nomatch c) (fun _=> ?_)
  refine ⟨_,rfl,p,_,rfl,.inr (bL.of hp),L2,?_⟩
  intro l1 n1;generalize eX:upd _ l1 _=H1;have ⟨s1,e1⟩:=nw n1 eX;clear eX
  refine ⟨l1,_,rfl,.inl (aU.of e1),rfl,rfl,_,rfl,?_⟩
  refine bf (fun c=>absurd c (by show ¬ ((!Lw (V.int 2) [V.int 2,V.int 3])=true);decide)) (fun _=> ?_)
  have Jl:=s1 _ _ hp
  refine ⟨_,rfl,p,_,_,_,rfl,rfl,bL.of Jl,rfl,rfl,_,rfl,?_⟩
  refine bf (fun c=>absurd c (by simp [i5];decide+kernel)) (fun _=> ?_)
  refine ⟨_,rfl,p,_,_,_,rfl,rfl,bL.of Jl,rfl,rfl,_,rfl,?_⟩
  refine bf (fun c=>absurd c (by simp [i5])) (fun _=> ?_)
  refine ⟨_,rfl,p,_,rfl,.inr (bL.of Jl),rfl,_,rfl,?_⟩
  refine AU rfl ?_
  refine ⟨_,rfl,_,rfl,p,_,_,_,rfl,rfl,bL.of Jl,rfl,pA,dM,us,pins,kM,M,N,rfl,s1 _ _ fr.hp,(fr.same s1).pp,by omega,mo.same s1,fun H2 s2=> ?_⟩
  refine ⟨_,rfl,?_⟩
  refine bf (fun c=>nomatch c) (fun _=> ?_)
  have jE:=s1.trans s2
  refine ⟨_,rfl,bA,rfl,⟨_,aU.of (jE _ _ fr.hb)⟩,bP (K:=K) (a:=bA) (xs:=ws) (fun i σ H' =>∃(o4:Option V),σ=[some (.ref pA),some (.ref bA),some (.ref p),some (.ref d),none,o4,none]∧av H H') ⟨none,rfl,jE⟩ (fun i σ H' _ h=>by
    obtain ⟨_,_,s⟩:=h
    exact aU.of (s _ _ fr.hb)) ?_ ?_⟩
  ·rintro i u σ H3 hu ⟨o4,rfl,s3⟩
   obtain ⟨b,eb,zJ⟩:=aE fr.pb hu
   have mb:b∈ao:=ir eb
   have lb:=mm.ao b mb
   have uH:=fr.same s3
   refine ⟨_,rfl,_,rfl,_,rfl,p,_,_,_,rfl,rfl,bL.of (s3 _ _ hp),rfl,pA,dM,us,pins,u,b,kM,M,N,rfl,uH.hp,uH.pp,fr.gp,zJ.same s3,mo.same s3,fun v H4 s4 n4=> ?_⟩
   obtain ⟨z,⟨pz,rfl,k1⟩,k2,k3,_⟩:=n4
   rw [lb] at k3
   have e0:z.1=0:=(qV k2).mpr k3
   rw [e0] at k1
   refine ⟨pz,_,_,_,rfl,rfl,k1,iI,rfl,_,rfl,?_⟩
   refine bf (fun h=>by simp at h) (fun _=> ?_)
   exact ⟨_,rfl,s3.trans s4⟩
  ·rintro σ H3 ⟨o4,rfl,s3⟩
   have uH:=fr.same s3
   refine ⟨_,rfl,_,rfl,p,_,_,_,rfl,rfl,bL.of (s3 _ _ hp),rfl,d,dM,kvs,kM,pins,L,M,N,rfl,ld.same s3,fr.gp.np,mo.same s3,ne,lk,hN,fun v H4 s4 n4=> ?_⟩
   obtain ⟨z,⟨pz,rfl,k1⟩,k2,k3,_⟩:=n4
   rw [wk] at k3
   have e0:z.1=z.2:=(MA k2).mpr k3
   rw [e0] at k1
   have iW:=s3.trans s4
   have NT:=fr.same iW
   refine ⟨_,rfl,_,rfl,p,_,_,_,rfl,rfl,bL.of (iW _ _ hp),rfl,pA,dM,us,pins,kM,M,N,rfl,NT.hp,NT.pp,fr.gp,mo.same iW,mm.QQ,fun H5 s5=> ?_⟩
   have k5:=Ty.av.cR s5 k1
   refine ⟨_,rfl,?_⟩
   refine bf (fun _=> ?_) (fun c=>absurd rfl c)
   refine ⟨_,rfl,pz,_,_,_,rfl,rfl,k5,iI,_,rfl,pz,_,_,_,rfl,rfl,k5,iJ,rfl,?_⟩
   rw [show decide (V.int z.2=V.int z.2)=true from decide_eq_true rfl]
   exact q _ (iW.trans s5)
 ·refine ⟨_,rfl,_,_,_,true,rfl,rfl,.tup hp,MX,_,rfl,?_⟩
  refine bf (fun c=>nomatch c) (fun _=> ?_)
  refine ⟨_,rfl,p,_,rfl,.inr (bL.of hp),L2,?_⟩
  intro l1 n1;generalize eX:upd _ l1 _=H1;have ⟨s1,e1⟩:=nw n1 eX;clear eX
  refine ⟨l1,_,rfl,.inl (aU.of e1),rfl,rfl,_,rfl,?_⟩
  refine bf (fun c=>absurd c (by show ¬ ((!Lw (V.int 3) [V.int 2,V.int 3])=true);decide)) (fun _=> ?_)
  have Jl:=s1 _ _ hp
  refine ⟨_,rfl,p,_,_,_,rfl,rfl,bL.of Jl,rfl,rfl,_,rfl,?_⟩
  refine bf (fun _=> ?_) (fun c=>absurd (by simp [i5]) c)
  refine ⟨_,rfl,p,_,rfl,.inr (bL.of Jl),rfl,_,rfl,?_⟩
  refine bf (fun _=> ?_) (fun c=>absurd rfl c)
  refine ⟨_,rfl,_,rfl,_,rfl,p,_,_,_,rfl,rfl,bL.of Jl,rfl,_,rfl,p,_,_,_,rfl,rfl,bL.of Jl,rfl,pA,bA,dT,dU,us,ws,pins,ao,kT,kU,T,U,N,rfl,fr.same s1,pl.same s1,fun H2 s2=> ?_⟩
  have jE:=s1.trans s2
  have Kq:=jE _ _ hp
  refine ⟨_,rfl,_,rfl,?_⟩
  refine bf (fun _=> ?_) (fun c=>absurd rfl c)
  refine ⟨_,rfl,_,rfl,_,rfl,p,_,_,_,rfl,rfl,bL.of Kq,rfl,_,rfl,p,_,_,_,rfl,rfl,bL.of Kq,rfl,_,rfl,?_⟩
  have YN:=ld.same jE
  exact ⟨pA,bA,dT,dU,d,us,ws,pins,ao,kT,kU,kvs,T,U,N,L,rfl,fr.same jE,pl.same jE,YN.hd,YN.pt,YN.sz,rest,fun H5 s5=>q H5 (jE.trans s5)⟩
inductive nN (K:Frag)(vs:List V)(H:Hp)(Q:VK)(E_:XK):Prop where
 | mk (Hb:Hp) (pA p:Addr) (us:List V) (pins:List aH) (_:vs=[.ref pA,.ref p]) (_:av Hb H) (_:Hb pA=some (.lst us)) (_:Paired (fS K Hb) us pins) (_:(pins.map (·.nm)).Nodup) (_:pins.length≤100) (_:((∃(dM:Addr) (kM:List (Key×V)),H p=some (.tup [.str "moves",.ref dM])∧Hb dM=none∧H dM=some (.dK kM))∨∃(dT dU:Addr) (kT kU:List (Key×V)) (ao:List bq) (T:Str→Rat) (U:Str→List Rat) (Lx:Str→Addr),H p=some (.tup [.str "rest",.ref dT,.ref dU])∧IU K Hb H pins ao dT dU kT kU T U Lx∧∀p∈pins,p.ws.length≤2)) (_:∀H',av Hb H' →Q (.bl true) H'):nN K vs H Q E_
theorem d3:aG ["_law_pins_here","_law_told","_law_name_here","_law_spot_here","_law_ways_here"] ["_law_pins_here","_law_told"] (ag cY):=sq
theorem oz (D:Def K mg "_law_spoilt" cY ["_law_pins_here","_law_told"])(a_:mg "len"=none):
  Fn P w K mg base (a9 P w) 1 "_law_spoilt" ["_law_pins_here","_law_told"] (nN K):=by
 refine D.ok d3 (fun vs H Q E h=> ?_) (fun f bF A outer s H vs Q E hr h=> ?_)
 ·obtain ⟨Hb,pA,p,us,pins,rfl,_⟩:=h
  rfl
 obtain ⟨Hb,pA,p,us,pins,rfl,sb,hp,pp,np,lp,told,q⟩:=h
 have L2:2≤sizeLine:=by decide
 have lu:us.length=pins.length:=Paired.length pp
 have away:∀{H1:Hp} {a:Addr} {o:HO},av Hb H1→Hb a=none→av Hb (upd H1 a o):=fun s n b o' e=>by
  rw [aj (au e n)]
  exact s _ _ e
 refine ⟨_,(ae (bO (x6 (aS (pv 1))))
  (ae (bg (aQ cN (aS (pv 1)) dz (aT _)) (ah (aF cg)) aL)
  (ae (bw PassesOwn.never rfl (bh (pv 0)) (dB rfl (aV (aw (i:=2) d3.nd rfl (ab_ rfl)) (aV (aw (i:=3) d3.nd rfl (ab_ rfl)) (aV (aw (i:=4) d3.nd rfl (ab_ rfl)) cC)))) (ae (bg (aQ fG (aR aJ rfl a_ bW (aq (bX (bU hr) (aS (pv 1)) (pv 2) (fun _ _=>rfl)) aa)) (aR aJ rfl a_ bW (aq (pv 4) aa)) (aT _)) (ah (aF cg)) aL)
   (ah (bO (i7 PySem.F.plainAttrs_list PySem.F.slot_list_append PySem.F.type_list_append cW (bX (bU hr) (aS (pv 1)) (pv 2) (fun _ _=>rfl)) (aq (aZ (aq af (aq af aa))) aa))))))
  (ah (aF cg))))),?_⟩
 rcases told with ⟨dM,kM,ht,nM,hM⟩ | ⟨dT,dU,kT,kU,ao,T,U,Lx,ht,pr,lw⟩
 ·have ne:p≠dM:=fun z=>by rw [z,hM] at ht;cases ht
  refine ⟨_,rfl,p,_,_,_,rfl,rfl,bL.of ht,rfl,⟨dM,kM,rfl,hM,?_⟩⟩
  have NW:(upd H dM (.dK [])) p=some (.tup [.str "moves",.ref dM]):=by rw [aj ne];exact ht
  have s1:av Hb (upd H dM (.dK [])):=away sb nM
  generalize upd H dM (.dK [])=H1 at NW s1 ⊢
  refine ⟨_,rfl,p,_,_,_,rfl,rfl,bL.of NW,rfl,rfl,_,rfl,?_⟩
  refine bf (fun _=>q _ s1) (fun c=>absurd (by simp [i5]) c)
 ·have ne:p≠dT:=fun z=>by rw [z,pr.hT] at ht;cases ht
  refine ⟨_,rfl,p,_,_,_,rfl,rfl,bL.of ht,rfl,⟨dT,kT,rfl,pr.hT,?_⟩⟩
  have NW:(upd H dT (.dK [])) p=some (.tup [.str "rest",.ref dT,.ref dU]):=by rw [aj ne];exact ht
  have NP:(upd H dT (.dK [])) dU=some (.dK kU):=by rw [aj (ae8 pr.ne)];exact pr.hU
  have FA:∀q∈pins,∃vs,(upd H dT (.dK [])) (Lx q.nm)=some (.lst vs)∧vs.length=q.ws.length:=fun q hq=>by
   obtain ⟨vs,_,_,c,d⟩:=pr.tU q hq
   refine ⟨vs,?_,?_⟩
   ·rw [aj (fun z=>by rw [z,pr.hT] at c;cases c)]
    exact c
   ·rw [Paired.length d]
    exact pr.lU q hq
  have s1:av Hb (upd H dT (.dK [])):=away sb pr.nT
  generalize upd H dT (.dK [])=H1 at NW NP FA s1 ⊢
  refine ⟨_,rfl,p,_,_,_,rfl,rfl,bL.of NW,rfl,rfl,_,rfl,?_⟩
  refine bf (fun c=>absurd c (by simp [i5];decide+kernel)) (fun _=> ?_)
  refine ⟨_,rfl,pA,rfl,⟨_,aU.of (s1 _ _ hp)⟩,bP (K:=K) (a:=pA) (xs:=us) (fun i σ H' =>∃(o2 o3 o4:Option V),σ=[some (.ref pA),some (.ref p),o2,o3,o4]∧av Hb H' ∧H' p=some (.tup [.str "rest",.ref dT,.ref dU])∧H' dU=some (.dK kU)∧∀(j:Nat) (q:aH),i≤j→pins[j]? =some q→∃vs,H' (Lx q.nm)=some (.lst vs)∧vs.length=q.ws.length) ⟨none,none,none,rfl,s1,NW,NP,fun j q _ e=>FA q (ir e)⟩ (fun i σ H' _ h=>by
    obtain ⟨_,_,_,_,s,_⟩:=h
    exact aU.of (s _ _ hp)) ?_ ?_⟩
  ·rintro i u σ H4 hu ⟨o2,o3,o4,rfl,s4,RF,RG,NI⟩
   obtain ⟨x,ex,oy⟩:=aE pp hu
   have mx:x∈pins:=ir ex
   obtain ⟨ta,l,sv,ws,rfl,h1,h2,h3,h4⟩:=oy.same s4
   refine ⟨ta,_,rfl,h1,rfl,_,_,rfl,_,_,rfl,_,_,rfl,rfl,?_⟩
   obtain ⟨vs,hv,lv⟩:=NI i x (aeG _) ex
   obtain ⟨_,ev,nL,_,_⟩:=pr.tU x mx
   have dg:∀{H' :Hp},H' dU=some (.dK kU)→cQ H' dU (.str x.nm) (some (.ref (Lx x.nm))):=fun {H'} e=>by
    have:=cQ.k (k:=.inr x.nm) e
    rw [ev] at this
    exact this
   have lws:ws.length=x.ws.length:=Paired.length h4
   refine ⟨_,rfl,p,_,_,_,rfl,rfl,bL.of RF,rfl,_,rfl,dU,_,rfl,dg RG,Lx x.nm,_,rfl,.inl (aU.of hv),_,rfl,l,_,rfl,.inl (aU.of h3),rfl,_,rfl,?_⟩
   refine bf (fun c=>absurd c (by rw [lv,lws];simp)) (fun _=> ?_)
   refine ⟨_,rfl,p,_,_,_,rfl,rfl,bL.of RF,rfl,_,rfl,dU,_,rfl,dg RG,.inl ⟨rfl,_,aU.of hv⟩,L2,?_⟩
   intro t5 n5;generalize eX:upd _ t5 _=H5;have ⟨s5,e5⟩:=nw n5 eX;clear eX
   have hv5:=s5 _ _ hv
   have lwx:=lw x mx
   refine ⟨Lx x.nm,_,_,rfl,rfl,hv5,aeJ (show vs.length≤2 by omega) (by decide),?_⟩
   refine ⟨_,_,_,rfl,away (s4.trans s5) nL,?_,?_,fun j y hj ey=> ?_⟩
   ·rw [aj (fun z=>by rw [z,hv] at RF;cases RF)]
    exact s5 _ _ RF
   ·rw [aj (fun z=>by rw [z,hv] at RG;cases RG)]
    exact s5 _ _ RG
   ·obtain ⟨d9,a,b⟩:=NI j y (by omega) ey
    refine ⟨d9,?_,b⟩
    rw [aj (fun z=> ?_)]
    ·exact s5 _ _ a
    ·have e1:=pr.inj y (ir ey) x mx z
     have e2:(pins.map (·.nm))[j]? =some x.nm:=by rw [Wp,ey, ← e1];rfl
     have e3:(pins.map (·.nm))[i]? =some x.nm:=by rw [Wp,ex];rfl
     have:=fe np e2 e3
     omega
  ·rintro σ H4 ⟨o2,o3,o4,rfl,s4,_⟩
   exact q _ s4
mutual
theorem Jm {H:Hp}:∀(d:Da) (x:V),Is K H d x→alike d d=true∧fX d d=true
 | .v a,x,h=>by
  unfold Is at h
  unfold alike fX
  exact ⟨rfl,sk h.2⟩
 | .t ds,x,h=>by
  unfold Is at h
  unfold alike fX
  obtain ⟨p,xs,_,_,k⟩:=h
  exact gX ds xs k
 | .l ds,x,h=>by
  unfold Is at h
  unfold alike fX
  obtain ⟨p,xs,_,_,k⟩:=h
  exact gX ds xs k
theorem gX {H:Hp}:∀(ds:List Da) (xs:List V),fh K H ds xs→cT ds ds=true∧cO ds ds=true
 | [],_,_=>⟨rfl,rfl⟩
 | d::ds,[],h=>by unfold fh at h;exact h.elim
 | d::ds,x::xs,h=>by
  unfold fh at h
  unfold cT cO
  obtain ⟨a1,a2⟩:=Jm d x h.1
  obtain ⟨b1,b2⟩:=gX ds xs h.2
  rw [a1,a2,b1,b2]
  exact ⟨rfl,rfl⟩
end
theorem gY {α:Type}{f:α→Da}(h:∀a,dep (f a)≤60):∀l:List α,fj (l.map f)≤60
 | []=>ae' _
 | a::l=>by
  show max (dep (f a)) (fj (l.map f))≤60
  have h1:=h a
  have h2:=gY h l
  omega
theorem lG {α:Type}{H:Hp}{f:α→Da}{R:V→α→Prop}(h:∀u a,R u a→Is K H (f a) u):∀{us:List V} {l:List α},Paired R us l→fh K H (l.map f) us
 | [],[],.nil=>by
  unfold fh
  trivial
 | _::_,_::_,.cons z t=>by
  show fh K H (_::_) _
  unfold fh
  exact ⟨h _ _ z,lG h t⟩
theorem rq {H:Hp}(x:Str):Is K H (.v (.str x)) (.str x):=by
 unfold Is
 exact ⟨rfl,rfl⟩
theorem zA (xs:List Str):Paired (fun u (x:Str)=>u=V.str x) (xs.map V.str) xs:=by
 induction xs with
 | nil=>exact .nil
 | cons x xs ih=>exact .cons rfl ih
theorem lH {H:Hp}{l:Addr}{xs:List Str}(h:aU K H l (xs.map V.str)):Is K H (.l (xs.map fun x=>.v (.str x))) (.ref l):=by
 unfold Is
 exact ⟨l,_,rfl,h,lG (fun u a z=>by rw [z];exact rq a) (zA xs)⟩
theorem xg {H:Hp}{l:Addr}{us:List V}{ws:List (Rat×Rat)}(h:aU K H l us)(p:gR K H us ws):Is K H (.l (ws.map fun w=>.t (c6 (kg w)))) (.ref l):=by
 unfold Is
 exact ⟨l,_,rfl,h,lG (fun u a z=>Spot.is (p:=kg a) z) p⟩
theorem Jn {H:Hp}{ds:List Da}{x y:V}{Q:VK}(h1:Is K H (.l ds) x)(h2:Is K H (.l ds) y)(hd:fj ds≤60)(q:Q (.bl false) H):so K x y H Q:=by
 have h:=h1
 unfold Is at h
 obtain ⟨p,xs,_,_,k⟩:=h
 obtain ⟨b1,b2⟩:=gX ds xs k
 refine ⟨ds,ds,.inr ⟨h1,h2⟩,b1,hd,?_⟩
 rw [b2]
 exact q
theorem RH {H:Hp}{ds:List Da}{x y:V}{Q:VK}(h1:Is K H (.t ds) x)(h2:Is K H (.t ds) y)(hd:fj ds≤60)(q:Q (.bl false) H):so K x y H Q:=by
 have h:=h1
 unfold Is at h
 obtain ⟨p,xs,_,_,k⟩:=h
 obtain ⟨b1,b2⟩:=gX ds xs k
 refine ⟨ds,ds,.inl ⟨h1,h2⟩,b1,hd,?_⟩
 rw [b2]
 exact q
theorem RI (x:Str):dep (.v (.str x))≤60:=ae' _
theorem EI {H:Hp}{p:Addr}{x y:Str}(h:bL K H p [.str x,.str y]):Is K H (.t [.v (.str x),.v (.str y)]) (.ref p):=by
 unfold Is
 refine ⟨p,_,rfl,h,?_⟩
 unfold fh
 refine ⟨rq x,?_⟩
 unfold fh
 refine ⟨rq y,?_⟩
 unfold fh
 trivial
theorem RJ {α:Type}{nm:α→Str}{l:List α}{ys:List V}(hl:ys.length=l.length)(h:∀(i:Nat) (v:V),ys[i]? =some v→∃p,l[i]? =some p∧v=V.str (nm p)):ys=(l.map nm).map V.str:=by
 refine afg fun i=> ?_
 by_cases hi:i < ys.length
 ·obtain ⟨p,e1,e2⟩:=h i ys[i] (gE hi)
  rw [gE hi,e2,Wp,Wp,e1]
  rfl
 ·rw [aeE (by omega),aeE (by rw [aa_,aa_];omega)]
def RK (L:Str→Option (Rat×Rat))(kv:Key×V):Da:=.t [.v (kV kv.1),.t (c6 (kg ((L (ip kv.1)).getD (0,0))))]
theorem nO {α β:Type}{R:α→β→Prop}:∀{us:List α} {l:List β},Paired R us l→Paired (fun u a=>a∈l∧R u a) us l
 | _,_,.nil=>.nil
 | _,_,.cons h t=>.cons ⟨aeI,h⟩ (Paired.bZ (nO t) fun _ _ z=>⟨aeF _ z.1,z.2⟩)
theorem ue {H:Hp}{l:Addr}{us:List V}{kvs:List (Key×V)}{L:Str→Option (Rat×Rat)}(hP:uz K H kvs L)(nd:(kvs.map (·.1)).Nodup)(hk:∀kv∈kvs,∃x:Str,kv.1=.inr x)(hl:aU K H l us)(p:Paired (fun u (kv:Key×V)=>∃p,u=.ref p∧H p=some (.tup [kV kv.1,kv.2])) us kvs):Is K H (.l (kvs.map (RK L))) (.ref l):=by
 unfold Is
 refine ⟨l,_,rfl,hl,lG (fun u kv z=> ?_) (nO p)⟩
 obtain ⟨m,a,rfl,ha⟩:=z
 obtain ⟨x,ex⟩:=hk kv m
 obtain ⟨i,hi,ei⟩:=afk.mp m
 obtain ⟨k,y⟩:=kv
 have K' :k=.inr x:=ex
 subst K'
 have vy:bS kvs (.inr x)=some y:=tq nd (t:=i) (by rw [gE hi,ei])
 rcases hP x with ⟨h,_⟩ | ⟨v,r,h1,h2,h3⟩
 ·rw [vy] at h
  cases h
 rw [vy] at h1
 cases h1
 unfold RK
 show Is K H (.t [.v (.str x),.t (c6 (kg ((L x).getD (0,0))))]) (.ref a)
 rw [h2]
 unfold Is
 refine ⟨a,_,rfl,bL.of ha,?_⟩
 unfold fh
 refine ⟨rq x,?_⟩
 unfold fh
 refine ⟨Spot.is (p:=kg r) h3,?_⟩
 unfold fh
 trivial
theorem EJ (L:Str→Option (Rat×Rat))(kv:Key×V):dep (RK L kv)≤60:=ad_ (show dep (RK L kv)≤3 by simp [RK,dep,fj]) (by decide)
inductive rB (K:Frag)(C:Addr)(vs:List V)(H:Hp)(Q:VK)(E_:XK):Prop where
 | mk (a pA bA:Addr) (us d9 :List V) (pins:List aH) (ao:List bq) (_:vs=[.ref a,.ref pA,.ref bA]) (_:wj K H C a pins ao) (_:H pA=some (.lst us)) (_:Paired (fS K H) us pins) (_:H bA=some (.lst d9)) (_:Paired (iU K H pins) d9 ao) (_:fq pins ao) (_:∀H',av H H' →Q (.bl true) H'):rB K C vs H Q E_
theorem cJ:aG ["_law_frame_here","_law_pins_here","_law_bars_here","_law_name_here","_law_spot_here","_law_ways_here","_law_one","_law_other"] ["_law_frame_here","_law_pins_here","_law_bars_here"] (ag dw):=sq
theorem rC {C:Addr}(D:Def K mg "_law_stays" dw ["_law_frame_here","_law_pins_here","_law_bars_here"])(Jo:bJ P w K mg base (a9 P w) 1 C "pins" ["self"] (fO K C))(MB:bJ P w K mg base (a9 P w) 1 C "bars" ["self"] (jY K C))(V7:bJ P w K mg base (a9 P w) 2 C "place" ["self","pin"] (jo K C))(MW:bJ P w K mg base (a9 P w) 2 C "ways" ["self","pin"] (jZ K C))(ME:bJ P w K mg base (a9 P w) 1 C "ends" ["self","bar"] (mS K C)):
  Fn P w K mg base (a9 P w) 4 "_law_stays" ["_law_frame_here","_law_pins_here","_law_bars_here"] (rB K C):=by
 refine D.ok cJ (fun vs H Q E h=> ?_) (fun f bF A outer s H vs Q E hr h=> ?_)
 ·obtain ⟨a,pA,bA,us,d9,pins,ao,rfl,_⟩:=h
  rfl
 obtain ⟨a,pA,bA,us,d9,pins,ao,rfl,R,hp,pp,hb,pb,g,q⟩:=h
 have lu:us.length=pins.length:=Paired.length pp
 have lv:d9.length=ao.length:=Paired.length pb
 have lp:=g.lp
 have lb:=g.lb
 have YO:((pins.map fun p=>(p.nm,kg p.sp)).map (·.1))=pins.map (·.nm):=by rw [aeS];rfl
 have nbb:((ao.map fun b=>(b.nm,b.one.nm,b.other.nm)).map (·.1))=ao.map (·.nm):=by rw [aeS];rfl
 refine ⟨_,(ae (bg (PW.pt (ff (aQ (eK hr.units) (dF (k:=1) (pv 0) hr.mo (pY P w)) (cD (tn:=["_law_pin"]) (fr:=[]) (caps:=[]) rfl ⟨rfl,by decide+kernel,rfl,by decide+kernel,by decide+kernel,rfl,trivial,trivial⟩ (bh (pv 1)) (fun _ _ _ _=>(aw (i:=0) (show (["_law_pin"]:List Str).Nodup from by decide+kernel) rfl (ab_ rfl))) (fun _ _ _ _=>cj) (fun _ _ _ _=>(aY (cp (K:=K) rfl) (pv 0) af (fun _ _=>rfl)))) (aT _)) (dA (aQ (eK hr.units) (dF (k:=1) (pv 0) hr.mo (pY P w)) (cD (tn:=["_law_bar"]) (fr:=[]) (caps:=[]) rfl ⟨rfl,by decide+kernel,rfl,by decide+kernel,by decide+kernel,rfl,trivial,trivial⟩ (bh (pv 2)) (fun _ _ _ _=>(aw (i:=0) (show (["_law_bar"]:List Str).Nodup from by decide+kernel) rfl (ab_ rfl))) (fun _ _ _ _=>cj) (fun _ _ _ _=>(aY (cp (K:=K) rfl) (pv 0) af (fun _ _=>rfl)))) (aT _))))) (ah (aF cg)) aL)
  (ae (bw PassesOwn.never rfl (bh (pv 1)) (dB rfl (aV (aw (i:=3) cJ.nd rfl (ab_ rfl)) (aV (aw (i:=4) cJ.nd rfl (ab_ rfl)) (aV (aw (i:=5) cJ.nd rfl (ab_ rfl)) cC)))) (ah (bg (PW.pt (ff (aQ (eK hr.units) (c_ (k:=2) (pv 0) hr.mo (pY P w) (aq (pv 3) aa)) (pv 4) (aT _)) (dA (aQ (eK hr.units) (c_ (k:=2) (pv 0) hr.mo (pY P w) (aq (pv 3) aa)) (pv 5) (aT _))))) (ah (aF cg)) aL)))
  (ae (bw PassesOwn.never rfl (bh (pv 2)) (dB rfl (aV (aw (i:=3) cJ.nd rfl (ab_ rfl)) (aV (aw (i:=6) cJ.nd rfl (ab_ rfl)) (aV (aw (i:=7) cJ.nd rfl (ab_ rfl)) cC)))) (ah (bg (aQ (eK hr.units) (c_ (k:=1) (pv 0) hr.mo (pY P w) (aq (pv 3) aa)) (aZ (aq (aS (aY aX (pv 1) (pv 6) (fun _ _=>rfl))) (aq (aS (aY aX (pv 1) (pv 7) (fun _ _=>rfl))) aa))) (aT _)) (ah (aF cg)) aL)))
  (ah (aF cg))))),?_⟩
 obtain ⟨dx,pP,pW,pB,kP,kW,kB,F1,W1⟩:=R.ex
 refine ⟨_,rfl,a,C,dx,_,_,_,rfl,F1.obj,rfl,Jo,a,dx,pP,pW,pB,_,_,kP,kW,kB,rfl,F1,fun l H1 s1 nl el=> ?_⟩
 rw [YO] at el
 refine ⟨_,rfl,pA,rfl,⟨_,aU.of (s1 _ _ hp)⟩,fun D1 n1=> ?_⟩
 refine b_ (cap:=[]) (K:=K) (a:=pA) (xs:=us) (fun i v _=>∃p,pins[i]? =some p∧v=.str p.nm) n1 (by rw [lu];exact aeJ (show pins.length≤1000 by omega) (by decide)) (fun H2 s2=>aU.of (s2 _ _ (s1 _ _ hp))) (fun _ _ _ _ _ _ _ h=>h) ?_ ?_
 ·intro j u H6 Rq hu s6 k
  obtain ⟨p,oC,iO⟩:=aE pp hu
  obtain ⟨ta,l',sv,ki,rfl,h1,_⟩:=iO.same (mM s1 s6)
  exact ⟨_,rfl,ta,_,_,_,rfl,rfl,h1,rfl,k _ _ (av.refl _) ⟨p,oC,rfl⟩⟩
 intro ys H2 hy dR s2 hD
 rw [RJ (nm:=aH.nm) (by rw [hy,lu]) dR] at hD
 refine Jn (lH (aU.of (s2 _ _ el))) (lH (aU.of hD)) (gY RI _) ⟨_,rfl,?_⟩
 refine bf (fun c=>nomatch c) (fun _=> ?_)
 have jE:=mM s1 s2
 have F2:=F1.same jE
 refine ⟨_,rfl,a,C,dx,_,_,_,rfl,F2.obj,rfl,MB,a,dx,pP,pW,pB,_,_,kP,kW,kB,rfl,F2,fun l3 H3 s3 nl3 el3=> ?_⟩
 rw [nbb] at el3
 have nG:=mM jE s3
 refine ⟨_,rfl,bA,rfl,⟨_,aU.of (nG _ _ hb)⟩,fun D2 n2=> ?_⟩
 refine b_ (cap:=[]) (K:=K) (a:=bA) (xs:=d9) (fun i v _=>∃p,ao[i]? =some p∧v=.str p.nm) n2 (by rw [lv];exact aeJ (show ao.length≤1000 by omega) (by decide)) (fun H2 s2=>aU.of (s2 _ _ (nG _ _ hb))) (fun _ _ _ _ _ _ _ h=>h) ?_ ?_
 ·intro j u H6 Rq hu s6 k
  obtain ⟨b,Mh,gF⟩:=aE pb hu
  obtain ⟨ta,u1,u2,rfl,h1,_⟩:=gF.same (mM nG s6)
  exact ⟨_,rfl,ta,_,_,_,rfl,rfl,h1,rfl,k _ _ (av.refl _) ⟨b,Mh,rfl⟩⟩
 intro ys H4 hy dR s4 NL
 rw [RJ (nm:=bq.nm) (by rw [hy,lv]) dR] at NL
 refine Jn (lH (aU.of (s4 _ _ el3))) (lH (aU.of NL)) (gY RI _) ⟨_,rfl,?_⟩
 refine bf (fun c=>nomatch c) (fun _=> ?_)
 have iW:=mM nG s4
 refine ⟨_,rfl,pA,rfl,⟨_,aU.of (iW _ _ hp)⟩,bP (K:=K) (a:=pA) (xs:=us) (fun i σ H' =>∃(o3 o4 o5:Option V),σ=[some (.ref a),some (.ref pA),some (.ref bA),o3,o4,o5,none,none]∧av H H') ⟨none,none,none,rfl,iW⟩ (fun i σ H' _ h=>by
   obtain ⟨_,_,_,_,h⟩:=h
   exact aU.of (h _ _ hp)) ?_ ?_⟩
 ·rintro i u σ H5 hu ⟨o3,o4,o5,rfl,s5⟩
  obtain ⟨p,ep,oy⟩:=aE pp hu
  have mp:p∈pins:=ir ep
  obtain ⟨ta,l',sv,ws,rfl,h1,h2,h3,h4⟩:=oy.same s5
  refine ⟨ta,_,rfl,h1,rfl,_,_,rfl,_,_,rfl,_,_,rfl,rfl,?_⟩
  have F5:=F1.same s5
  have W5:=W1.same s5
  refine ⟨_,rfl,a,C,dx,_,_,_,rfl,F5.obj,rfl,V7,_,rfl,a,dx,pP,pW,pB,_,_,kP,kW,kB,p.nm,kg p.sp,rfl,F5,by rw [YO];exact g.np,abt.mpr ⟨p,mp,rfl⟩,fun v hv=> ?_⟩
  refine ⟨_,rfl,RH (Spot.is hv) (Spot.is (p:=kg p.sp) h2) (jP _) ⟨_,rfl,?_⟩⟩
  refine bf (fun c=>nomatch c) (fun _=> ?_)
  refine ⟨_,rfl,a,C,dx,_,_,_,rfl,F5.obj,rfl,MW,_,rfl,a,dx,pP,pW,pB,_,_,kP,kW,kB,_,p.nm,p.ws,rfl,F5,W5,DA g.np,abt.mpr ⟨p,mp,rfl⟩,by rw [YO];exact abt.mpr ⟨p,mp,rfl⟩,fun l7 u7 H7 s7 n7 e7 p7=> ?_⟩
  refine ⟨_,rfl,Jn (xg (aU.of e7) p7) (xg (aU.of (s7 _ _ h3)) (h4.same s7)) (gY (fun w=>ad_ (show dep (.t (c6 (kg w)))≤2 by simp [dep,fj]) (by decide)) _) ⟨_,rfl,?_⟩⟩
  refine bf (fun c=>nomatch c) (fun _=> ?_)
  exact ⟨_,_,_,rfl,mM s5 s7⟩
 rintro σ H5 ⟨o3,o4,o5,rfl,s5⟩
 refine ⟨_,rfl,bA,rfl,⟨_,aU.of (s5 _ _ hb)⟩,bP (K:=K) (a:=bA) (xs:=d9) (fun i σ H' =>∃(o3 o6 o7:Option V),σ=[some (.ref a),some (.ref pA),some (.ref bA),o3,o4,o5,o6,o7]∧av H H') ⟨_,none,none,rfl,s5⟩ (fun i σ H' _ h=>by
   obtain ⟨_,_,_,_,h⟩:=h
   exact aU.of (h _ _ hb)) ?_ ?_⟩
 ·rintro i u σ H6 hu ⟨o3,o6,o7,rfl,s6⟩
  obtain ⟨b,eb,zJ⟩:=aE pb hu
  have mb:b∈ao:=ir eb
  obtain ⟨ta,i1,i2,rfl,h1,x1,x2⟩:=zJ.same s6
  obtain ⟨y1,ey1,z1⟩:=aE (cu (Paired.bZ pp fun _ _ z=>z.same s6)) x1
  obtain ⟨y2,ey2,z2⟩:=aE (cu (Paired.bZ pp fun _ _ z=>z.same s6)) x2
  obtain ⟨a1,l1,Yn,lC,rfl,h11,_⟩:=z1
  obtain ⟨a2,l2,Yp,zH,rfl,h21,_⟩:=z2
  have VQ:=aU.of (K:=K) (s6 _ _ hp)
  refine ⟨ta,_,rfl,h1,rfl,_,_,rfl,_,_,rfl,_,_,rfl,rfl,?_⟩
  have F6:=F1.same s6
  refine ⟨_,rfl,a,C,dx,_,_,_,rfl,F6.obj,rfl,ME,_,rfl,a,dx,pP,pW,pB,_,_,kP,kW,kB,b.nm,b.one.nm,b.other.nm,rfl,F6,KD g.nb,abt.mpr ⟨b,mb,rfl⟩,fun p rd=> ?_⟩
  have tp:bL K H6 p [.str b.one.nm,.str b.other.nm]:=.inl rd
  refine ⟨_,rfl,_,rfl,pA,_,_,_,rfl,rfl,VQ,bG ey1,a1,_,_,_,rfl,rfl,h11,rfl,_,rfl,_,rfl,pA,_,_,_,rfl,rfl,VQ,bG ey2,a2,_,_,_,rfl,rfl,h21,rfl,(by show 2≤sizeLine;decide),?_⟩
  intro t7 n7;generalize eX:upd _ t7 _=H7;have ⟨s7,e7⟩:=nw n7 eX;clear eX
  refine RH (EI (Ty.av.cR s7 tp)) (EI (bL.of e7)) (by simp [fj,dep]) ⟨_,rfl,?_⟩
  refine bf (fun c=>nomatch c) (fun _=> ?_)
  exact ⟨_,_,_,rfl,mM s6 s7⟩
 rintro σ H6 ⟨o3,o6,o7,rfl,s6⟩
 exact q H6 s6
theorem RL:∀ws:List V,fW ws (some 1) none=ws.drop 1
 | []=>rfl
 | x::xs=>jV (i:=1) (by simp)
theorem kC {α β:Type}{R:α→β→Prop}:∀(n:Nat) {us:List α} {zs:List β},Paired R us zs→Paired R (us.drop n) (zs.drop n)
 | 0,_,_,h=>h
 | n+1,_,_,.nil=>by simpa using Paired.nil
 | n+1,_,_,.cons _ t=>by
  rw [ao2,ao2]
  exact kC n t
theorem uf {kvs:List (Key×V)}(nd:(kvs.map (·.1)).Nodup)(k:Key):bS kvs.reverse k=bS kvs k:=by
 have nr:(kvs.reverse.map (·.1)).Nodup:=by
  rw [agp]
  exact agm.mpr (agh (fun h=>ae8 h) nd)
 by_cases c:k∈kvs.map (·.1)
 ·obtain ⟨v,ev⟩:=hV c
  have m:=mK ev
  obtain ⟨i,ei⟩:=aeK (aoD.mpr m)
  rw [ev,h7 nr ei]
 ·rw [bY c,bY (fun z=>c (by rw [agp] at z;exact aoD.mp z))]
theorem rP.rev {H:Hp}{d d' :Addr}{kvs:List (Key×V)}{pins:List aH}{L:Str→Option (Rat×Rat)}(h:rP K H d kvs pins L)(e:H d' =some (.dK kvs.reverse)):rP K H d' kvs.reverse pins L:=by
 refine ⟨e,fun nm=> ?_,?_,fun kv M1=>h.ks kv (aoD.mp M1),h.sz,by rw [afv];exact h.ll⟩
 ·rcases h.pt nm with ⟨a,b⟩ | ⟨v,q,a,b,c⟩
  ·exact .inl ⟨by rw [uf h.nk];exact a,b⟩
  ·exact .inr ⟨v,q,by rw [uf h.nk];exact a,b,c⟩
 ·rw [agp]
  exact agm.mpr (agh (fun h=>ae8 h) h.nk)
theorem iA.drop {pins:List aH}{ao:List bq}(g:iA pins ao)(n:Nat):iA pins (ao.drop n):=⟨by
 rw [List.map_drop]
 exact g.nb.sublist (List.drop_sublist _ _),fun b hb=>g.ends b (List.mem_of_mem_drop hb)⟩
theorem RM {H H' :Hp}{pins:List aH}{ao:List bq}{L:Str→Option (Rat×Rat)}{d p dM:Addr}{kM:List (Key×V)}{M:Str→Rat×Rat}{N:Nat}(e:H' p=some (.tup [.str "moves",.ref dM]))(mo:XZ K H H' pins dM kM M)(mm:m5 pins ao M)(wk:iz pins L M=1)(zb:∀p∈pins,Zb N (M p.nm).1∧Zb N (M p.nm).2)(hN:N≤1000000){o:HO}(hd:H d=some o):EG K H' pins ao L d p N:=
 ⟨dM,kM,M,e,(fun z=>by
  have:=mo.nM
  rw [z,hd] at this
  cases this),⟨mo.hM,mo.keys,mo.tM,zb,by omega⟩,mm,wk⟩
theorem RO {H H' :Hp}{pins:List aH}{ao:List bq}{L:Str→Option (Rat×Rat)}{p dT dU:Addr}{kT kU:List (Key×V)}{T:Str→Rat}{U:Str→List Rat}{Lx:Str→Addr}{N:Nat}(e:H' p=some (.tup [.str "rest",.ref dT,.ref dU]))(pr:IU K H H' pins ao dT dU kT kU T U Lx)(rest:fP pins ao T U L)(z1:∀b∈ao,Zb N (T b.nm))(z2:∀p∈pins,∀u∈U p.nm,Zb N u)(hN:N≤1000000):EH K H' pins ao L p N:=
 ⟨dT,dU,kT,kU,T,U,e,⟨pr.hT,pr.hU,pr.zk,pr.zo,pr.tT,fun q hq=>by
    obtain ⟨vs,a,_,c,d⟩:=pr.tU q hq
    exact ⟨_,vs,a,c,d⟩,pr.lU,z1,z2,hN⟩,rest⟩
theorem IU.up {H H' H2:Hp}{pins:List aH}{ao:List bq}{dT dU:Addr}{kT kU:List (Key×V)}{T:Str→Rat}{U:Str→List Rat}{Lx:Str→Addr}(h:IU K H H' pins ao dT dU kT kU T U Lx)(s:av H' H2):IU K H H2 pins ao dT dU kT kU T U Lx:=
 ⟨h.nT,h.nU,h.ne,s _ _ h.hT,s _ _ h.hU,h.zk,h.zo,fun b hb=>by
  obtain ⟨v,a,c⟩:=h.tT b hb
  exact ⟨v,a,c.same s⟩,fun p hp=>by
  obtain ⟨vs,a,b,c,d⟩:=h.tU p hp
  exact ⟨vs,a,b,s _ _ c,Paired.bZ d fun _ _ z=>z.same s⟩,h.lU,h.inj⟩
def Tells (K:Frag)(H H' :Hp)(pins:List aH)(ao:List bq)(L:Str→Option (Rat×Rat))(p:Addr):Prop:=
 (∃(dM:Addr) (kM:List (Key×V)) (M:Str→Rat×Rat),H' p=some (.tup [.str "moves",.ref dM])∧XZ K H H' pins dM kM M∧m5 pins ao M∧iz pins L M=1∧∀p∈pins,Zb (zL pins.length) (M p.nm).1∧Zb (zL pins.length) (M p.nm).2)∨
 ∃(T:Str→Rat) (U:Str→List Rat) (Lx:Str→Addr) (dT dU:Addr) (kT kU:List (Key×V)),H' p=some (.tup [.str "rest",.ref dT,.ref dU])∧IU K H H' pins ao dT dU kT kU T U Lx∧fP pins ao T U L∧(∀b∈ao,Zb (zL pins.length) (T b.nm))∧∀p∈pins,∀u∈U p.nm,Zb (zL pins.length) u
theorem nQ {C a d:Addr}{H:Hp}{Q:VK}{E:XK}{pins:List aH}{ao:List bq}{kvs:List (Key×V)}{L:Str→Option (Rat×Rat)}(R:wj K H C a pins ao)(g:fq pins ao)(ld:rP K H d kvs pins L)(k:∀(p:Addr) (H' :Hp),av H H' →Tells K H H' pins ao L p→Q (.ref p) H'):qT K C [.ref a,.ref d] H Q E:=
 ⟨a,d,pins,ao,kvs,L,rfl,R,g,g.lp,ld.hd,ld.pt,ld.sz,ld.ks,fun M p dM kM H' s e mo mm wk zb=>k p H' s (.inl ⟨dM,kM,M,e,mo,mm,wk,zb⟩),fun T U Lx p dT dU kT kU H' s e pr rest z1 z2=>k p H' s (.inr ⟨T,U,Lx,dT,dU,kT,kU,e,pr,rest,z1,z2⟩)⟩
theorem Tells.told {H H' :Hp}{pins:List aH}{ao:List bq}{L:Str→Option (Rat×Rat)}{p d:Addr}{o:HO}(h:Tells K H H' pins ao L p)(lp:pins.length≤9)(hd:H d=some o):EG K H' pins ao L d p (zL pins.length)∨EH K H' pins ao L p (zL pins.length):=by
 have z9:=zL9 lp
 rcases h with ⟨dM,kM,M,e,mo,mm,wk,zb⟩ | ⟨T,U,Lx,dT,dU,kT,kU,e,pr,rest,z1,z2⟩
 ·exact .inl (RM e mo mm wk zb (by omega) hd)
 ·exact .inr (RO e pr rest z1 z2 (by omega))
theorem fT:aG ["_law_script","_law_pins_here","_law_bars_here","_law_frame_here","_law_made","_law_load_here","_law_handed","_law_told"] ["_law_script"] (ag jg):=sq
theorem M3 {f:Addr}{fd:FuncData}{C:Addr}(F:nV K "law" "law" jg f fd)(bN:mg "list"=none)(dH:mg "dict"=none)
  (iV:Fn P w K mg base (a9 P w) 1 "_law_cell_at" ["_law_script","_law_k"] (iR K)) (cF:Fn P w K mg base (a9 P w) 1 "_law_field" ["_law_cell","_law_prime","_law_many"] dZ)
  (YQ:Fn P w K mg base (a9 P w) 35 "_law_pins" ["_law_script"] (qZ K)) (YR:Fn P w K mg base (a9 P w) 3 "_law_bars" ["_law_script","_law_pins_here"] (q0 K)) (RP:Fn P w K mg base (a9 P w) 4 "_law_frame" ["_law_pins_here","_law_bars_here"] (ni K C))
  (YS:Fn P w K mg base (a9 P w) 34 "_law_load" ["_law_script","_law_pins_here"] (rh K)) (YT:Fn P w K mg base (a9 P w) 34 "_law_borne" ["_law_script","_law_pins_here","_law_bars_here"] (rm K)) (M6:Fn P w K mg base (a9 P w) 39 "rest_of" ["F","load"] (qT K C))
  (M7:Fn P w K mg base (a9 P w) 36 "_law_right" ["_law_pins_here","_law_bars_here","_law_told","_law_load_here"] (rn K)) (rD:Fn P w K mg base (a9 P w) 1 "_law_spoilt" ["_law_pins_here","_law_told"] (nN K)) (ug:Fn P w K mg base (a9 P w) 4 "_law_stays" ["_law_frame_here","_law_pins_here","_law_bars_here"] (rB K C)):
  cM P w K mg base (a9 P w) 42 f fd ["_law_script"] (AX K):=by
 refine F.okG fT (fun vs H Q E h=> ?_) (fun bF A outer s H vs Q E hr h=> ?_)
 ·obtain ⟨a,ns,rfl,_⟩:=h
  rfl
 obtain ⟨sA,ns,rfl,hS,hn,hb,q⟩:=h
 refine ⟨_,(ae (aC (i:=1) fT.nd rfl (ab_ rfl) (aA YQ hr.mo pX (aq (pv 0) aa)))
  (ae (aC (i:=2) fT.nd rfl (ab_ rfl) (aA YR hr.mo pX (aq (pv 0) (aq (pv 1) aa))))
  (ae (aC (i:=3) fT.nd rfl (ab_ rfl) (aA RP hr.mo pX (aq (pv 1) (aq (pv 2) aa))))
  (ae (aC (i:=4) fT.nd rfl (ab_ rfl) (iZ cN (aA cF hr.mo pX (aq (aA iV hr.mo pX (aq (pv 0) (aq af aa))) (aq af (aq af aa)))) af (aT _)))
  (ae (aC (i:=5) fT.nd rfl (ab_ rfl) (aA YS hr.mo pX (aq (pv 0) (aq (pv 1) aa))))
  (ae (bg (cx (pv 4)) (ah (aC (i:=5) fT.nd rfl (ab_ rfl) (aA YT hr.mo pX (aq (pv 0) (aq (pv 1) (aq (pv 2) aa)))))) aL)
  (ae (bg (aQ cN (aA cF hr.mo pX (aq (aA iV hr.mo pX (aq (pv 0) (aq af aa))) (aq af (aq af aa)))) af (aT _)) (ah (aC (i:=5) fT.nd rfl (ab_ rfl) (ck (ve rfl) rfl dH mf (aq (LV (K:=K) rfl (jS rfl rfl bN (pv 5)) (JU z7 af)) aa)))) aL)
  (ae (aC (i:=6) fT.nd rfl (ab_ rfl) (ck uZ rfl dH mf (aq (pv 5) aa)))
  (ae (aC (i:=7) fT.nd rfl (ab_ rfl) (aA M6 hr.mo pX (aq (pv 3) (aq (pv 6) aa))))
  (ae (bg (PW.pt (ff (cS (cx (aA M7 hr.mo pX (aq (pv 1) (aq (pv 2) (aq (pv 7) (aq (pv 5) aa))))))) (dA (PW.pt (pS (cx (pv 4)) (kO (aQ fG (aS (pv 7)) dz (aT _)))))))) (ah (aF cg)) aL)
  (ae (bg (PW.pt (ff (cS (cx (aA rD hr.mo pX (aq (pv 1) (aq (pv 7) aa))))) (dA (aQ (eK hr.units) (jS rfl rfl bN (pv 6)) (jS rfl rfl bN (pv 5)) (aT _))))) (ah (aF cg)) aL)
  (ae (bg (cS (cx (aA ug hr.mo pX (aq (pv 3) (aq (pv 1) (aq (pv 2) aa)))))) (ah (aF cg)) aL)
  (ae (bg (cS (cx (aA M7 hr.mo pX (aq (pv 1) (aq (dj eG (pv 2) (dD af) eE) (aq (aA M6 hr.mo pX (aq (aA RP hr.mo pX (aq (pv 1) (aq (dj eG (pv 2) (dD af) eE) aa))) (aq (pv 5) aa))) (aq (pv 5) aa))))))) (ah (aF cg)) aL)
  (ah (aF (aA M7 hr.mo pX (aq (pv 1) (aq (pv 2) (aq (aA M6 hr.mo pX (aq (pv 3) (aq (pv 5) aa))) (aq (pv 5) aa)))))))))))))))))))),?_⟩
 refine ⟨_,rfl,sA,ns,rfl,hS,fun lP us pins H1 s1 nP eP pp gp lp pn=> ?_⟩
 have lu:us.length=pins.length:=Paired.length pp
 refine ⟨_,rfl,_,rfl,sA,lP,ns,us,pins,rfl,s1.seq hS,eP,lu,gp.np,by omega,fun lB vs ao H2 s2 nB eB pb gb lb=> ?_⟩
 have lv:vs.length=ao.length:=Paired.length pb
 have pp2:Paired (fS K H2) us pins:=Paired.bZ pp fun _ _ z=>z.same s2
 have eP2:=s2 _ _ eP
 refine ⟨_,rfl,_,rfl,lP,lB,us,vs,pins,ao,rfl,eP2,pp2,eB,pb,gp,gb,by omega,by omega,fun fA H3 s3 R=> ?_⟩
 have g:=KO gp gb (by omega) (by omega)
 have uH:FH K H3 lP lB us vs pins ao:=⟨s3 _ _ eP2,Paired.bZ pp2 fun _ _ z=>z.same s3,gp,s3 _ _ eB,Paired.bZ pb fun _ _ z=>z.same s3,fun b hb=>(gb.ends b hb).2.2,lp,by omega⟩
 have nG:=s1.trans (s2.trans s3)
 refine ⟨_,rfl,sA,ns,2,rfl,nG.seq hS,by decide,by decide,?_⟩
 refine ⟨_,_,_,rfl,by decide,by decide,by decide,rfl,?_⟩
 generalize decide (V.int (field (cell ns 2) 1009 2)=V.int 0)=b0
 dsimp only [cZ]
 refine ⟨_,rfl,_,rfl,sA,lP,ns,us,pins,rfl,nG.seq hS,hb,uH.hp,uH.pp,lp,fun d0 k0 L0 H4 s4 ld0 lk0=> ?_⟩
 dsimp only [cZ]
 refine cV (fun σ' H' =>∃(d:Addr) (kvs:List (Key×V)) (L:Str→Option (Rat×Rat)),σ' =[some (.ref sA),some (.ref lP),some (.ref lB),some (.ref fA),some (.bl b0),some (.ref d),none,none]∧av H3 H' ∧rP K H' d kvs pins L∧kvs.length≤9∧(b0=true→∃T U,fP pins ao T U L)) (fun Nx jw=> ?_) ?_
 ·refine ⟨_,rfl,_,rfl,?_⟩
  refine bf (fun c=> ?_) (fun c=> ?_)
  ·exact ⟨_,rfl,_,rfl,_,rfl,sA,lP,lB,ns,us,vs,pins,ao,rfl,(nG.trans s4).seq hS,uH.same s4,g,fun d kvs L T U H5 s5 ld lk ar=>jw _ _ ⟨d,kvs,L,rfl,s4.trans s5,ld,lk,fun _=>⟨T,U,ar⟩⟩⟩
  ·exact jw _ _ ⟨d0,k0,L0,rfl,s4,ld0,lk0,fun z=>absurd z c⟩
 rintro σ' H5 ⟨d1,k1,L,rfl,s5,EC,lk1,ar⟩
 refine cV (fun σ' H' =>∃(d:Addr) (kvs:List (Key×V)),σ' =[some (.ref sA),some (.ref lP),some (.ref lB),some (.ref fA),some (.bl b0),some (.ref d),none,none]∧av H3 H' ∧rP K H' d kvs pins L∧kvs.length≤9) (fun Nx jw=> ?_) ?_
 ·refine ⟨_,rfl,sA,ns,2,rfl,(nG.trans s5).seq hS,by decide,by decide,_,_,_,rfl,by decide,by decide,by decide,rfl,_,rfl,?_⟩
  refine bf (fun c=> ?_) (fun c=> ?_)
  ·refine ⟨_,rfl,d1,k1,rfl,EC.hd,fun lI ui HI sI nI eI pI=> ?_⟩
   refine ⟨_,rfl,rfl,lI,_,rfl,aU.of eI,?_⟩
   intro lJ nJ;generalize eX:upd _ lJ _=HJ;have ⟨sJ,eJ⟩:=nw nJ eX;clear eX
   have lui:ui.length=k1.length:=Paired.length pI
   have nk1:((([]:List (Key×V))++k1.reverse).map (·.1)).Nodup:=by
    rw [afH,agp]
    exact agm.mpr (agh (fun h=>ae8 h) EC.nk)
   refine ⟨lJ,ui.reverse,k1.reverse,rfl,eJ,by rw [afv,afv];exact lui,by rw [afv];omega,fun j u kv e1 e2=> ?_,fun l H' s' n' e' => ?_⟩
   ·have hj:=(be.mp e1).1
    rw [afv] at hj
    rw [af3 hj] at e1
    rw [af3 (by omega), ← lui] at e2
    obtain ⟨VB,e3,p,e4,e5⟩:=aE pI e1
    rw [e2] at e3
    cases e3
    exact ⟨p,e4,sJ _ _ e5⟩
   ·rw [gy _ _ nk1,afH] at e'
    have s5' :=sI.trans (sJ.trans s')
    exact jw _ _ ⟨l,k1.reverse,rfl,s5.trans s5',(EC.same s5').rev e',by rw [afv];exact lk1⟩
  ·exact jw _ _ ⟨d1,k1,rfl,s5,EC,lk1⟩
 rintro σ' H6 ⟨d,kvs,rfl,s6,ld,lk⟩
 refine ⟨_,rfl,d,kvs,rfl,.inl ld.hd,?_⟩
 intro dh nh;generalize eX:upd _ dh _=H7;have ⟨sh,eh⟩:=nw nh eX;clear eX
 have zN:=ld.same sh
 have ldh:rP K H7 dh kvs pins L:=⟨eh,zN.pt,zN.nk,zN.ks,zN.sz,zN.ll⟩
 have s37:=s6.trans sh
 have z9:=zL9 lp
 have R7:=R.same s37
 have LJ:=uH.same s37
 dsimp only [cZ]
 refine ⟨_,rfl,_,rfl,nQ R7 g ldh fun pT H8 s8 tell=> ?_⟩
 dsimp only [cZ]
 have ld8:=zN.same s8
 refine cV (fun σ' H' =>σ' =[some (.ref sA),some (.ref lP),some (.ref lB),some (.ref fA),some (.bl b0),some (.ref d),some (.ref dh),some (.ref pT)]∧av H8 H') (fun Nx jw=> ?_) ?_
 ·refine ⟨_,rfl,_,rfl,_,rfl,_,rfl,lP,lB,pT,d,us,vs,pins,ao,kvs,L,zL pins.length,rfl,LJ.same s8,ld8,lk,by omega,tell.told lp zN.hd,fun H9 s9=>⟨_,rfl,?_⟩⟩
  refine bf (fun c=>nomatch c) (fun _=> ?_)
  refine ⟨_,rfl,_,rfl,?_⟩
  refine bf (fun c=> ?_) (fun c=> ?_)
  ·rcases tell with ⟨dM,kM,M,e,mo,mm,wk,zb⟩ | ⟨T,U,Lx,dT,dU,kT,kU,e,pr,rest,z1,z2⟩
   ·obtain ⟨T,U,ar'⟩:=ar c
    exact (DL g ar' mm wk).elim
   ·refine ⟨_,rfl,pT,_,_,_,rfl,rfl,bL.of (s9 _ _ e),rfl,rfl,_,rfl,?_⟩
    refine bf (fun c=>absurd c (by simp [i5])) (fun _=> ?_)
    exact jw _ _ ⟨rfl,s9⟩
  ·exact jw _ _ ⟨rfl,s9⟩
 rintro σ' H9 ⟨rfl,s9⟩
 have hk:∀kv∈kvs,∃x:Str,kv.1=.inr x:=fun kv h=>by
  obtain ⟨x,_,e⟩:=ld.ks kv h
  exact ⟨x,e⟩
 refine cV (fun σ' H' =>σ' =[some (.ref sA),some (.ref lP),some (.ref lB),some (.ref fA),some (.bl b0),some (.ref d),some (.ref dh),some (.ref pT)]∧av H7 H') (fun Nx jw=> ?_) ?_
 ·have sp:(∃(dM:Addr) (kM:List (Key×V)),H9 pT=some (.tup [.str "moves",.ref dM])∧H7 dM=none∧H9 dM=some (.dK kM))∨
   ∃(dT dU:Addr) (kT kU:List (Key×V)) (ao:List bq) (T:Str→Rat) (U:Str→List Rat) (Lx:Str→Addr),H9 pT=some (.tup [.str "rest",.ref dT,.ref dU])∧IU K H7 H9 pins ao dT dU kT kU T U Lx∧∀p∈pins,p.ws.length≤2:=by
   rcases tell with ⟨dM,kM,M,e,mo,mm,wk,zb⟩ | ⟨T,U,Lx,dT,dU,kT,kU,e,pr,rest,z1,z2⟩
   ·exact .inl ⟨dM,kM,s9 _ _ e,mo.nM,s9 _ _ mo.hM⟩
   ·exact .inr ⟨dT,dU,kT,kU,ao,T,U,Lx,s9 _ _ e,pr.up s9,g.lw⟩
  refine ⟨_,rfl,_,rfl,H7,lP,pT,us,pins,rfl,s8.trans s9,LJ.hp,LJ.pp,gp.np,by omega,sp,fun HF qi=>⟨_,rfl,?_⟩⟩
  refine bf (fun c=>nomatch c) (fun _=> ?_)
  refine ⟨_,rfl,dh,kvs,rfl,qi _ _ eh,fun lI ui HI sI nI eI pI=> ?_⟩
  have s7I:=qi.trans sI
  refine ⟨_,rfl,d,kvs,rfl,s7I _ _ zN.hd,fun lJ uj HJ sJ nJ eJ pJ=> ?_⟩
  have YU:=s7I.trans sJ
  have pI' :=Paired.bZ pI fun (u:V) (kv:Key×V) (z:∃p,u=.ref p∧HI p=some (.tup [kV kv.1,kv.2]))=>(show ∃p,u=.ref p∧HJ p=some (.tup [kV kv.1,kv.2]) from by obtain ⟨p,h1,h2⟩:=z;exact ⟨p,h1,sJ _ _ h2⟩)
  refine Jn (ue (zN.pt.same YU) ld.nk hk (aU.of (sJ _ _ eI)) pI') (ue (zN.pt.same YU) ld.nk hk (aU.of eJ) pJ) (gY (EJ L) _) ⟨_,rfl,?_⟩
  refine bf (fun c=>nomatch c) (fun _=> ?_)
  exact jw _ _ ⟨rfl,YU⟩
 rintro σ' HF ⟨rfl,qi⟩
 have EK:=LJ.same qi
 refine ⟨_,rfl,_,rfl,_,rfl,fA,lP,lB,us,vs,pins,ao,rfl,R7.same qi,EK.hp,EK.pp,EK.hb,EK.pb,g,fun LK vZ=>⟨_,rfl,?_⟩⟩
 refine bf (fun c=>nomatch c) (fun _=> ?_)
 dsimp only [vN]
 have s7b:=qi.trans vZ
 have RQ:=EK.same vZ
 have YV:=gb.drop 1
 have lb1:(ao.drop 1).length≤14:=by rw [agn];omega
 have g1:=KO gp YV (by omega) lb1
 refine ⟨_,rfl,_,rfl,1,rfl,lB,_,rfl,aU.of RQ.hb,?_⟩
 rw [RL]
 intro l1 n1;generalize eX:upd _ l1 _=H12;have ⟨t1,e1⟩:=nw n1 eX;clear eX
 have RS:=RQ.same t1
 refine ⟨_,rfl,_,rfl,1,rfl,lB,_,rfl,aU.of RS.hb,?_⟩
 rw [RL]
 intro l2 n2;generalize eX:upd _ l2 _=H13;have ⟨t2,e2⟩:=nw n2 eX;clear eX
 have Jp:=RS.same t2
 have RT:Paired (iU K H13 pins) (vs.drop 1) (ao.drop 1):=kC 1 Jp.pb
 refine ⟨lP,l2,us,vs.drop 1,pins,ao.drop 1,rfl,Jp.hp,Jp.pp,e2,RT,gp,YV,by omega,by omega,fun f2 H14 t3 R14=> ?_⟩
 have s7e:=s7b.trans (t1.trans (t2.trans t3))
 have RU:=Jp.same t3
 have M8:=zN.same s7e
 refine ⟨_,rfl,nQ R14 g1 M8 fun p15 H15 t4 RV=> ?_⟩
 have frx:FH K H15 lP l1 us (vs.drop 1) pins (ao.drop 1):=⟨t4 _ _ RU.hp,Paired.bZ RU.pp fun _ _ z=>z.same t4,gp,t4 _ _ (t3 _ _ (t2 _ _ e1)),Paired.bZ RT fun _ _ z=>(z.same t3).same t4,fun b hb=>(YV.ends b hb).2.2,lp,by omega⟩
 refine ⟨_,rfl,lP,l1,p15,d,us,vs.drop 1,pins,ao.drop 1,kvs,L,zL pins.length,rfl,frx,M8.same t4,lk,by omega,RV.told lp M8.hd,fun H16 t5=>⟨_,rfl,?_⟩⟩
 refine bf (fun c=>nomatch c) (fun _=> ?_)
 have YW:=s7e.trans (t4.trans t5)
 have M9:=zN.same YW
 refine ⟨_,rfl,_,rfl,_,rfl,_,rfl,nQ (R7.same YW) g M9 fun p17 H17 t6 RW=> ?_⟩
 exact ⟨_,rfl,lP,lB,p17,d,us,vs,pins,ao,kvs,L,zL pins.length,rfl,LJ.same (YW.trans t6),M9.same t6,lk,by omega,RW.told lp M9.hd,fun H18 t7=>q _⟩
end
theorem all_mk {l:PySem.W.OpenLaw}{w:World}{K:Frag}{h:Heap}{mg:Str→Option Value}{fa:Addr}(X:K.In h)(G:h.Ns mainGlobals mg)(hfa:mg "law"=some (.ref fa))
  (YX:nsIn K mainGlobals "difference_of"=some (some (.ref RX))) (YY:K.lookup RX=some ⟨agC,agD,.func (fnOf "difference_of" "difference_of" (aD vf) (ay vf) (ag vf) .none agE agF agG agH RY agI),agJ⟩) (YZ:codeIn K RY "difference_of"=true) (Y0:keepIn K (.ref RX)=true) (Y1:nsIn K mainGlobals "lowest_terms"=some (some (.ref RZ))) (Y2:K.lookup RZ=some ⟨agK,agL,.func (fnOf "lowest_terms" "lowest_terms" (aD tJ) (ay tJ) (ag tJ) .none agM agN agO agP R5 agQ),agR⟩) (Y3:codeIn K R5 "lowest_terms"=true) (Y4:keepIn K (.ref RZ)=true) (Y5:nsIn K mainGlobals "greatest_shared"=some (some (.ref R9))) (Y6:K.lookup R9=some ⟨agS,agT,.func (fnOf "greatest_shared" "greatest_shared" (aD x_) (ay x_) (ag x_) .none agU agV agW agX R_ agY),agZ⟩) (Y7:codeIn K R_ "greatest_shared"=true) (Y8:keepIn K (.ref R9)=true) (Y9:nsIn K mainGlobals "arm_between"=some (some (.ref Sa))) (Y_:K.lookup Sa=some ⟨ag0,ag1,.func (fnOf "arm_between" "arm_between" (aD ya) (ay ya) (ag ya) .none ag2 ag3 ag4 ag5 Sb ag6),ag7⟩) (Y':codeIn K Sb "arm_between"=true) (Za:keepIn K (.ref Sa)=true) (Zc:nsIn K mainGlobals "pair_difference"=some (some (.ref Sd))) (Zd:K.lookup Sd=some ⟨ag8,ag9,.func (fnOf "pair_difference" "pair_difference" (aD vg) (ay vg) (ag vg) .none ag' aha ahb ahc Se ahd),ahe⟩) (Ze:codeIn K Se "pair_difference"=true) (Zf:keepIn K (.ref Sd)=true) (Zg:nsIn K mainGlobals "pair_row"=some (some (.ref Sf))) (Zh:K.lookup Sf=some ⟨ahf,ahg,.func (fnOf "pair_row" "pair_row" (aD yb) (ay yb) (ag yb) .none ahh ahi ahj ahk Sg ahl),ahm⟩) (Zi:codeIn K Sg "pair_row"=true) (Zj:keepIn K (.ref Sf)=true) (Zk:nsIn K mainGlobals "load_row"=some (some (.ref Sh))) (Zl:K.lookup Sh=some ⟨ahn,aho,.func (fnOf "load_row" "load_row" (aD yc) (ay yc) (ag yc) .none ahp ahq ahr ahs Si aht),ahu⟩) (Zm:codeIn K Si "load_row"=true) (Zn:keepIn K (.ref Sh)=true) (Zo:nsIn K mainGlobals "bar_row"=some (some (.ref Sj))) (Zp:K.lookup Sj=some ⟨ahv,ahw,.func (fnOf "bar_row" "bar_row" (aD yd) (ay yd) (ag yd) .none ahx ahy ahz ahA Sk ahB),ahC⟩) (Zq:codeIn K Sk "bar_row"=true) (Zr:keepIn K (.ref Sj)=true) (Zs:nsIn K mainGlobals "draw_rows"=some (some (.ref Sl))) (Zt:K.lookup Sl=some ⟨ahD,ahE,.func (fnOf "draw_rows" "draw_rows" (aD ye) (ay ye) (ag ye) .none ahF ahG ahH ahI Sn ahJ),ahK⟩) (Zu:codeIn K Sn "draw_rows"=true) (Zv:keepIn K (.ref Sl)=true) (Zw:nsIn K mainGlobals "pulls_and_pushes"=some (some (.ref So))) (Zx:K.lookup So=some ⟨ahL,ahM,.func (fnOf "pulls_and_pushes" "pulls_and_pushes" (aD yf) (ay yf) (ag yf) .none ahN ahO ahP ahQ Sq ahR),ahS⟩) (Zy:codeIn K Sq "pulls_and_pushes"=true) (Zz:keepIn K (.ref So)=true) (ZA:nsIn K mainGlobals "motion_from"=some (some (.ref Sr))) (ZC:K.lookup Sr=some ⟨ahT,ahU,.func (fnOf "motion_from" "motion_from" (aD yg) (ay yg) (ag yg) .none ahV ahW ahX ahY Ss ahZ),ah0⟩) (ZD:codeIn K Ss "motion_from"=true) (ZE:keepIn K (.ref Sr)=true) (ZF:nsIn K mainGlobals "solve_rows"=some (some (.ref Su))) (ZG:K.lookup Su=some ⟨ah1,ah2,.func (fnOf "solve_rows" "solve_rows" (aD yh) (ay yh) (ag yh) .none ah3 ah4 ah5 ah6 Sv ah7),ah8⟩) (ZH:codeIn K Sv "solve_rows"=true) (ZI:keepIn K (.ref Su)=true) (ZJ:nsIn K mainGlobals "turned"=some (some (.ref Sw))) (ZK:K.lookup Sw=some ⟨ah9,ah',.func (fnOf "turned" "turned" (aD yi) (ay yi) (ag yi) .none aia aib aic aid Sx aie),aif⟩) (ZL:codeIn K Sx "turned"=true) (ZM:keepIn K (.ref Sw)=true) (ZN:nsIn K mainGlobals "whole_row"=some (some (.ref Sy))) (ZO:K.lookup Sy=some ⟨aih,aii,.func (fnOf "whole_row" "whole_row" (aD yj) (ay yj) (ag yj) .none aij aik ail aim SA ain),aio⟩) (ZP:codeIn K SA "whole_row"=true) (ZQ:keepIn K (.ref Sy)=true) (ZR:nsIn K mainGlobals "solution_of"=some (some (.ref SD))) (ZS:K.lookup SD=some ⟨aip,aiq,.func (fnOf "solution_of" "solution_of" (aD yk) (ay yk) (ag yk) .none air ais ait aiu SE aiv),aiw⟩) (ZT:codeIn K SE "solution_of"=true) (ZU:keepIn K (.ref SD)=true) (ZV:nsIn K mainGlobals "reduced"=some (some (.ref SF))) (ZW:K.lookup SF=some ⟨aix,aiy,.func (fnOf "reduced" "reduced" (aD ym) (ay ym) (ag ym) .none aiz aiA aiB aiC SG aiD),aiE⟩) (ZX:codeIn K SG "reduced"=true) (ZY:keepIn K (.ref SF)=true) (ZZ:nsIn K mainGlobals "first_not_nought"=some (some (.ref SH))) (Z0:K.lookup SH=some ⟨aiF,aiG,.func (fnOf "first_not_nought" "first_not_nought" (aD yn) (ay yn) (ag yn) .none aiH aiI aiJ aiK SI aiL),aiM⟩) (Z1:codeIn K SI "first_not_nought"=true) (Z2:keepIn K (.ref SH)=true) (Z3:nsIn K mainGlobals "cleared"=some (some (.ref SJ))) (Z4:K.lookup SJ=some ⟨aiN,aiO,.func (fnOf "cleared" "cleared" (aD yo) (ay yo) (ag yo) .none aiP aiQ aiR aiS SK aiT),aiU⟩) (Z5:codeIn K SK "cleared"=true) (Z6:keepIn K (.ref SJ)=true) (Z7:nsIn K mainGlobals "divided"=some (some (.ref SM))) (Z8:K.lookup SM=some ⟨aiV,aiW,.func (fnOf "divided" "divided" (aD yp) (ay yp) (ag yp) .none aiX aiY aiZ ai0 SN ai1),ai2⟩) (Z9:codeIn K SN "divided"=true) (Z_:keepIn K (.ref SM)=true) (Z':nsIn K mainGlobals "rest_of"=some (some (.ref SO))) (aaa:K.lookup SO=some ⟨ai3,ai4,.func (fnOf "rest_of" "rest_of" (aD yq) (ay yq) (ag yq) .none ai5 ai6 ai7 ai8 SQ ai9),ai'⟩) (aab:codeIn K SQ "rest_of"=true) (aac:keepIn K (.ref SO)=true) (aad:nsIn K mainGlobals "_law_cell_at"=some (some (.ref SR))) (aae:K.lookup SR=some ⟨aja,ajb,.func (fnOf "_law_cell_at" "_law_cell_at" (aD yr) (ay yr) (ag yr) .none ajc ajd aje ajf SS ajg),ajh⟩) (aaf:codeIn K SS "_law_cell_at"=true) (aag:keepIn K (.ref SR)=true) (aah:nsIn K mainGlobals "_law_field"=some (some (.ref SU))) (aai:K.lookup SU=some ⟨aji,ajj,.func (fnOf "_law_field" "_law_field" (aD yt) (ay yt) (ag yt) .none ajk ajl ajm ajn SV ajo),ajp⟩) (aaj:codeIn K SV "_law_field"=true) (aak:keepIn K (.ref SU)=true) (aal:nsIn K mainGlobals "_law_lowest"=some (some (.ref SW))) (aam:K.lookup SW=some ⟨ajq,ajr,.func (fnOf "_law_lowest" "_law_lowest" (aD yu) (ay yu) (ag yu) .none ajs ajt aju ajv SX ajw),ajx⟩) (aan:codeIn K SX "_law_lowest"=true) (aao:keepIn K (.ref SW)=true) (aap:nsIn K mainGlobals "_law_sum"=some (some (.ref SY))) (aaq:K.lookup SY=some ⟨ajy,ajz,.func (fnOf "_law_sum" "_law_sum" (aD yv) (ay yv) (ag yv) .none ajA ajB ajC ajD S0 ajE),ajF⟩) (aar:codeIn K S0 "_law_sum"=true) (aas:keepIn K (.ref SY)=true) (aat:nsIn K mainGlobals "_law_times"=some (some (.ref S1))) (aau:K.lookup S1=some ⟨ajG,ajH,.func (fnOf "_law_times" "_law_times" (aD yw) (ay yw) (ag yw) .none ajI ajJ ajK ajL S2 ajM),ajN⟩) (aav:codeIn K S2 "_law_times"=true) (aaw:keepIn K (.ref S1)=true) (aax:nsIn K mainGlobals "_law_turned"=some (some (.ref S3))) (aay:K.lookup S3=some ⟨ajO,ajP,.func (fnOf "_law_turned" "_law_turned" (aD yx) (ay yx) (ag yx) .none ajQ ajR ajS ajT S4 ajU),ajV⟩) (aaz:codeIn K S4 "_law_turned"=true) (aaA:keepIn K (.ref S3)=true) (aaB:nsIn K mainGlobals "_law_name"=some (some (.ref S5))) (aaC:K.lookup S5=some ⟨ajW,ajX,.func (fnOf "_law_name" "_law_name" (aD vh) (ay vh) (ag vh) .none ajY ajZ aj0 aj1 S6 aj2),aj3⟩) (aaD:codeIn K S6 "_law_name"=true) (aaE:keepIn K (.ref S5)=true) (aaF:nsIn K mainGlobals "_law_spot"=some (some (.ref S7))) (aaG:K.lookup S7=some ⟨aj4,aj5,.func (fnOf "_law_spot" "_law_spot" (aD yy) (ay yy) (ag yy) .none aj6 aj7 aj8 aj9 S8 aj'),aka⟩) (aaH:codeIn K S8 "_law_spot"=true) (aaI:keepIn K (.ref S7)=true) (aaJ:nsIn K mainGlobals "_law_ways"=some (some (.ref S9))) (aaK:K.lookup S9=some ⟨akb,akc,.func (fnOf "_law_ways" "_law_ways" (aD yz) (ay yz) (ag yz) .none akd ake akf akg S_ akh),aki⟩) (aaL:codeIn K S_ "_law_ways"=true) (aaM:keepIn K (.ref S9)=true) (aaN:nsIn K mainGlobals "_law_pins"=some (some (.ref S'))) (aaO:K.lookup S'=some ⟨akj,akk,.func (fnOf "_law_pins" "_law_pins" (aD yA) (ay yA) (ag yA) .none akl akm akn ako Ta akp),akq⟩) (aaP:codeIn K Ta "_law_pins"=true) (aaQ:keepIn K (.ref S')=true) (aaR:nsIn K mainGlobals "_law_bars"=some (some (.ref Tb))) (aaS:K.lookup Tb=some ⟨akr,aks,.func (fnOf "_law_bars" "_law_bars" (aD yB) (ay yB) (ag yB) .none akt akv akw aky Tc akz),akA⟩) (aaT:codeIn K Tc "_law_bars"=true) (aaU:keepIn K (.ref Tb)=true) (aaV:nsIn K mainGlobals "_law_frame"=some (some (.ref Td))) (aaW:K.lookup Td=some ⟨akB,akC,.func (fnOf "_law_frame" "_law_frame" (aD yC) (ay yC) (ag yC) .none akD akE akF akG Te akH),akI⟩) (aaX:codeIn K Te "_law_frame"=true) (aaY:keepIn K (.ref Td)=true) (aaZ:nsIn K mainGlobals "_law_arm"=some (some (.ref Tf))) (aa0:K.lookup Tf=some ⟨akJ,akK,.func (fnOf "_law_arm" "_law_arm" (aD yD) (ay yD) (ag yD) .none akL akM akN akO Tg akP),akQ⟩) (aa1:codeIn K Tg "_law_arm"=true) (aa2:keepIn K (.ref Tf)=true) (aa3:nsIn K mainGlobals "_law_add"=some (some (.ref Th))) (aa4:K.lookup Th=some ⟨akR,akS,.func (fnOf "_law_add" "_law_add" (aD yE) (ay yE) (ag yE) .none akT akU akV akW Ti akX),akY⟩) (aa5:codeIn K Ti "_law_add"=true) (aa6:keepIn K (.ref Th)=true) (aa7:nsIn K mainGlobals "_law_forces"=some (some (.ref Tj))) (aa8:K.lookup Tj=some ⟨akZ,ak0,.func (fnOf "_law_forces" "_law_forces" (aD yF) (ay yF) (ag yF) .none ak1 ak2 ak3 ak4 Tn ak5),ak6⟩) (aa9:codeIn K Tn "_law_forces"=true) (aa':keepIn K (.ref Tj)=true) (aba:nsIn K mainGlobals "_law_number"=some (some (.ref To))) (abb:K.lookup To=some ⟨ak7,ak8,.func (fnOf "_law_number" "_law_number" (aD yG) (ay yG) (ag yG) .none ak9 ak' ala alb Tp alc),ald⟩) (abc:codeIn K Tp "_law_number"=true) (abd:keepIn K (.ref To)=true) (abe:nsIn K mainGlobals "_law_are_forces"=some (some (.ref Tq))) (abf:K.lookup Tq=some ⟨ale,alf,.func (fnOf "_law_are_forces" "_law_are_forces" (aD yH) (ay yH) (ag yH) .none alg alh ali alj Tr alk),alm⟩) (abg:codeIn K Tr "_law_are_forces"=true) (abh:keepIn K (.ref Tq)=true) (abi:nsIn K mainGlobals "_law_is_motion"=some (some (.ref Ts))) (abj:K.lookup Ts=some ⟨aln,alo,.func (fnOf "_law_is_motion" "_law_is_motion" (aD yI) (ay yI) (ag yI) .none alp alq alr als Tt alu),alv⟩) (abk:codeIn K Tt "_law_is_motion"=true) (abl:keepIn K (.ref Ts)=true) (abm:nsIn K mainGlobals "_law_at_rest"=some (some (.ref Tu))) (abn:K.lookup Tu=some ⟨alw,alx,.func (fnOf "_law_at_rest" "_law_at_rest" (aD yJ) (ay yJ) (ag yJ) .none aly alz alA alB Tv alC),alD⟩) (abo:codeIn K Tv "_law_at_rest"=true) (abp:keepIn K (.ref Tu)=true) (abq:nsIn K mainGlobals "_law_dot"=some (some (.ref Tw))) (abr:K.lookup Tw=some ⟨alE,alF,.func (fnOf "_law_dot" "_law_dot" (aD yK) (ay yK) (ag yK) .none alG alH alI alJ Tx alK),alL⟩) (abu:codeIn K Tx "_law_dot"=true) (abv:keepIn K (.ref Tw)=true) (abw:nsIn K mainGlobals "_law_longer"=some (some (.ref Tz))) (abx:K.lookup Tz=some ⟨alM,alN,.func (fnOf "_law_longer" "_law_longer" (aD yL) (ay yL) (ag yL) .none alO alP alQ alR TB alS),alT⟩) (aby:codeIn K TB "_law_longer"=true) (abz:keepIn K (.ref Tz)=true) (abA:nsIn K mainGlobals "_law_keeps"=some (some (.ref TC))) (abB:K.lookup TC=some ⟨alU,alV,.func (fnOf "_law_keeps" "_law_keeps" (aD yM) (ay yM) (ag yM) .none alW alX alY alZ TF al0),al1⟩) (abC:codeIn K TF "_law_keeps"=true) (abD:keepIn K (.ref TC)=true) (abE:nsIn K mainGlobals "_law_work"=some (some (.ref TH))) (abF:K.lookup TH=some ⟨al2,al3,.func (fnOf "_law_work" "_law_work" (aD yN) (ay yN) (ag yN) .none al4 al5 al6 al7 TJ al8),al9⟩) (abG:codeIn K TJ "_law_work"=true) (abH:keepIn K (.ref TH)=true) (abI:nsIn K mainGlobals "_law_load"=some (some (.ref TK))) (abJ:K.lookup TK=some ⟨al',ama,.func (fnOf "_law_load" "_law_load" (aD s_by) (ay s_by) (ag s_by) .none amb amc amd ame TL amf),amg⟩) (abK:codeIn K TL "_law_load"=true) (abL:keepIn K (.ref TK)=true) (abM:nsIn K mainGlobals "_law_borne"=some (some (.ref TM))) (abN:K.lookup TM=some ⟨amh,ami,.func (fnOf "_law_borne" "_law_borne" (aD yO) (ay yO) (ag yO) .none amj amk aml amm TN amn),amo⟩) (abO:codeIn K TN "_law_borne"=true) (abP:keepIn K (.ref TM)=true) (abQ:nsIn K mainGlobals "_law_right"=some (some (.ref TQ))) (abR:K.lookup TQ=some ⟨amq,amr,.func (fnOf "_law_right" "_law_right" (aD yP) (ay yP) (ag yP) .none ams amt amu amv TR amw),amx⟩) (abS:codeIn K TR "_law_right"=true) (abT:keepIn K (.ref TQ)=true) (rE:nsIn K mainGlobals "_law_spoilt"=some (some (.ref jC))) (rF:K.lookup jC=some ⟨FJ,FK,.func (fnOf "_law_spoilt" "_law_spoilt" (aD cY) (ay cY) (ag cY) .none FL FN FO FP oA FQ),FR⟩) (rG:codeIn K oA "_law_spoilt"=true) (rH:keepIn K (.ref jC)=true) (uh:nsIn K mainGlobals "_law_stays"=some (some (.ref kD))) (uk:K.lookup kD=some ⟨Jq,Jr,.func (fnOf "_law_stays" "_law_stays" (aD dw) (ay dw) (ag dw) .none Js Jt Ju Jv rJ Jw),Jx⟩) (um:codeIn K rJ "_law_stays"=true) (uo:keepIn K (.ref kD)=true) (TU:nsIn K mainGlobals "law"=some (some (.ref KU))) (TV:K.lookup KU=some ⟨abU,abV,.func (fnOf "law" "law" (aD jg) (ay jg) (ag jg) .none M_ Na Nb Nc EL Nd),abW⟩) (TX:codeIn K EL "law"=true) (TY:keepIn K (.ref KU)=true) (abX:nsIn K mainGlobals "MOST_PINS"=some (some (.int 24 amy))) (abY:nsIn K mainGlobals "MOST_BARS"=some (some (.int 60 amz))) (abZ:nsIn K mainGlobals "NOUGHT"=some (some (.ref Nf))) (ab0:K.lookup Nf=some ⟨.type "tuple",amA,.seq #[.int 0 ab1,.int 1 ab2] amB,amC⟩) (ab3:nsIn K mainGlobals "ONE"=some (some (.ref Ng))) (ab4:K.lookup Ng=some ⟨.type "tuple",amD,.seq #[.int 1 ab5,.int 1 ab6] amE,amF⟩) (ab7:nsIn K mainGlobals "NO_MOVE"=some (some (.ref Nh))) (ab8:K.lookup Nh=some ⟨.type "tuple",amG,.seq #[.ref TZ,.ref T1] amH,amI⟩) (ab9:K.lookup TZ=some ⟨.type "tuple",amJ,.seq #[.int 0 ab',.int 1 aca] amK,amL⟩) (acb:K.lookup T1=some ⟨.type "tuple",amM,.seq #[.int 0 acd,.int 1 ace] amN,amO⟩) (rK:nsIn K mainGlobals "ValueError"=some none) (T2:nsIn K mainGlobals "abs"=some none) (T3:nsIn K mainGlobals "all"=some none) (T4:nsIn K mainGlobals "any"=some none) (Ni:nsIn K mainGlobals "bool"=some none) (Nj:nsIn K mainGlobals "dict"=some none) (uq:nsIn K mainGlobals "enumerate"=some none) (T5:nsIn K mainGlobals "int"=some none) (rL:nsIn K mainGlobals "isinstance"=some none) (T6:nsIn K mainGlobals "len"=some none) (Nk:nsIn K mainGlobals "list"=some none) (T7:nsIn K mainGlobals "min"=some none) (Jy:nsIn K mainGlobals "range"=some none) (T8:nsIn K mainGlobals "str"=some none) (Jz:nsIn K mainGlobals "tuple"=some none) (T9:nsIn K mainGlobals "zip"=some none) (acf:nsIn K mainGlobals "YardError"=some (some (.ref acg))) (ach:nsIn K mainGlobals "NoWay"=some (some (.ref aci))) (acj:nsIn K mainGlobals "PinThere"=some (some (.ref ack))) (acm:nsIn K mainGlobals "SpotTaken"=some (some (.ref acn))) (aco:nsIn K mainGlobals "NoPin"=some (some (.ref acp))) (acq:nsIn K mainGlobals "BarThere"=some (some (.ref acr))) (acs:nsIn K mainGlobals "NoBar"=some (some (.ref acu))) (acv:nsIn K mainGlobals "NoLength"=some (some (.ref acw))) (acx:nsIn K mainGlobals "TooMany"=some (some (.ref acy))) (acz:nsIn K mainGlobals "Frame"=some (some (.ref bV))) (acA:nsIn K mainGlobals "Hold"=some (some (.ref kN))) (acB:nsIn K mainGlobals "Roller"=some (some (.ref iq))) (acC:nsIn K mainGlobals "Fixed"=some (some (.ref j5))) (T_:PySem.W.plainGet K bV Str.empty=true) (Ua:PySem.W.hasDictIn K bV=true) (Ub:PySem.W.plainOver K bV=true) (Uc:PySem.W.findIn K (.ref bV) "__setattr__"=some (some (.builtin "object.__setattr__"))) (Ud:PySem.W.makesIn K bV=true) (Ue:keepIn K (.ref bV)=true) (Ug:PySem.W.findIn K (.ref bV) "__init__"=some (some (.ref EM))) (Uh:PySem.W.isFn K (.ref EM)=true) (acD:K.lookup EM=some ⟨amP,amQ,.func (fnOf "__init__" "Frame.__init__" (aD yQ) (ay yQ) (ag yQ) .none amR amS amT amU Ui amV),amW⟩) (acE:codeIn K Ui "Frame.__init__"=true) (Uj:keepIn K (.ref EM)=true) (acF:PySem.W.findIn K (.ref bV) "put_pin"=some (some (.ref JA))) (acG:PySem.W.isFn K (.ref JA)=true) (acH:K.lookup JA=some ⟨amX,amY,.func (fnOf "put_pin" "Frame.put_pin" (aD kK) (ay kK) (ag kK) (.ref EN) KW KY KZ K0 EO K1),amZ⟩) (Uk:K.lookup EN=some ⟨am0,acI,.seq #[.none] am1,acJ⟩) (acK:codeIn K EO "Frame.put_pin"=true) (Ul:keepIn K (.ref JA)=true) (acL:PySem.W.findIn K (.ref bV) "put_bar"=some (some (.ref JB))) (acM:PySem.W.isFn K (.ref JB)=true) (acN:K.lookup JB=some ⟨am2,am3,.func (fnOf "put_bar" "Frame.put_bar" (aD yR) (ay yR) (ag yR) .none am4 am5 am6 am7 Um am8),am9⟩) (acO:codeIn K Um "Frame.put_bar"=true) (Uo:keepIn K (.ref JB)=true) (acP:PySem.W.findIn K (.ref bV) "check_bar"=some (some (.ref JC))) (acQ:PySem.W.isFn K (.ref JC)=true) (acR:K.lookup JC=some ⟨am',ana,.func (fnOf "check_bar" "Frame.check_bar" (aD yS) (ay yS) (ag yS) .none anb anc ane anf Up ang),anh⟩) (acS:codeIn K Up "Frame.check_bar"=true) (Uq:keepIn K (.ref JC)=true) (acT:PySem.W.findIn K (.ref bV) "check_pin"=some (some (.ref JD))) (acU:PySem.W.isFn K (.ref JD)=true) (acV:K.lookup JD=some ⟨ani,anj,.func (fnOf "check_pin" "Frame.check_pin" (aD yT) (ay yT) (ag yT) .none ank anl anm ano Ur anp),anq⟩) (acW:codeIn K Ur "Frame.check_pin"=true) (Us:keepIn K (.ref JD)=true) (acX:PySem.W.findIn K (.ref bV) "pins"=some (some (.ref JE))) (acY:PySem.W.isFn K (.ref JE)=true) (acZ:K.lookup JE=some ⟨anr,ans,.func (fnOf "pins" "Frame.pins" (aD yU) (ay yU) (ag yU) .none ant anu anv anw Ut anx),anz⟩) (ac0:codeIn K Ut "Frame.pins"=true) (Uu:keepIn K (.ref JE)=true) (ac1:PySem.W.findIn K (.ref bV) "bars"=some (some (.ref JF))) (ac2:PySem.W.isFn K (.ref JF)=true) (ac3:K.lookup JF=some ⟨anA,anB,.func (fnOf "bars" "Frame.bars" (aD yV) (ay yV) (ag yV) .none anC anD anE anF Uv anG),anH⟩) (ac4:codeIn K Uv "Frame.bars"=true) (Uw:keepIn K (.ref JF)=true) (ac5:PySem.W.findIn K (.ref bV) "place"=some (some (.ref JG))) (ac6:PySem.W.isFn K (.ref JG)=true) (ac7:K.lookup JG=some ⟨anI,anJ,.func (fnOf "place" "Frame.place" (aD yW) (ay yW) (ag yW) .none anK anL anM anN Ux anO),anP⟩) (ac8:codeIn K Ux "Frame.place"=true) (Uy:keepIn K (.ref JG)=true) (ac9:PySem.W.findIn K (.ref bV) "ways"=some (some (.ref JH))) (ac':PySem.W.isFn K (.ref JH)=true) (ada:K.lookup JH=some ⟨anQ,anR,.func (fnOf "ways" "Frame.ways" (aD yX) (ay yX) (ag yX) .none anS anT anU anV Uz anW),anY⟩) (adb:codeIn K Uz "Frame.ways"=true) (UA:keepIn K (.ref JH)=true) (ade:PySem.W.findIn K (.ref bV) "ends"=some (some (.ref JI))) (adf:PySem.W.isFn K (.ref JI)=true) (adg:K.lookup JI=some ⟨anZ,an0,.func (fnOf "ends" "Frame.ends" (aD yY) (ay yY) (ag yY) .none an1 an2 an3 an4 UB an5),an6⟩) (adh:codeIn K UB "Frame.ends"=true) (UC:keepIn K (.ref JI)=true) (UD:PySem.W.plainGet K kN Str.empty=true) (UE:PySem.W.hasDictIn K kN=true) (UG:PySem.W.plainOver K kN=true) (UH:PySem.W.findIn K (.ref kN) "__setattr__"=some (some (.builtin "object.__setattr__"))) (UI:PySem.W.makesIn K kN=true) (UJ:keepIn K (.ref kN)=true) (UK:PySem.W.findIn K (.ref kN) "__init__"=some (some (.builtin "object.__init__"))) (adi:PySem.W.findIn K (.ref kN) "ways"=some (some (.ref JJ))) (adj:PySem.W.isFn K (.ref JJ)=true) (adk:K.lookup JJ=some ⟨an7,an8,.func (fnOf "ways" "Hold.ways" (aD IC) (ay IC) (ag IC) .none an9 an' aoa aob UL aoc),aod⟩) (adl:codeIn K UL "Hold.ways"=true) (UM:keepIn K (.ref JJ)=true) (UN:PySem.W.plainGet K iq Str.empty=true) (UO:PySem.W.hasDictIn K iq=true) (UP:PySem.W.plainOver K iq=true) (UQ:PySem.W.findIn K (.ref iq) "__setattr__"=some (some (.builtin "object.__setattr__"))) (UR:PySem.W.makesIn K iq=true) (US:keepIn K (.ref iq)=true) (UT:PySem.W.findIn K (.ref iq) "__init__"=some (some (.ref ER))) (UU:PySem.W.isFn K (.ref ER)=true) (adm:K.lookup ER=some ⟨aoe,aof,.func (fnOf "__init__" "Roller.__init__" (aD yZ) (ay yZ) (ag yZ) .none aog aoh aoi aoj UW aok),aol⟩) (adn:codeIn K UW "Roller.__init__"=true) (UX:keepIn K (.ref ER)=true) (ado:PySem.W.findIn K (.ref iq) "ways"=some (some (.ref JK))) (adp:PySem.W.isFn K (.ref JK)=true) (adq:K.lookup JK=some ⟨aom,aon,.func (fnOf "ways" "Roller.ways" (aD y4) (ay y4) (ag y4) .none aoo aop aoq aor UY aos),aot⟩) (ads:codeIn K UY "Roller.ways"=true) (UZ:keepIn K (.ref JK)=true) (U0:PySem.W.plainGet K j5 Str.empty=true) (U1:PySem.W.hasDictIn K j5=true) (U2:PySem.W.plainOver K j5=true) (U3:PySem.W.findIn K (.ref j5) "__setattr__"=some (some (.builtin "object.__setattr__"))) (U4:PySem.W.makesIn K j5=true) (U5:keepIn K (.ref j5)=true) (U6:PySem.W.findIn K (.ref j5) "__init__"=some (some (.builtin "object.__init__"))) (adt:PySem.W.findIn K (.ref j5) "ways"=some (some (.ref JL))) (adu:PySem.W.isFn K (.ref JL)=true) (adv:K.lookup JL=some ⟨aou,aov,.func (fnOf "ways" "Fixed.ways" (aD y6) (ay y6) (ag y6) .none aow aox aoy aoz U7 aoA),aoB⟩) (adw:codeIn K U7 "Fixed.ways"=true) (U8:keepIn K (.ref JL)=true) (ES:PySem.W.findIn K (.ref bV) "pin_places"=some none) (Nl:PySem.W.findIn K (.ref bV) "pin_ways"=some none) (Nn:PySem.W.findIn K (.ref bV) "bar_ends"=some none) (K2:PySem.W.findIn K (.ref iq) "way"=some none) (ht:l.prog.given.tree=none):
  ∃fd:FuncData,(∀(s:Shared) (v:Value),BindsTo s fd ⟨[v],[]⟩ [("_law_script",v)])∧∀base:Heap,K.In base→base.Ns mainGlobals mg→cM l.prog w K mg base (a9 l.prog w) 42 fa fd ["_law_script"] (AX K):=by
 have e:=hfa.symm.trans (mg_of X G TU)
 cases e
 have adx:Def K mg "difference_of" vf ["one","other"]:=eZ X G YY YZ Y0 YX
 have ady:Def K mg "lowest_terms" tJ ["top","bottom"]:=eZ X G Y2 Y3 Y4 Y1
 have adz:Def K mg "greatest_shared" x_ ["one","other"]:=eZ X G Y6 Y7 Y8 Y5
 have adA:Def K mg "arm_between" ya ["F","one","other"]:=eZ X G Y_ Y' Za Y9
 have adB:Def K mg "pair_difference" vg ["one","other"]:=eZ X G Zd Ze Zf Zc
 have adC:Def K mg "pair_row" yb ["F","draws"]:=eZ X G Zh Zi Zj Zg
 have adD:Def K mg "load_row" yc ["F","load"]:=eZ X G Zl Zm Zn Zk
 have adE:Def K mg "bar_row" yd ["F","one","other"]:=eZ X G Zp Zq Zr Zo
 have adF:Def K mg "draw_rows" ye ["F"]:=eZ X G Zt Zu Zv Zs
 have adG:Def K mg "pulls_and_pushes" yf ["F","numbers"]:=eZ X G Zx Zy Zz Zw
 have adH:Def K mg "motion_from" yg ["F","numbers"]:=eZ X G ZC ZD ZE ZA
 have adI:Def K mg "solve_rows" yh ["rows","due","many"]:=eZ X G ZG ZH ZI ZF
 have adJ:Def K mg "turned" yi ["rows","many"]:=eZ X G ZK ZL ZM ZJ
 have adK:Def K mg "whole_row" yj ["row"]:=eZ X G ZO ZP ZQ ZN
 have adL:Def K mg "solution_of" yk ["lines","many"]:=eZ X G ZS ZT ZU ZR
 have adM:Def K mg "reduced" ym ["lines","many"]:=eZ X G ZW ZX ZY ZV
 have adN:Def K mg "first_not_nought" yn ["lines","column"]:=eZ X G Z0 Z1 Z2 ZZ
 have adO:Def K mg "cleared" yo ["line","lead","column"]:=eZ X G Z4 Z5 Z6 Z3
 have adP:Def K mg "divided" yp ["line"]:=eZ X G Z8 Z9 Z_ Z7
 have adQ:Def K mg "rest_of" yq ["F","load"]:=eZ X G aaa aab aac Z'
 have adR:Def K mg "_law_cell_at" yr ["_law_script","_law_k"]:=eZ X G aae aaf aag aad
 have adS:Def K mg "_law_field" yt ["_law_cell","_law_prime","_law_many"]:=eZ X G aai aaj aak aah
 have adT:Def K mg "_law_lowest" yu ["_law_top","_law_bottom"]:=eZ X G aam aan aao aal
 have adU:Def K mg "_law_sum" yv ["_law_one","_law_other"]:=eZ X G aaq aar aas aap
 have adV:Def K mg "_law_times" yw ["_law_one","_law_other"]:=eZ X G aau aav aaw aat
 have adW:Def K mg "_law_turned" yx ["_law_one"]:=eZ X G aay aaz aaA aax
 have adX:Def K mg "_law_name" vh ["_law_cell","_law_k"]:=eZ X G aaC aaD aaE aaB
 have adY:Def K mg "_law_spot" yy ["_law_cell","_law_kind"]:=eZ X G aaG aaH aaI aaF
 have adZ:Def K mg "_law_ways" yz ["_law_cell"]:=eZ X G aaK aaL aaM aaJ
 have ad0:Def K mg "_law_pins" yA ["_law_script"]:=eZ X G aaO aaP aaQ aaN
 have ad1:Def K mg "_law_bars" yB ["_law_script","_law_pins_here"]:=eZ X G aaS aaT aaU aaR
 have ad2:Def K mg "_law_frame" yC ["_law_pins_here","_law_bars_here"]:=eZ X G aaW aaX aaY aaV
 have ad3:Def K mg "_law_arm" yD ["_law_pins_here","_law_bar","_law_axis"]:=eZ X G aa0 aa1 aa2 aaZ
 have ad4:Def K mg "_law_add" yE ["_law_found","_law_k","_law_axis","_law_draw"]:=eZ X G aa4 aa5 aa6 aa3
 have ad5:Def K mg "_law_forces" yF ["_law_pins_here","_law_bars_here","_law_pulls","_law_pushes"]:=eZ X G aa8 aa9 aa' aa7
 have ad6:Def K mg "_law_number" yG ["_law_x"]:=eZ X G abb abc abd aba
 have ad7:Def K mg "_law_are_forces" yH ["_law_pins_here","_law_bars_here","_law_pulls","_law_pushes"]:=eZ X G abf abg abh abe
 have ad8:Def K mg "_law_is_motion" yI ["_law_pins_here","_law_motion"]:=eZ X G abj abk abl abi
 have ad9:Def K mg "_law_at_rest" yJ ["_law_pins_here","_law_bars_here","_law_pulls","_law_pushes","_law_load_here"]:=eZ X G abn abo abp abm
 have ad':Def K mg "_law_dot" yK ["_law_one","_law_other"]:=eZ X G abr abu abv abq
 have aea:Def K mg "_law_longer" yL ["_law_pins_here","_law_bar","_law_motion"]:=eZ X G abx aby abz abw
 have aeb:Def K mg "_law_keeps" yM ["_law_pins_here","_law_motion"]:=eZ X G abB abC abD abA
 have aec:Def K mg "_law_work" yN ["_law_load_here","_law_motion"]:=eZ X G abF abG abH abE
 have aed:Def K mg "_law_load" s_by ["_law_script","_law_pins_here"]:=eZ X G abJ abK abL abI
 have aee:Def K mg "_law_borne" yO ["_law_script","_law_pins_here","_law_bars_here"]:=eZ X G abN abO abP abM
 have aef:Def K mg "_law_right" yP ["_law_pins_here","_law_bars_here","_law_told","_law_load_here"]:=eZ X G abR abS abT abQ
 have rM:Def K mg "_law_spoilt" cY ["_law_pins_here","_law_told"]:=eZ X G rF rG rH rE
 have ur:Def K mg "_law_stays" dw ["_law_frame_here","_law_pins_here","_law_bars_here"]:=eZ X G uk um uo uh
 have fC:rY K bV:=⟨T_,Ua,Ub,Uc⟩
 have MI:Mk K bV EM:=⟨Ud,Ug,Uh,Ue⟩
 have U9:=c8 (st:=yQ) acD acE Uj
 have MK:=U9.x9 (ps:=["self"])
 have asr:Meth K bV "__init__" EM:=⟨Ug,Uh,Uj⟩
 have aeg:=HU (st:=kK) acH acK Ul
 have aeh:Binds K (fnOf "put_pin" "Frame.put_pin" (aD kK) (ay kK) (ag kK) (.ref EN) KW KY KZ K0 EO K1) ["self","name","x","y","hold"] []:=fun s us X hl=>match us,hl with | [_,_,_,_,_],_=>BindsTo.of_defaults rfl (X _ _ Uk) rfl rfl rfl
 have U_:Binds K (fnOf "put_pin" "Frame.put_pin" (aD kK) (ay kK) (ag kK) (.ref EN) KW KY KZ K0 EO K1) ["self","name","x","y","hold"] [.none]:=fun s us X hl=>match us,(show us.length=4 by simpa using hl) with | [_,_,_,_],_=>BindsTo.of_defaults rfl (X _ _ Uk) rfl rfl rfl
 have Va:Meth K bV "put_pin" JA:=⟨acF,acG,Ul⟩
 have Vb:=c8 (st:=yR) acN acO Uo
 have aei:=Vb.x9 (ps:=["self","name","one","other"])
 have aej:Meth K bV "put_bar" JB:=⟨acL,acM,Uo⟩
 have Vc:=c8 (st:=yS) acR acS Uq
 have aek:=Vc.x9 (ps:=["self","name","one","other"])
 have ael:Meth K bV "check_bar" JC:=⟨acP,acQ,Uq⟩
 have Vd:=c8 (st:=yT) acV acW Us
 have aem:=Vd.x9 (ps:=["self","pin"])
 have aen:Meth K bV "check_pin" JD:=⟨acT,acU,Us⟩
 have Ve:=c8 (st:=yU) acZ ac0 Uu
 have aeo:=Ve.x9 (ps:=["self"])
 have aep:Meth K bV "pins" JE:=⟨acX,acY,Uu⟩
 have Vf:=c8 (st:=yV) ac3 ac4 Uw
 have aeq:=Vf.x9 (ps:=["self"])
 have aer:Meth K bV "bars" JF:=⟨ac1,ac2,Uw⟩
 have Vg:=c8 (st:=yW) ac7 ac8 Uy
 have aes:=Vg.x9 (ps:=["self","pin"])
 have aet:Meth K bV "place" JG:=⟨ac5,ac6,Uy⟩
 have Vh:=c8 (st:=yX) ada adb UA
 have aeu:=Vh.x9 (ps:=["self","pin"])
 have aev:Meth K bV "ways" JH:=⟨ac9,ac',UA⟩
 have Vi:=c8 (st:=yY) adg adh UC
 have aew:=Vi.x9 (ps:=["self","bar"])
 have aex:Meth K bV "ends" JI:=⟨ade,adf,UC⟩
 have cls_cm:rY K kN:=⟨UD,UE,UG,UH⟩
 have ass:OJ K kN:=⟨UI,UK,UJ⟩
 have aey:=c8 (st:=IC) adk adl UM
 have asu:=aey.x9 (ps:=["self"])
 have asv:Meth K kN "ways" JJ:=⟨adi,adj,UM⟩
 have vI:rY K iq:=⟨UN,UO,UP,UQ⟩
 have MR:Mk K iq ER:=⟨UR,UT,UU,US⟩
 have Vj:=c8 (st:=yZ) adm adn UX
 have MS:=Vj.x9 (ps:=["self","x","y"])
 have asw:Meth K iq "__init__" ER:=⟨UT,UU,UX⟩
 have Vk:=c8 (st:=y4) adq ads UZ
 have aez:=Vk.x9 (ps:=["self"])
 have aeA:Meth K iq "ways" JK:=⟨ado,adp,UZ⟩
 have Np:rY K j5:=⟨U0,U1,U2,U3⟩
 have MQ:OJ K j5:=⟨U4,U6,U5⟩
 have Vl:=c8 (st:=y6) adv adw U8
 have aeB:=Vl.x9 (ps:=["self"])
 have aeC:Meth K j5 "ways" JL:=⟨adt,adu,U8⟩
 have Mo:=mg_of X G abX
 have Mq:=mg_of X G abY
 have ze:mg "NOUGHT"=some (.ref Nf):=mg_of X G abZ
 have My:mg "ONE"=some (.ref Ng):=mg_of X G ab3
 have Mr:mg "NO_MOVE"=some (.ref Nh):=mg_of X G ab7
 have asx:mg "YardError"=some (.ref acg):=mg_of X G acf
 have asy:mg "NoWay"=some (.ref aci):=mg_of X G ach
 have asz:mg "PinThere"=some (.ref ack):=mg_of X G acj
 have asA:mg "SpotTaken"=some (.ref acn):=mg_of X G acm
 have asB:mg "NoPin"=some (.ref acp):=mg_of X G aco
 have asC:mg "BarThere"=some (.ref acr):=mg_of X G acq
 have asD:mg "NoBar"=some (.ref acu):=mg_of X G acs
 have asE:mg "NoLength"=some (.ref acw):=mg_of X G acv
 have asF:mg "TooMany"=some (.ref acy):=mg_of X G acx
 have MJ:mg "Frame"=some (.ref bV):=mg_of X G acz
 have asG:mg "Hold"=some (.ref kN):=mg_of X G acA
 have MM:mg "Roller"=some (.ref iq):=mg_of X G acB
 have MO:mg "Fixed"=some (.ref j5):=mg_of X G acC
 have JM:mg "ValueError"=none:=mg_none_of X G rK
 have pD:mg "abs"=none:=mg_none_of X G T2
 have w_:mg "all"=none:=mg_none_of X G T3
 have CN:mg "any"=none:=mg_none_of X G T4
 have vC:mg "bool"=none:=mg_none_of X G Ni
 have dH:mg "dict"=none:=mg_none_of X G Nj
 have dy:mg "enumerate"=none:=mg_none_of X G uq
 have pK:mg "int"=none:=mg_none_of X G T5
 have bo:mg "isinstance"=none:=mg_none_of X G rL
 have a_:mg "len"=none:=mg_none_of X G T6
 have bN:mg "list"=none:=mg_none_of X G Nk
 have DT:mg "min"=none:=mg_none_of X G T7
 have bu:mg "range"=none:=mg_none_of X G Jy
 have DO:mg "str"=none:=mg_none_of X G T8
 have eV:mg "tuple"=none:=mg_none_of X G Jz
 have iy:mg "zip"=none:=mg_none_of X G T9
 have F:=c8 (st:=jg) TV TX TY
 refine ⟨fnOf "law" "law" (aD jg) (ay jg) (ag jg) .none M_ Na Nb Nc EL Nd,fun s v=>.of_eq rfl,fun base _ _=> ?_⟩
 have hM:sy (a9 l.prog w):=a9.mh
 have hN:∀H:Hp,bL K H Nf [.int 0,.int 1]:=fun H=>.inr ⟨_,_,_,ab0,rfl,rfl,(by show 2≤sizeLine;decide),.cons ⟨_,rfl⟩ (.cons ⟨_,rfl⟩ .nil)⟩
 have hO:∀H:Hp,bL K H Ng [.int 1,.int 1]:=fun H=>.inr ⟨_,_,_,ab4,rfl,rfl,(by show 2≤sizeLine;decide),.cons ⟨_,rfl⟩ (.cons ⟨_,rfl⟩ .nil)⟩
 have nm:∀{c:Addr} {o:Option Addr} {k0 k1:Tok} {n:Nat} {sl:Array (Option Value)},K.lookup c=some ⟨.type "tuple",o,.seq #[.int 0 k0,.int 1 k1] n,sl⟩→∀H:Hp,eQ K H (.ref c) 0:=fun t H=>⟨_,rfl,by rw [cK];exact .inr ⟨_,_,_,t,rfl,rfl,(by show 2≤sizeLine;decide),.cons ⟨_,rfl⟩ (.cons ⟨_,rfl⟩ .nil)⟩⟩
 have hMo:∀H:Hp,d7 K H (.ref Nh) (0,0):=fun H=>⟨_,.ref TZ,.ref T1,rfl,.inr ⟨_,_,_,ab8,rfl,rfl,(by show 2≤sizeLine;decide),.cons rfl (.cons rfl .nil)⟩,nm ab9 H,nm acb H⟩
 have fc:BR K bV:=⟨fC,ES,Nl,Nn⟩
 have G1:=Pp (P:=l.prog) (w:=w) (base:=base) (CX:=a9 l.prog w) adz pD
 have G2:=Pq ht ady G1
 have GW:=Pw adK G1
 have GDv:=Px ht adP G1
 have GCl:=Py ht adO iy G1 GDv
 have GF:=Pz (P:=l.prog) (w:=w) (base:=base) adN dy
 have GR:=PD adM bu bN GF GCl
 have GS:=PQ hN ze adL CN GR G2
 have aeD:=PY adI iy a_ GW GS (PV adJ bu) G2
 have GD:=Mm (P9 hM adx G2)
 have GPD:=Qa hM adB GD
 have GI:=Qd (P:=l.prog) (w:=w) (mg:=mg) (base:=base) U9 fc
 have MBs:bJ l.prog w K mg base (a9 l.prog w) 1 bV "bars" ["self"] (jY K bV):=⟨_,_,fC,aer,Qf Vf fc bN,aeq⟩
 have Jo:bJ l.prog w K mg base (a9 l.prog w) 1 bV "pins" ["self"] (fO K bV):=⟨_,_,fC,aep,Qh Ve fc bN,aeo⟩
 have MCp:bJ l.prog w K mg base (a9 l.prog w) 1 bV "check_pin" ["self","pin"] (dS K bV):=⟨_,_,fC,aen,Qj Vd fc,aem⟩
 have MCb:bJ l.prog w K mg base (a9 l.prog w) 2 bV "check_bar" ["self","name","one","other"] (gv K bV):=⟨_,_,fC,ael,Qz Vc fc Mq a_ MCp,aek⟩
 have Yh:bJ l.prog w K mg base (a9 l.prog w) 3 bV "put_bar" ["self","name","one","other"] (js K bV):=⟨_,_,fC,aej,QD Vb fc MCb,aei⟩
 have okP:=Qx (P:=l.prog) (w:=w) (mg:=mg) (base:=base) aeg fc Mo a_ bN
 have VX:bJ l.prog w K mg base (a9 l.prog w) 3 bV "put_pin" ["self","name","x","y","hold"] (dW l.prog w K mg base bV):=⟨_,_,fC,Va,okP,aeh⟩
 have Yi:u3 l.prog w K mg base (a9 l.prog w) 3 bV "put_pin" ["self","name","x","y","hold"] [.none] (dW l.prog w K mg base bV):=⟨_,_,fC,Va,okP,U_⟩
 have V7:bJ l.prog w K mg base (a9 l.prog w) 2 bV "place" ["self","pin"] (jo K bV):=⟨_,_,fC,aet,Ql Vg fc MCp,aes⟩
 have ME:bJ l.prog w K mg base (a9 l.prog w) 1 bV "ends" ["self","bar"] (mS K bV):=⟨_,_,fC,aex,Qn Vi fc,aew⟩
 have MW:bJ l.prog w K mg base (a9 l.prog w) 2 bV "ways" ["self","pin"] (jZ K bV):=⟨_,_,fC,aev,Qp Vh fc bN MCp,aeu⟩
 have wR:bJ l.prog w K mg base (a9 l.prog w) 1 iq "ways" ["self"] (jq K iq):=⟨_,_,vI,aeA,Qt Vk vI K2,aez⟩
 have wF:bJ l.prog w K mg base (a9 l.prog w) 1 j5 "ways" ["self"] (jr K):=⟨_,_,Np,aeC,Qv Vl,aeB⟩
 have GRI:=Qr (P:=l.prog) (w:=w) (mg:=mg) (base:=base) Vj vI K2
 have GA:=QF adA V7 GPD
 have GPR:=QG hMo Mr adC Jo
 have GBR:=QJ adE GA GPR
 have GDR:=QL adF Jo MW MBs ME GPR GBR
 have GPP:=QM adG a_ dH iy Jo MW MBs
 have GMF:=QP adH dy Jo
 have GLR:=QH adD Jo GPR
 have GRO:=QS hN ze hO My adQ a_ Jo GDR GLR aeD GMF GPP
 have GC:=QW (P:=l.prog) (w:=w) (base:=base) (CX:=a9 l.prog w) adR a_
 have K3:=QY (P:=l.prog) (w:=w) (base:=base) (CX:=a9 l.prog w) adS
 have Vm:=QZ (w:=w) (base:=base) ht adT pD
 have Nq:=Q3 (P:=l.prog) (w:=w) (base:=base) adU
 have GTi:=Q6 (P:=l.prog) (w:=w) (base:=base) adV
 have GTu:=Q8 (P:=l.prog) (w:=w) (base:=base) adW
 have GNa:=Q9 hM adX DO K3
 have GSp:=Q_ adY K3 Vm
 have GWy:=Ra adZ K3 Vm
 have GPi:=Rf ad0 bu DT GC K3 GSp GWy GNa Nq
 have GBa:=Rg ad1 bu a_ GC K3 GNa
 have GFr:=Rh ad2 a_ MI MJ GI MK MM MO MQ MR GRI MS (wR.mono (by decide)) (wF.mono (by decide)) Yh VX Yi
 have GAr:=Rk ad3 Nq GTu
 have GDo:=Rm ad' Nq GTi
 have GAd:=Rr ad4 Nq
 have GFo:=Rt ad5 a_ bu GTi GTu GAr GAd
 have GNu:=Ru ad6 a_ bo pK vC eV Vm
 have GAF:=Rv ad7 bo dH bN a_ w_ GNu
 have GIM:=Rw ad8 bo dH bN eV a_ GNu
 have GAR:=Rx ad9 a_ bu GFo Nq
 have GLg:=Rn aea bu Nq GTu GAr GDo
 have GKp:=Ro aeb GDo
 have GWk:=Rz aec Nq GDo
 have GLd:=RA aed bu a_ pK GC K3 Vm
 have GBo:=RB aee a_ bu GC K3 GFo Vm
 have GRt:=RE aef a_ bo eV GAF GAR GIM GLg GKp GWk
 have GSl:=oz (P:=l.prog) (w:=w) (base:=base) rM a_
 have GSt:=rC ur Jo MBs V7 MW ME
 exact M3 F bN dH GC K3 GPi GBa GFr GLd GBo GRO GRt GSl GSt
end T_k34
open PySem PySem.W PyProof.Rows
set_option maxRecDepth 100000 in
set_option maxHeartbeats 0 in
theorem PySem.Challenge.cw_trussyard_k34_whole_rest_or_motion_holds : PySem.Challenge.rw_trussyard_k34_whole_rest_or_motion.Holds := by
 w_on;o_law;k_head;(case hw=>w_witness2)
 k_fill
 refine Ty.walk (l:=PySem.Challenge.rw_trussyard_k34_whole_rest_or_motion) (x:="_law_script") (k:=42) (CX:=fun w=>Ty.a9 (PySem.Challenge.rw_trussyard_k34_whole_rest_or_motion).prog w) rfl rfl (by first | rfl | decide+kernel) ⟨rfl,by decide,by decide⟩ (fun w h Y=>PySem.W.kIn_of Y) (fun w=>Ty.a9.mh) ?F
 case F=>
  intro w mg fa h KX G OF
  refine' T_k34.all_mk KX G OF ?A0 ?A1 ?A2 ?A3 ?A4 ?A5 ?A6 ?A7 ?A8 ?A9 ?Aa ?Ab ?Ac ?Ad ?Ae ?Af ?Ag ?Ah ?Ai ?Aj ?Ak ?Al ?Am ?An ?Ao ?Ap ?Aq ?Ar ?As ?At ?Au ?Av ?Aw ?Ax ?Ay ?Az ?B0 ?B1 ?B2 ?B3 ?B4 ?B5 ?B6 ?B7 ?B8 ?B9 ?Ba ?Bb ?Bc ?Bd ?Be ?Bf ?Bg ?Bh ?Bi ?Bj ?Bk ?Bl ?Bm ?Bn ?Bo ?Bp ?Bq ?Br ?Bs ?Bt ?Bu ?Bv ?Bw ?Bx ?By ?Bz ?C0 ?C1 ?C2 ?C3 ?C4 ?C5 ?C6 ?C7 ?C8 ?C9 ?Ca ?Cb ?Cc ?Cd ?Ce ?Cf ?Cg ?Ch ?Ci ?Cj ?Ck ?Cl ?Cm ?Cn ?Co ?Cp ?Cq ?Cr ?Cs ?Ct ?Cu ?Cv ?Cw ?Cx ?Cy ?Cz ?D0 ?D1 ?D2 ?D3 ?D4 ?D5 ?D6 ?D7 ?D8 ?D9 ?Da ?Db ?Dc ?Dd ?De ?Df ?Dg ?Dh ?Di ?Dj ?Dk ?Dl ?Dm ?Dn ?Do ?Dp ?Dq ?Dr ?Ds ?Dt ?Du ?Dv ?Dw ?Dx ?Dy ?Dz ?E0 ?E1 ?E2 ?E3 ?E4 ?E5 ?E6 ?E7 ?E8 ?E9 ?Ea ?Eb ?Ec ?Ed ?Ee ?Ef ?Eg ?Eh ?Ei ?Ej ?Ek ?El ?Em ?En ?Eo ?Ep ?Eq ?Er ?Es ?Et ?Eu ?Ev ?Ew ?Ex ?Ey ?Ez ?F0 ?F1 ?F2 ?F3 ?F4 ?F5 ?F6 ?F7 ?F8 ?F9 ?Fa ?Fb ?Fc ?Fd ?Fe ?Ff ?Fg ?Fh ?Fi ?Fj ?Fk ?Fl ?Fm ?Fn ?Fo ?Fp ?Fq ?Fr ?Fs ?Ft ?Fu ?Fv ?Fw ?Fx ?Fy ?Fz ?G0 ?G1 ?G2 ?G3 ?G4 ?G5 ?G6 ?G7 ?G8 ?G9 ?Ga ?Gb ?Gc ?Gd ?Ge ?Gf ?Gg ?Gh ?Gi ?Gj ?Gk ?Gl ?Gm ?Gn ?Go ?Gp ?Gq ?Gr ?Gs ?Gt ?Gu ?Gv ?Gw ?Gx ?Gy ?Gz ?H0 ?H1 ?H2 ?H3 ?H4 ?H5 ?H6 ?H7 ?H8 ?H9 ?Ha ?Hb ?Hc ?Hd ?He ?Hf ?Hg ?Hh ?Hi ?Hj ?Hk ?Hl ?Hm ?Hn ?Ho ?Hp ?Hq ?Hr ?Hs ?Ht ?Hu ?Hv ?Hw ?Hx ?Hy ?Hz ?I0 ?I1 ?I2 ?I3 ?I4 ?I5 ?I6 ?I7 ?I8 ?I9 ?Ia ?Ib ?Ic ?Id ?Ie ?If ?Ig ?Ih ?Ii ?Ij ?Ik ?Il ?Im ?In ?Io ?Ip ?Iq ?Ir ?Is ?It ?Iu ?Iv ?Iw ?Ix ?Iy ?Iz ?J0 ?J1 ?J2 ?J3 ?J4 ?J5 ?J6 ?J7 ?J8 ?J9 ?Ja ?Jb ?Jc
  (case A0|A1|A2|A3|A4|A5|A6|A7|A8|A9|Aa|Ab|Ac|Ad|Ae|Af|Ag|Ah|Ai|Aj|Ak|Al|Am|An|Ao|Ap|Aq|Ar|As|At|Au|Av|Aw|Ax|Ay|Az|B0|B1|B2|B3|B4|B5|B6|B7|B8|B9|Ba|Bb|Bc|Bd|Be|Bf|Bg|Bh|Bi|Bj|Bk|Bl|Bm|Bn|Bo|Bp|Bq|Br|Bs|Bt|Bu|Bv|Bw|Bx|By|Bz|C0|C1|C2|C3|C4|C5|C6|C7|C8|C9|Ca|Cb|Cc|Cd|Ce|Cf|Cg|Ch|Ci|Cj|Ck|Cl|Cm|Cn|Co|Cp|Cq|Cr|Cs|Ct|Cu|Cv|Cw|Cx|Cy|Cz|D0|D1|D2|D3|D4|D5|D6|D7|D8|D9|Da|Db|Dc|Dd|De|Df|Dg|Dh|Di|Dj|Dk|Dl|Dm|Dn|Do|Dp|Dq|Dr|Ds|Dt|Du|Dv|Dw|Dx|Dy|Dz|E0|E1|E2|E3|E4|E5|E6|E7|E8|E9|Ea|Eb|Ec|Ed|Ee|Ef|Eg|Eh|Ei|Ej|Ek|El|Em|En|Eo|Ep|Eq|Er|Es|Et|Eu|Ev|Ew|Ex|Ey|Ez|F0|F1|F2|F3|F4|F5|F6|F7|F8|F9|Fa|Fb|Fc|Fd|Fe|Ff|Fg|Fh|Fi|Fj|Fk|Fl|Fm|Fn|Fo|Fp|Fq|Fr|Fs|Ft|Fu|Fv|Fw|Fx|Fy|Fz|G0|G1|G2|G3|G4|G5|G6|G7|G8|G9|Ga|Gb|Gc|Gd|Ge|Gf|Gg|Gh|Gi|Gj|Gk|Gl|Gm|Gn|Go|Gp|Gq|Gr|Gs|Gt|Gu|Gv|Gw|Gx|Gy|Gz|H0|H1|H2|H3|H4|H5|H6|H7|H8|H9|Ha|Hb|Hc|Hd|He|Hf|Hg|Hh|Hi|Hj|Hk|Hl|Hm|Hn|Ho|Hp|Hq|Hr|Hs|Ht|Hu|Hv|Hw|Hx|Hy|Hz|I0|I1|I2|I3|I4|I5|I6|I7|I8|I9|Ia|Ib|Ic|Id|Ie|If|Ig|Ih|Ii|Ij|Ik|Il|Im|In|Io|Ip|Iq|Ir|Is|It|Iu|Iv|Iw|Ix|Iy|Iz|J0|J1|J2|J3|J4|J5|J6|J7|J8|J9|Ja|Jb=>k_is);(case Jc=>rfl)
#print axioms PySem.Challenge.cw_trussyard_k34_whole_rest_or_motion_holds
